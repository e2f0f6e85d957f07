import PyProof.Rows.All
import KE.KFind
import KE.KLam
import KE.KTryMore
import KE.LcSums
import KE.KRevSl
import Lean
import PySem.Challenge.RW_matefloors_k39_wishes_told
set_option Elab.async false
set_option linter.all false
set_option maxRecDepth 100000
set_option maxHeartbeats 4000000
set_option genSizeOf false
namespace L2
open PySem PySem.W
def o9 : Sem Fin → Bool
  | .choose .. => false
  | .os .. => false
  | _ => true
theorem Ql {den : Code → Sem Fin} {p : Program} {w : World} {os : OsState} {s s' : Shared} {t t' : Thread} (h : o9 t.cur = true) (e : step den p ⟨fun _ _ => 0, w.params⟩ s t = .go s' t') :
    step den p w { s with os := os } t = .go { s' with os := os } t' := by
  obtain ⟨heap, gens, drawn, toks, os0⟩ := s
  obtain ⟨cur, code, pos, stack⟩ := t
  cases cur <;> simp only [step, finish, o9] at e h ⊢ <;> (try (cases h; done)) <;> (repeat' split at e) <;> simp_all <;> (try (obtain ⟨rfl, rfl⟩ := e; simp_all)) <;> (try (obtain ⟨h1, h2⟩ := e; subst h1; rfl))
def vB (tb : String → Option Builtin) (p : Program) (P : Params) (n₀ : Nat) (ann : Option Value) : Nat → Shared → Thread → Option Shared
  | 0, _, _ => none
  | n + 1, s, t => match through t with
    | true => some s
    | false => match stepOk n₀ ann t && o9 t.cur with
      | false => none
      | true => match step (denote tb) p ⟨fun _ _ => 0, P⟩ s t with
        | .go s' t' => vB tb p P n₀ ann n s' t'
        | .halt _ _ => none
theorem AD {tb : String → Option Builtin} {p : Program} {w : World} {n₀ : Nat} {ann : Option Value} {os : OsState} : ∀ {n : Nat} {s s' : Shared} {t : Thread}, vB tb p w.params n₀ ann n s t = some s' → topRun tb p w n₀ ann n { s with os := os } t = some { s' with os := os }
  | 0, _, _, _, h => by cases h
  | n + 1, s, s', t, h => by
    unfold vB at h
    unfold topRun
    cases ht : through t with
    | true => rw [ht] at h; cases h; rfl
    | false =>
      rw [ht] at h
      cases hk : (stepOk n₀ ann t && o9 t.cur) with
      | false => rw [hk] at h; cases h
      | true =>
        rw [hk] at h
        obtain ⟨k1, k2⟩ := Bool.and_eq_true_iff.mp hk
        cases hs : step (denote tb) p ⟨fun _ _ => 0, w.params⟩ s t with
        | halt o s₂ => rw [hs] at h; cases h
        | go s₂ t₂ =>
          rw [hs] at h
          rw [k1, Ql (os := os) k2 hs]
          exact AD h
noncomputable def yY (p : Program) (P : Params) (n₀ : Nat) (ann : Option Value) : Nat → Shared → Thread → Option Shared
  | 0, _, _ => none
  | n + 1, s, t => match through t with
    | true => some s
    | false => match Fast.tw6613529449190102663 n₀ ann t && o9 t.cur with
      | false => none
      | true => match Fast.tw8437177126325714943 (Fast.tw11892475500146522536 Fast.tw14364793385576792824) p ⟨fun _ _ => 0, P⟩ s t with
        | .go s' t' => yY p P n₀ ann n s' t'
        | .halt _ _ => none
theorem zN {p : Program} {P : Params} {n₀ : Nat} {ann : Option Value} : ∀ (n : Nat) (s : Shared) (t : Thread), yY p P n₀ ann n s t = vB treeTable p P n₀ ann n s t
  | 0, _, _ => rfl
  | n + 1, s, t => by
    unfold yY vB
    rw [← Fast.te6613529449190102663, ← Fast.te8437177126325714943, ← Fast.te11892475500146522536, ← Fast.te14364793385576792824]
    cases through t with
    | true => rfl
    | false =>
      cases (stepOk n₀ ann t && o9 t.cur) with
      | false => rfl
      | true =>
        cases step (denote treeTable) p ⟨fun _ _ => 0, P⟩ s t with
        | halt o s₂ => rfl
        | go s₂ t₂ => exact zN n s₂ t₂
end L2
namespace L2
open PySem
def tE (s : Stmt) : Arguments := match s with
  | .FunctionDef _ a _ _ _ _ _ _ _ _ => a
  | _ => { posonlyargs := [], args := [], vararg := none, kwonlyargs := [], kw_defaults := [], kwarg := none, defaults := [] }
def mR (s : Stmt) : List Stmt := match s with
  | .FunctionDef _ _ b _ _ _ _ _ _ _ => b
  | _ => []
def aC (s : Stmt) : Scope := match s with
  | .FunctionDef _ _ _ _ _ _ sc _ _ _ => sc
  | _ => { kind := .function, names := [], isGenerator := false, isCoroutine := false }
end L2
namespace L2.DL
open PySem
def Nc : List Str := ["law", "_law_is_right", "_law_is_put", "_law_are_refused", "_law_is_told", "_law_said", "_law_is_plan_told"]
def fq (o : Obj) : Option (Addr × Str) := match o.cls, o.data with
  | .type c, .fields vs => if c = "code" then (match vs[1]?, vs[7]?, vs[9]?, vs[10]?, vs[11]?, vs[18]? with
    | some (Value.str q _), some (Value.int _ _), some (Value.bool _), some (Value.int _ _), some (Value.ref P), some (Value.str _ _) => if Nc.contains q = true then some (P, q) else none
    | _, _, _, _, _, _ => none) else none
  | _, _ => none
end L2.DL
namespace K39
open PySem L2
def top (i : Nat) : Stmt := PySem.Challenge.pw_matefloors_k39_wishes_told.main.body.getD i (.Pass ⟨0, 0, 0, 0⟩)
abbrev jN : Stmt := top 7
abbrev d8 : Stmt := top 8
abbrev i8 : Stmt := top 9
abbrev d6 : Stmt := top 10
abbrev oA : Stmt := top 11
abbrev wL : Stmt := top 12
abbrev xy : Stmt := top 13
abbrev xM : Stmt := top 14
abbrev tj : Stmt := top 15
abbrev wV : Stmt := top 16
abbrev jW : Stmt := top 17
abbrev lN : Stmt := top 18
abbrev eO : Stmt := top 19
abbrev du : Stmt := top 20
abbrev cq : Stmt := top 21
abbrev j8 : Stmt := top 24
abbrev eM : Stmt := top 25
abbrev eN : Stmt := top 27
abbrev hJ : Stmt := top 29
abbrev i6 : Stmt := top 30
abbrev jO : Stmt := top 31
abbrev lI : Stmt := top 32
abbrev xA : Stmt := top 33
abbrev dy : Stmt := top 34
abbrev ec : Stmt := top 35
abbrev gT : Stmt := top 36
abbrev jc : Stmt := top 38
abbrev gJ : Stmt := top 39
abbrev gN : Stmt := top 40
abbrev gW : Stmt := top 41
abbrev fz : Stmt := top 42
abbrev cT : Stmt := top 43
abbrev de : Stmt := top 44
abbrev jY : Stmt := top 46
abbrev i4 : Stmt := top 47
abbrev eK : Stmt := top 48
abbrev fX : Stmt := top 49
abbrev jS : Stmt := top 50
abbrev eh : Stmt := top 51
abbrev je : Stmt := top 52
abbrev gO : Stmt := top 53
abbrev i7 : Stmt := top 54
abbrev gX : Stmt := top 55
abbrev eG : Stmt := top 56
abbrev ja : Stmt := top 57
abbrev gI : Stmt := top 58
abbrev jd : Stmt := top 59
abbrev fY : Stmt := top 60
abbrev g9 : Stmt := top 61
abbrev g8 : Stmt := top 62
abbrev cw : Stmt := top 63
abbrev gH : Stmt := top 64
abbrev fV : Stmt := top 65
abbrev dw : Stmt := top 66
abbrev fG : Stmt := top 67
abbrev cH : Stmt := top 68
abbrev gR : Stmt := top 69
abbrev eJ : Stmt := top 70
abbrev dg : Stmt := top 71
abbrev fA : Stmt := top 72
abbrev i5 : Stmt := top 73
abbrev df : Stmt := top 74
abbrev fF : Stmt := top 75
abbrev uh : Stmt := top 76
abbrev fd (n : Str) (s : Stmt) (tk : Tok) (m : Str) (cd : Addr) : FuncData := PySem.W.fnOf n n (tE s) (mR s) (aC s) .none .none .none (.str m tk) none (.ref cd) .none
noncomputable abbrev FQ (K : PySem.W.Frag) (n : Str) (s : Stmt) (a cd : Addr) (tk : Tok) (m : Str) : Prop := PySem.W.nsIn K mainGlobals n = some (some (.ref a)) ∧ K.lookup a = some ⟨.type "function", none, .func (fd n s tk m cd), #[]⟩ ∧ PySem.W.codeIn K (.ref cd) n = true ∧ PySem.W.keepIn K (.ref a) = true
end K39
namespace K39.H
open PySem PySem.W PyProof.Rows L2 L2.DL
set_option maxRecDepth 100000
set_option maxHeartbeats 0
abbrev R : OpenLaw := PySem.Challenge.rw_matefloors_k39_wishes_told
noncomputable def sT (P : Params) : Option Shared := yY R.row.prog P 11 (some (.ref 6)) 20000 { heap := boot_heap P, gens := #[], drawn := boot_drawn, toks := boot_toks, os := default } (topStub R.row.prog)
noncomputable def hT (P : Params) : Heap := (sT P).elim default (·.heap)
def isNm : Stmt → Bool
  | .Assign [.Name x _] _ _ => x == "__name__"
  | _ => false
def V : Program := { R.row.prog with main := { R.row.prog.main with body := R.row.prog.main.body.filter fun s => !isNm s } }
def as : List Addr := [3, 60, 59, 67, 66, 74, 73, 81, 80, 88, 87, 95, 94, 102, 101, 109, 108, 116, 115, 123, 122, 130, 129, 137, 136, 144, 143, 151, 150, 158, 157, 163, 162, 170, 169, 177, 176, 182, 181, 189, 188, 196, 195, 203, 202, 210, 209, 217, 216, 224, 223, 231, 230, 238, 237, 245, 244, 250, 249, 257, 256, 264, 263, 271, 270, 278, 277, 285, 284, 292, 291, 299, 298, 306, 305, 313, 312, 318, 317, 325, 324, 332, 331, 339, 338, 346, 345, 353, 352, 360, 359, 367, 366, 372, 371, 379, 378, 386, 385, 393, 392, 400, 399, 407, 406, 412, 411, 419, 418, 424, 423, 431, 430, 438, 437, 445, 444, 452, 451, 457, 456, 464, 463, 471, 470, 478, 477, 483, 482, 52, 53]
def tabs : List Addr := [473, 480]
noncomputable def K (P : Params) : Frag := as.map fun a => (a, ((hT P).get? a).getD default)
noncomputable def TF (P : Params) : Frag := tabs.map fun a => (a, ((hT P).get? a).getD default)
noncomputable def KF (P : Params) : Frag := K P ++ TF P
theorem kAs (P : Params) : as ++ tabs = (KF P).map (·.1) := by
  unfold KF K TF
  rw [List.map_append, List.map_map, List.map_map]
  exact congr (congrArg HAppend.hAppend (List.map_id _).symm) (List.map_id _).symm
noncomputable def HK : Hook := kHook KF (as ++ tabs) kAs
def posOf : Stmt → Pos
  | .FunctionDef _ _ _ _ _ _ _ _ _ p => p
  | _ => ⟨0, 0, 0, 0⟩
def D : DefRec := ⟨"law", tE K39.uh, mR K39.uh, aC K39.uh, posOf K39.uh⟩
def Xt : Shared → Bool := fun s => xlAt V [] s && recOk R.row.records s
theorem runC (P : Params) : (sT P).map (fun s => (s.gens, s.drawn, s.toks)) = some (#[], {}, 873) := by kernel_rfl
theorem run (w : World) (os : OsState) : topRun treeTable R.row.prog w 11 (some (.ref 6)) 20000 { heap := boot_heap w.params, gens := #[], drawn := boot_drawn, toks := boot_toks, os := os } (topStub R.row.prog) = some { heap := hT w.params, gens := #[], drawn := {}, toks := 873, os := os } := by
  have h := runC w.params
  cases e : sT w.params with
  | none => rw [e] at h; cases h
  | some s =>
    rw [e] at h
    obtain ⟨heap, gens, drawn, toks, os0⟩ := s
    have hh : hT w.params = heap := by unfold hT; rw [e]; rfl
    have h' : some (gens, drawn, toks) = some ((#[] : Array GenState), ({} : Drawn), 873) := h
    cases h'
    rw [hh]
    exact AD (w := w) (os := os) ((zN _ _ _).symm.trans e)
theorem SX (w : World) (os : OsState) : (staticsOk (importedModules R.row.prog.main.body) (boot_heap w.params) (hT w.params) && namesBound R.row.prog (hT w.params) && gensDone { heap := hT w.params, gens := #[], drawn := {}, toks := 873, os := os } && laidKept (boot_heap w.params) (hT w.params)) = true := by kernel_rfl
theorem P0 (w : World) (os : OsState) : (openSeen V [] (importedModules R.row.prog.main.body) Xt true { heap := hT w.params, gens := #[], drawn := {}, toks := 873, os := os }).1 = (openGood V []).1 := by kernel_rfl
theorem Ru (w : World) (os : OsState) : (openSeen V [] (importedModules R.row.prog.main.body) Xt true { heap := hT w.params, gens := #[], drawn := {}, toks := 873, os := os }).2.1 = (openGood V []).2.1 := by kernel_rfl
theorem Rk (w : World) (os : OsState) : (openSeen V [] (importedModules R.row.prog.main.body) Xt true { heap := hT w.params, gens := #[], drawn := {}, toks := 873, os := os }).2.2.1 = (openGood V []).2.2.1 := by kernel_rfl
theorem PF (w : World) (os : OsState) : (openSeen V [] (importedModules R.row.prog.main.body) Xt true { heap := hT w.params, gens := #[], drawn := {}, toks := 873, os := os }).2.2.2.1 = (openGood V []).2.2.2.1 := by kernel_rfl
theorem QF (w : World) (os : OsState) : (openSeen V [] (importedModules R.row.prog.main.body) Xt true { heap := hT w.params, gens := #[], drawn := {}, toks := 873, os := os }).2.2.2.2.1 = (openGood V []).2.2.2.2.1 := by kernel_rfl
theorem Rj (w : World) (os : OsState) : (openSeen V [] (importedModules R.row.prog.main.body) Xt true { heap := hT w.params, gens := #[], drawn := {}, toks := 873, os := os }).2.2.2.2.2.1 = (openGood V []).2.2.2.2.2.1 := by kernel_rfl
theorem Rv (w : World) (os : OsState) : (openSeen V [] (importedModules R.row.prog.main.body) Xt true { heap := hT w.params, gens := #[], drawn := {}, toks := 873, os := os }).2.2.2.2.2.2.1 = (openGood V []).2.2.2.2.2.2.1 := by kernel_rfl
theorem Qb (w : World) (os : OsState) : (openSeen V [] (importedModules R.row.prog.main.body) Xt true { heap := hT w.params, gens := #[], drawn := {}, toks := 873, os := os }).2.2.2.2.2.2.2.1 = (openGood V []).2.2.2.2.2.2.2.1 := by kernel_rfl
theorem Qz (w : World) (os : OsState) : (openSeen V [] (importedModules R.row.prog.main.body) Xt true { heap := hT w.params, gens := #[], drawn := {}, toks := 873, os := os }).2.2.2.2.2.2.2.2 = (openGood V []).2.2.2.2.2.2.2.2 := by kernel_rfl
theorem RZ (w : World) (os : OsState) : openSeen V [] (importedModules R.row.prog.main.body) Xt true { heap := hT w.params, gens := #[], drawn := {}, toks := 873, os := os } = openGood V [] := Prod.ext (P0 w os) (Prod.ext (Ru w os) (Prod.ext (Rk w os) (Prod.ext (PF w os) (Prod.ext (QF w os) (Prod.ext (Rj w os) (Prod.ext (Rv w os) (Prod.ext (Qb w os) (Qz w os))))))))
theorem SY (w : World) (os : OsState) : HK.obs { heap := hT w.params, gens := #[], drawn := {}, toks := 873, os := os } = HK.val w := by kernel_rfl
theorem seen (w : World) : (fun os => (staticsOk (importedModules R.row.prog.main.body) (boot_heap w.params) (hT w.params) && namesBound R.row.prog (hT w.params) && gensDone { heap := hT w.params, gens := #[], drawn := {}, toks := 873, os := os } && laidKept (boot_heap w.params) (hT w.params),
    openSeen V [] (importedModules R.row.prog.main.body) Xt true { heap := hT w.params, gens := #[], drawn := {}, toks := 873, os := os }, HK.obs { heap := hT w.params, gens := #[], drawn := {}, toks := 873, os := os })) = fun _ : OsState => (true, openGood V [], HK.val w) :=
  funext fun os => Prod.ext (SX w os) (Prod.ext (RZ w os) (SY w os))
theorem ws : R.wellSaid = true := by kernel_rfl
theorem facts (P : Params) : FQ (K P) "is_whole" jN 60 59 239 "matefloors.numbers" ∧ FQ (K P) "common_divisor" d8 67 66 239 "matefloors.numbers" ∧ FQ (K P) "is_number" i8 74 73 239 "matefloors.numbers" ∧ FQ (K P) "divisor_of_all" d6 81 80 239 "matefloors.numbers" ∧ FQ (K P) "number" oA 88 87 239 "matefloors.numbers" ∧ FQ (K P) "mate" wL 95 94 239 "matefloors.numbers" ∧ FQ (K P) "plus" xy 102 101 239 "matefloors.numbers" ∧ FQ (K P) "less" xM 109 108 239 "matefloors.numbers" ∧ FQ (K P) "times" tj 116 115 239 "matefloors.numbers" ∧ FQ (K P) "over" wV 123 122 239 "matefloors.numbers" ∧ FQ (K P) "contrary" jW 130 129 239 "matefloors.numbers" ∧ FQ (K P) "sign_of" lN 137 136 239 "matefloors.numbers" ∧ FQ (K P) "sign_of_parts" eO 144 143 239 "matefloors.numbers" ∧ FQ (K P) "is_above_nought" du 151 150 239 "matefloors.numbers" ∧ FQ (K P) "must_be_above_nought" cq 158 157 239 "matefloors.numbers" ∧ FQ (K P) "is_kinds" j8 163 162 377 "matefloors.layings" ∧ FQ (K P) "must_be_kinds" eM 170 169 377 "matefloors.layings" ∧ FQ (K P) "lean_fraction" eN 177 176 395 "matefloors.leaning" ∧ FQ (K P) "mixture_of" hJ 182 181 406 "matefloors.mixtures" ∧ FQ (K P) "shares_of" i6 189 188 406 "matefloors.mixtures" ∧ FQ (K P) "is_share" jO 196 195 406 "matefloors.mixtures" ∧ FQ (K P) "bar_for" lI 203 202 406 "matefloors.mixtures" ∧ FQ (K P) "skew" xA 210 209 406 "matefloors.mixtures" ∧ FQ (K P) "plan_of_mixture" dy 217 216 406 "matefloors.mixtures" ∧ FQ (K P) "plan_of_shares" ec 224 223 406 "matefloors.mixtures" ∧ FQ (K P) "share_plan" gT 231 230 406 "matefloors.mixtures" ∧ FQ (K P) "wish_told" jc 238 237 487 "matefloors.wishes" ∧ FQ (K P) "leans_most" gJ 245 244 487 "matefloors.wishes" ∧ FQ (K P) "mate_signs" gN 250 249 487 "matefloors.wishes" ∧ FQ (K P) "leans_more" gW 257 256 487 "matefloors.wishes" ∧ FQ (K P) "plan_by_both" fz 264 263 487 "matefloors.wishes" ∧ FQ (K P) "with_greater_mate" cT 271 270 487 "matefloors.wishes" ∧ FQ (K P) "has_greater_mate" de 278 277 487 "matefloors.wishes" ∧ FQ (K P) "_law_bag" jY 285 284 568 "law_matefloors_k39_wishes_told" ∧ FQ (K P) "_law_take" i4 292 291 568 "law_matefloors_k39_wishes_told" ∧ FQ (K P) "_law_is_whole" eK 299 298 568 "law_matefloors_k39_wishes_told" ∧ FQ (K P) "_law_shared" fX 306 305 568 "law_matefloors_k39_wishes_told" ∧ FQ (K P) "_law_low" jS 313 312 568 "law_matefloors_k39_wishes_told" ∧ FQ (K P) "_law_is_number" eh 318 317 568 "law_matefloors_k39_wishes_told" ∧ FQ (K P) "_law_plus" je 325 324 568 "law_matefloors_k39_wishes_told" ∧ FQ (K P) "_law_minus" gO 332 331 568 "law_matefloors_k39_wishes_told" ∧ FQ (K P) "_law_mate" i7 339 338 568 "law_matefloors_k39_wishes_told" ∧ FQ (K P) "_law_times" gX 346 345 568 "law_matefloors_k39_wishes_told" ∧ FQ (K P) "_law_contrary" eG 353 352 568 "law_matefloors_k39_wishes_told" ∧ FQ (K P) "_law_sign" ja 360 359 568 "law_matefloors_k39_wishes_told" ∧ FQ (K P) "_law_below" gI 367 366 568 "law_matefloors_k39_wishes_told" ∧ FQ (K P) "_law_root" jd 372 371 568 "law_matefloors_k39_wishes_told" ∧ FQ (K P) "_law_number" fY 379 378 568 "law_matefloors_k39_wishes_told" ∧ FQ (K P) "_law_above" g9 386 385 568 "law_matefloors_k39_wishes_told" ∧ FQ (K P) "_law_kinds" g8 393 392 568 "law_matefloors_k39_wishes_told" ∧ FQ (K P) "_law_is_never_below" cw 400 399 568 "law_matefloors_k39_wishes_told" ∧ FQ (K P) "_law_weigh" gH 407 406 568 "law_matefloors_k39_wishes_told" ∧ FQ (K P) "_law_is_bar" fV 412 411 568 "law_matefloors_k39_wishes_told" ∧ FQ (K P) "_law_plan_shape" dw 419 418 568 "law_matefloors_k39_wishes_told" ∧ FQ (K P) "_law_is_plan" fG 424 423 568 "law_matefloors_k39_wishes_told" ∧ FQ (K P) "_law_lean_fraction" cH 431 430 568 "law_matefloors_k39_wishes_told" ∧ FQ (K P) "_law_shape" gR 438 437 568 "law_matefloors_k39_wishes_told" ∧ FQ (K P) "_law_fraction" eJ 445 444 568 "law_matefloors_k39_wishes_told" ∧ FQ (K P) "_law_is_told_bar" dg 452 451 568 "law_matefloors_k39_wishes_told" ∧ FQ (K P) "_law_is_laid" fA 457 456 568 "law_matefloors_k39_wishes_told" ∧ FQ (K P) "_law_wide" i5 464 463 568 "law_matefloors_k39_wishes_told" ∧ FQ (K P) "_law_wide_shapes" df 471 470 568 "law_matefloors_k39_wishes_told" ∧ FQ (K P) "_law_is_told" fF 478 477 568 "law_matefloors_k39_wishes_told" ∧ FQ (K P) "law" uh 483 482 568 "law_matefloors_k39_wishes_told" ∧ nsIn (K P) mainGlobals "isinstance" = some none ∧ nsIn (K P) mainGlobals "int" = some none ∧ nsIn (K P) mainGlobals "bool" = some none ∧ nsIn (K P) mainGlobals "abs" = some none ∧ nsIn (K P) mainGlobals "tuple" = some none ∧ nsIn (K P) mainGlobals "len" = some none ∧ nsIn (K P) mainGlobals "all" = some none ∧ nsIn (K P) mainGlobals "range" = some none ∧ nsIn (K P) mainGlobals "str" = some none ∧ nsIn (K P) mainGlobals "sum" = some none ∧ nsIn (K P) mainGlobals "any" = some none ∧ nsIn (K P) mainGlobals "set" = some none ∧ nsIn (K P) mainGlobals "max" = some none ∧ nsIn (K P) mainGlobals "min" = some none ∧ nsIn (K P) mainGlobals "MOST_KINDS" = some (some (.int 3 379)) ∧ (nsIn (K P) mainGlobals "NOUGHT" = some (some (.ref 52)) ∧ (K P).lookup 52 = some ⟨.type "tuple", none, .seq #[.int 0 241, .int 0 242, .int 1 243] 0, #[]⟩) ∧ (nsIn (K P) mainGlobals "ONE" = some (some (.ref 53)) ∧ (K P).lookup 53 = some ⟨.type "tuple", none, .seq #[.int 1 245, .int 0 246, .int 1 247] 0, #[]⟩) :=
  ⟨⟨by kernel_rfl, by kernel_rfl, by kernel_rfl, by kernel_rfl⟩, ⟨by kernel_rfl, by kernel_rfl, by kernel_rfl, by kernel_rfl⟩, ⟨by kernel_rfl, by kernel_rfl, by kernel_rfl, by kernel_rfl⟩, ⟨by kernel_rfl, by kernel_rfl, by kernel_rfl, by kernel_rfl⟩, ⟨by kernel_rfl, by kernel_rfl, by kernel_rfl, by kernel_rfl⟩, ⟨by kernel_rfl, by kernel_rfl, by kernel_rfl, by kernel_rfl⟩, ⟨by kernel_rfl, by kernel_rfl, by kernel_rfl, by kernel_rfl⟩, ⟨by kernel_rfl, by kernel_rfl, by kernel_rfl, by kernel_rfl⟩, ⟨by kernel_rfl, by kernel_rfl, by kernel_rfl, by kernel_rfl⟩, ⟨by kernel_rfl, by kernel_rfl, by kernel_rfl, by kernel_rfl⟩, ⟨by kernel_rfl, by kernel_rfl, by kernel_rfl, by kernel_rfl⟩, ⟨by kernel_rfl, by kernel_rfl, by kernel_rfl, by kernel_rfl⟩, ⟨by kernel_rfl, by kernel_rfl, by kernel_rfl, by kernel_rfl⟩, ⟨by kernel_rfl, by kernel_rfl, by kernel_rfl, by kernel_rfl⟩, ⟨by kernel_rfl, by kernel_rfl, by kernel_rfl, by kernel_rfl⟩, ⟨by kernel_rfl, by kernel_rfl, by kernel_rfl, by kernel_rfl⟩, ⟨by kernel_rfl, by kernel_rfl, by kernel_rfl, by kernel_rfl⟩, ⟨by kernel_rfl, by kernel_rfl, by kernel_rfl, by kernel_rfl⟩, ⟨by kernel_rfl, by kernel_rfl, by kernel_rfl, by kernel_rfl⟩, ⟨by kernel_rfl, by kernel_rfl, by kernel_rfl, by kernel_rfl⟩, ⟨by kernel_rfl, by kernel_rfl, by kernel_rfl, by kernel_rfl⟩, ⟨by kernel_rfl, by kernel_rfl, by kernel_rfl, by kernel_rfl⟩, ⟨by kernel_rfl, by kernel_rfl, by kernel_rfl, by kernel_rfl⟩, ⟨by kernel_rfl, by kernel_rfl, by kernel_rfl, by kernel_rfl⟩, ⟨by kernel_rfl, by kernel_rfl, by kernel_rfl, by kernel_rfl⟩, ⟨by kernel_rfl, by kernel_rfl, by kernel_rfl, by kernel_rfl⟩, ⟨by kernel_rfl, by kernel_rfl, by kernel_rfl, by kernel_rfl⟩, ⟨by kernel_rfl, by kernel_rfl, by kernel_rfl, by kernel_rfl⟩, ⟨by kernel_rfl, by kernel_rfl, by kernel_rfl, by kernel_rfl⟩, ⟨by kernel_rfl, by kernel_rfl, by kernel_rfl, by kernel_rfl⟩, ⟨by kernel_rfl, by kernel_rfl, by kernel_rfl, by kernel_rfl⟩, ⟨by kernel_rfl, by kernel_rfl, by kernel_rfl, by kernel_rfl⟩, ⟨by kernel_rfl, by kernel_rfl, by kernel_rfl, by kernel_rfl⟩, ⟨by kernel_rfl, by kernel_rfl, by kernel_rfl, by kernel_rfl⟩, ⟨by kernel_rfl, by kernel_rfl, by kernel_rfl, by kernel_rfl⟩, ⟨by kernel_rfl, by kernel_rfl, by kernel_rfl, by kernel_rfl⟩, ⟨by kernel_rfl, by kernel_rfl, by kernel_rfl, by kernel_rfl⟩, ⟨by kernel_rfl, by kernel_rfl, by kernel_rfl, by kernel_rfl⟩, ⟨by kernel_rfl, by kernel_rfl, by kernel_rfl, by kernel_rfl⟩, ⟨by kernel_rfl, by kernel_rfl, by kernel_rfl, by kernel_rfl⟩, ⟨by kernel_rfl, by kernel_rfl, by kernel_rfl, by kernel_rfl⟩, ⟨by kernel_rfl, by kernel_rfl, by kernel_rfl, by kernel_rfl⟩, ⟨by kernel_rfl, by kernel_rfl, by kernel_rfl, by kernel_rfl⟩, ⟨by kernel_rfl, by kernel_rfl, by kernel_rfl, by kernel_rfl⟩, ⟨by kernel_rfl, by kernel_rfl, by kernel_rfl, by kernel_rfl⟩, ⟨by kernel_rfl, by kernel_rfl, by kernel_rfl, by kernel_rfl⟩, ⟨by kernel_rfl, by kernel_rfl, by kernel_rfl, by kernel_rfl⟩, ⟨by kernel_rfl, by kernel_rfl, by kernel_rfl, by kernel_rfl⟩, ⟨by kernel_rfl, by kernel_rfl, by kernel_rfl, by kernel_rfl⟩, ⟨by kernel_rfl, by kernel_rfl, by kernel_rfl, by kernel_rfl⟩, ⟨by kernel_rfl, by kernel_rfl, by kernel_rfl, by kernel_rfl⟩, ⟨by kernel_rfl, by kernel_rfl, by kernel_rfl, by kernel_rfl⟩, ⟨by kernel_rfl, by kernel_rfl, by kernel_rfl, by kernel_rfl⟩, ⟨by kernel_rfl, by kernel_rfl, by kernel_rfl, by kernel_rfl⟩, ⟨by kernel_rfl, by kernel_rfl, by kernel_rfl, by kernel_rfl⟩, ⟨by kernel_rfl, by kernel_rfl, by kernel_rfl, by kernel_rfl⟩, ⟨by kernel_rfl, by kernel_rfl, by kernel_rfl, by kernel_rfl⟩, ⟨by kernel_rfl, by kernel_rfl, by kernel_rfl, by kernel_rfl⟩, ⟨by kernel_rfl, by kernel_rfl, by kernel_rfl, by kernel_rfl⟩, ⟨by kernel_rfl, by kernel_rfl, by kernel_rfl, by kernel_rfl⟩, ⟨by kernel_rfl, by kernel_rfl, by kernel_rfl, by kernel_rfl⟩, ⟨by kernel_rfl, by kernel_rfl, by kernel_rfl, by kernel_rfl⟩, ⟨by kernel_rfl, by kernel_rfl, by kernel_rfl, by kernel_rfl⟩, ⟨by kernel_rfl, by kernel_rfl, by kernel_rfl, by kernel_rfl⟩, by kernel_rfl, by kernel_rfl, by kernel_rfl, by kernel_rfl, by kernel_rfl, by kernel_rfl, by kernel_rfl, by kernel_rfl, by kernel_rfl, by kernel_rfl, by kernel_rfl, by kernel_rfl, by kernel_rfl, by kernel_rfl, by kernel_rfl, ⟨by kernel_rfl, by kernel_rfl⟩, ⟨by kernel_rfl, by kernel_rfl⟩⟩
theorem Hi (P : Params) : ((K P).filterMap fun p => fq p.2) = [(473, ("_law_is_told" : Str)), (480, ("law" : Str))] ∧ ((K P).lookup 477).bind fq = some (473, ("_law_is_told" : Str)) ∧ ((K P).lookup 482).bind fq = some (480, ("law" : Str)) ∧ (KF P).lookup 473 = some (tabObj #[]) ∧ (KF P).lookup 480 = some (tabObj #[]) ∧ (K P).lookup 473 = none ∧ (K P).lookup 480 = none := ⟨by kernel_rfl, by kernel_rfl, by kernel_rfl, by kernel_rfl, by kernel_rfl, by kernel_rfl, by kernel_rfl⟩
theorem Q0 (P : Params) : ((K P).filterMap fun p => fq p.2) = [(473, ("_law_is_told" : Str)), (480, ("law" : Str))] := (Hi P).1
theorem vx (P : Params) : ((K P).lookup 477).bind fq = some (473, ("_law_is_told" : Str)) := (Hi P).2.1
theorem JM {q2 : Str} (h : ((473 : Addr), q2) ∈ ([(473, ("_law_is_told" : Str)), (480, ("law" : Str))] : List (Addr × Str))) : q2 = "_law_is_told" := by simpa using h
theorem MW (P : Params) : ((K P).lookup 482).bind fq = some (480, ("law" : Str)) := (Hi P).2.2.1
theorem SM {q2 : Str} (h : ((480 : Addr), q2) ∈ ([(473, ("_law_is_told" : Str)), (480, ("law" : Str))] : List (Addr × Str))) : q2 = "law" := by simpa using h
theorem nW (P : Params) : (KF P).lookup 473 = some (tabObj #[]) ∧ (K P).lookup 473 = none := ⟨(Hi P).2.2.2.1, (Hi P).2.2.2.2.2.1⟩
theorem Jv (P : Params) : (KF P).lookup 480 = some (tabObj #[]) ∧ (K P).lookup 480 = none := ⟨(Hi P).2.2.2.2.1, (Hi P).2.2.2.2.2.2⟩
theorem left : LeftO R.row.prog V [] Xt HK.obs HK.val 20000 :=
  LeftO.of_pieces (H₀ := boot_heap) (H₁ := hT) (gs₀ := #[]) (gs₁ := #[]) (d₀ := boot_drawn) (d₁ := {}) (k₀ := boot_toks) (k₁ := 873) (m₀ := 11) (ann := some (.ref 6)) (M := 20000)
    (boot_open (by kernel_rfl) (by kernel_rfl) (fun s => by kernel_rfl)) (fun w => by kernel_rfl) run (by kernel_rfl) seen
end K39.H
set_option Elab.async false
set_option linter.all false
set_option maxRecDepth 100000
namespace L2
open PySem PySem.Spec PyProof.Rows
noncomputable def ki (A : Around) (h : Heap) : Prop := A.handled = none ∨ ∃ (e : Addr) (oe : Obj) (vs : Array Value), A.handled = some (.ref e) ∧ h.get? e = some oe ∧ oe.data = .fields vs ∧ vs[2]? = some .none
theorem Bv : entryFor table "proto.unchain" = some Builtin.«proto.unchain» := entryFor_of_tree (by kernel_rfl)
section
variable {prog : Program} {w : World} {A : Around} {E : Value → Shared → Prop} {s : Shared}
theorem ET {x e : Addr} {oe : Obj} {vs : Array Value} {Q : Value → Shared → Prop} (he : s.heap.get? e = some oe) (hd : oe.data = .fields vs) (h2 : vs[2]? = some .none) (h : Q .none s) :
    wpAny (model prog w) A (runValue (.builtin "proto.unchain" ⟨[.ref x, .ref e, .ref e, .bool false], []⟩)) Q E s := by
  refine wpAny_runValue (codeAny_builtin Bv ?_)
  unfold Builtin.«proto.unchain»
  dsimp only
  refine wpAny_bind (wpAny_field he hd h2 ?_)
  rw [if_pos (by rfl)]
  exact wpAny_pure h
theorem zT {α : Type} {a : Addr} {oa : Obj} {ws : Array Value} {Q : α → Shared → Prop} (q : ki A s.heap) (ha : s.heap.get? a = some oa) (hda : oa.data = .fields ws) (hz : 2 < ws.size)
    (hnew : ∀ e oe, A.handled = some (.ref e) → s.heap.get? e = some oe → e ≠ a)
    (h : ∀ h', Heap.ExtBut a s.heap h' → (∃ o', h'.get? a = some o' ∧ o'.cls = oa.cls) → E (.ref a) { s with heap := h' }) : wpAny (model prog w) A (raiseNew (.ref a) : Sem α) Q E s := by
  unfold raiseNew
  refine wpAny_bind (wpAny_handled ?_)
  rcases q with q | ⟨e, oe, vs, q, he, hd, h2⟩
  · rw [q]
    exact wpAny_bind (wpAny_pure (wpAny_throw (h s.heap (fun b o _ z => z) ⟨oa, ha, rfl⟩)))
  · rw [q]
    have ne : e ≠ a := hnew e oe q he
    dsimp only
    rw [if_pos (by simp [ne])]
    refine wpAny_bind (wpAny_holding (ET he hd h2 ?_))
    refine wpAny_bind ?_
    refine wpAny_setField ha hda hz (wpAny_throw ?_)
    have hd' := Obj.data_mapFields hda (·.setIfInBounds 2 (Value.ref e))
    exact h _ (Heap.SameBut.update ..).extBut ⟨_, Heap.get?_update_self _ ha (Obj.isFreed_of_fields hd'), Obj.cls_mapFields ..⟩
theorem zl {it : Addr} {α : Type} {h0 : Heap} {Q : α → Shared → Prop} (q : ki A s.heap) (k : Heap.ExtBut it h0 s.heap) (kl : ∀ e oe, A.handled = some (.ref e) → s.heap.get? e = some oe → True)
    (h : ∀ h' a, Heap.ExtBut it h0 h' → (∃ o', h'.get? a = some o' ∧ o'.cls = .type "StopIteration") → E (.ref a) { s with heap := h' }) : wpAny (model prog w) A (newExc (.type "StopIteration") [] >>= fun e => (raiseNew e : Sem α)) Q E s := by
  refine wpAny_bind ?_; simp only [newExc, newTuple]
  refine wpAny_bind (wpAny_newObj_type ?_ (by size_fits)); refine wpAny_bind (m := firstArgMember _ _) (wpAny_of_eq (a := Value.none) (by first | rfl | (simp only [firstArgMember]; rfl)) ?_); refine wpAny_newObj_type ?_ (by size_fits)
  have q' : ∀ o1 o2 : Obj, ki A ((s.heap.push o1).push o2) := fun o1 o2 => by
    rcases q with q | ⟨e, oe, vs, q, he, r⟩
    · exact .inl q
    · exact .inr ⟨e, oe, vs, q, Heap.get?_push_of_some _ (Heap.get?_push_of_some _ he), r⟩
  refine zT (q' _ _) (Heap.get?_push_size _ rfl) rfl (by rw [Array.size_append]; exact Nat.lt_of_lt_of_le (by decide : 2 < 6) (Nat.le_add_right _ _)) (fun e oe hq he z => ?_) fun h' hx ⟨o', ho', hc'⟩ => h h' _ (fun b o hb e => hx b o ?_ (Heap.get?_push_of_some _ (Heap.get?_push_of_some _ (k b o hb e)))) ⟨o', ho', hc'⟩
  · rcases q with q | ⟨e1, oe1, vs, q, he1, r⟩
    · rw [q] at hq; cases hq
    · rw [q] at hq; cases hq
      exact absurd (Heap.lt_size he1) (by rw [z]; simp)
  · exact Nat.ne_of_lt (Nat.lt_of_lt_of_le (Heap.lt_size (k b o hb e)) (by simp))
theorem vt {it : Addr} {o : Obj} {ws : Array Value} {f : Array Value → Array Value} (q : ki A s.heap) (ho : s.heap.get? it = some o) (hd : o.data = .fields ws) (hn : ∀ e, A.handled = some (.ref e) → e ≠ it) : ki A (s.heap.update it (Obj.mapFields f)) := by
  rcases q with q | ⟨e, oe, vs, q, he, r⟩
  · exact .inl q
  · exact .inr ⟨e, oe, vs, q, by rw [Heap.get?_update_other _ _ (Ne.symm (hn e q))]; exact he, r⟩
theorem Bx {it l : Addr} {i : Nat} {items} {Q : Option Value → Shared → Prop} (q : ki A s.heap) (hn : ∀ e, A.handled = some (.ref e) → e ≠ it) (hit : s.heap.IsListIter it l i) (hl : s.heap.IsList l items) (hx : items[i]? = none)
    (hQ : ∀ h', Heap.ExtBut it s.heap h' → Q none { s with heap := h' }) : wpAny (model prog w) A (pyNext (.ref it)) Q E s := by
  obtain ⟨o, ho, hc, hd⟩ := id hit
  obtain ⟨ol, hol, _, nl, hdl⟩ := hl; unfold pyNext
  refine wpAny_bind (wpAny_attempt (wpAny_callSpecial?_slot (name := Str.ofString "__next__") hit.typeIs slot_listiter_next (wpAny_call_entry slot_listiter_next hit.typeIs entry_listiter_next ?_ (args_listiter_next _))))
  show wpAny _ _ (field (.ref it) 0 >>= _) _ _ s; refine wpAny_bind (wpAny_field ho hd (x := .ref l) rfl ?_)
  show wpAny _ _ (if (Value.ref l == Value.none) = true then _ else _) _ _ s; rw [if_neg (show ¬ ((Value.ref l == Value.none) = true) from Bool.false_ne_true)]
  show wpAny _ _ (field (.ref it) 1 >>= _) _ _ s; refine wpAny_bind (wpAny_field ho hd (x := .int i 0) rfl ?_)
  show wpAny _ _ (seqItems? (.ref l) >>= _) _ _ s; refine wpAny_bind (wpAny_seqItems hol hdl ?_); simp only [Int.toNat_natCast, hx]
  refine wpAny_bind (wpAny_rule (wpAny_bind (wpAny_setField ho hd (by simp) ?_)))
  refine zl (it := it) (h0 := s.heap) (A := A.in1) (vt (A := A.in1) q ho hd hn) (Heap.SameBut.update ..).extBut (fun _ _ _ _ => trivial) fun h' a hx' ⟨o', ho', hc'⟩ => ?_
  refine wpAny_bind (wpAny_isInstance (T := "StopIteration") (b := true) ⟨_, ho', hc'⟩ isSubtype_stop ?_); exact wpAny_pure (hQ _ hx')
theorem vH {it t : Addr} {i : Nat} {items} {Q : Option Value → Shared → Prop} (q : ki A s.heap) (hn : ∀ e, A.handled = some (.ref e) → e ≠ it) (hit : IsTupIter s.heap it t i) (ht : IsTup s.heap t items) (hx : items[i]? = none)
    (hQ : ∀ h', Heap.ExtBut it s.heap h' → Q none { s with heap := h' }) : wpAny (model prog w) A (pyNext (.ref it)) Q E s := by
  obtain ⟨o, ho, hc, hd⟩ := id hit
  obtain ⟨ol, hol, _, nl, hdl⟩ := ht; unfold pyNext
  refine wpAny_bind (wpAny_attempt (wpAny_callSpecial?_slot (name := Str.ofString "__next__") hit.typeIs slot_tupleiter_next (wpAny_call_entry slot_tupleiter_next hit.typeIs entry_tupleiter_next ?_ (args_tupleiter_next _))))
  show wpAny _ _ (field (.ref it) 0 >>= _) _ _ s; refine wpAny_bind (wpAny_field ho hd (x := .ref t) rfl ?_)
  show wpAny _ _ (if (Value.ref t == Value.none) = true then _ else _) _ _ s; rw [if_neg (show ¬ ((Value.ref t == Value.none) = true) from Bool.false_ne_true)]
  show wpAny _ _ (field (.ref it) 1 >>= _) _ _ s; refine wpAny_bind (wpAny_field ho hd (x := .int i 0) rfl ?_)
  show wpAny _ _ (seqItems? (.ref t) >>= _) _ _ s; refine wpAny_bind (wpAny_seqItems hol hdl ?_); simp only [Int.toNat_natCast, hx]
  refine wpAny_bind (wpAny_rule (wpAny_bind (wpAny_setField ho hd (by simp) ?_)))
  refine zl (it := it) (h0 := s.heap) (A := A.in1) (vt (A := A.in1) q ho hd hn) (Heap.SameBut.update ..).extBut (fun _ _ _ _ => trivial) fun h' a hx' ⟨o', ho', hc'⟩ => ?_
  refine wpAny_bind (wpAny_isInstance (T := "StopIteration") (b := true) ⟨_, ho', hc'⟩ isSubtype_stop ?_); exact wpAny_pure (hQ _ hx')
theorem Bo {env : Env} {elts : List Expr} {x1} {pos : Pos} {t : Addr} {items : Array Value} {Q : Unit → Shared → Prop} (q : ki A s.heap) (ht : IsTup s.heap t items) (hn : (assignEach elts env).length = items.size)
    (hstar : (assignEach elts env).findIdx? (·.1) = none) (h : ∀ h', Heap.ExtBut s.heap.objs.size s.heap h' → wpAny (model prog w) A (assignInOrder ((assignEach elts env).map (·.2)) items.toList) Q E { s with heap := h' }) :
    wpAny (model prog w) A (assign (.Tuple elts x1 pos) env (.ref t)) Q E s := by
  rw [assign_Tuple]
  refine wpAny_bind (wpAny_standAt ?_)
  unfold unpack; rw [hn, hstar]
  refine wpAny_bind (wpAny_holding ?_)
  have hlt : t ≠ s.heap.objs.size := by obtain ⟨o, ho, _⟩ := ht; exact Nat.ne_of_lt (Heap.lt_size ho)
  unfold unpackItems; refine wpAny_bind ?_
  unfold notIterableAtAll; refine wpAny_bind (wpAny_specialOf ht.typeIs slot_tuple_iter.lookup ?_); refine wpAny_pure ?_; simp only [Bool.false_eq_true, if_false]
  refine wpAny_bind (wpAny_holding (iter_tuple ht ?_))
  refine wpAny_bind (wpAny_holding (draw_tuple hlt items.size 0 _ _ ⟨_, Heap.get?_push_size _ rfl, rfl, rfl⟩ (ht.push _) (by omega) fun h₁ hit₁ hs₁ => ?_))
  rw [show List.take items.size (List.drop 0 items.toList) = items.toList from by rw [List.drop_zero]; exact List.take_of_length_le (by simp), if_neg (by simp)]
  have fr : ∀ e, A.handled = some (.ref e) → e ≠ s.heap.objs.size := fun e hq => by
    rcases q with q | ⟨e1, oe1, vs, q, he1, r⟩
    · rw [q] at hq; cases hq
    · rw [q] at hq; cases hq; exact Nat.ne_of_lt (Heap.lt_size he1)
  have q1 : ki A h₁ := by
    rcases q with q | ⟨e, oe, vs, q, he, r⟩
    · exact .inl q
    · exact .inr ⟨e, oe, vs, q, hs₁.extBut e oe (fr e q) (Heap.get?_push_of_some _ he), r⟩
  refine wpAny_bind (wpAny_holding (vH q1 fr hit₁ ((ht.push _).extBut hs₁.extBut hlt) (by simp) fun h₂ he₂ => ?_)); simp only [Option.isSome_none, Bool.false_eq_true, if_false]
  exact wpAny_pure (h h₂ fun b o hb e => he₂ b o hb (hs₁.extBut b o hb (Heap.get?_push_of_some _ e)))
end
end L2
set_option Elab.async false
set_option linter.all false
set_option maxRecDepth 100000
namespace L2
open PySem PySem.Spec PyProof.Rows
abbrev Key := Sum Int Str
def Pj : Key → Value → Bool
  | .inl k, v => Value.isInt k v
  | .inr x, v => Value.isStrOf x v
def Um (w : World) : Key → Int
  | .inl k => hashInt k
  | .inr x => hashStr w x
theorem eU : ∀ {k : Key} {v : Value}, Pj k v = true → (∃ i t, k = Sum.inl i ∧ v = Value.int i t) ∨ (∃ x t, k = Sum.inr x ∧ v = Value.str x t)
  | .inl i, v, h => by
    obtain ⟨t, e⟩ := Value.isInt_shape (k := i) (v := v) h
    exact .inl ⟨i, t, rfl, e⟩
  | .inr x, v, h => by
    obtain ⟨t, e⟩ := Value.isStrOf_shape (x := x) (v := v) h
    exact .inr ⟨x, t, rfl, e⟩
theorem Qo (a b : Int) : decide ((Sum.inl a : Key) = Sum.inl b) = (a == b) := by
  by_cases e : a = b
  · subst e; simp
  · have h : ¬ (Sum.inl a : Key) = Sum.inl b := fun q => e (Sum.inl.inj q)
    rw [decide_eq_false h]
    exact (beq_eq_false_iff_ne.mpr e).symm
theorem QN (a b : Str) : decide ((Sum.inr a : Key) = Sum.inr b) = decide (a = b) := by
  by_cases e : a = b
  · subst e; simp
  · have h : ¬ (Sum.inr a : Key) = Sum.inr b := fun q => e (Sum.inr.inj q)
    rw [decide_eq_false h, decide_eq_false e]
theorem Qf (a : Int) (b : Str) : decide ((Sum.inl a : Key) = Sum.inr b) = false := decide_eq_false (fun q => nomatch q)
theorem Qt (a : Str) (b : Int) : decide ((Sum.inr a : Key) = Sum.inl b) = false := decide_eq_false (fun q => nomatch q)
def J3 (prog : Program) (w : World) : PySem.KeyKind prog w Key where
  is := Pj
  hash := Um w
  inj := fun v a b ha hb => by
    rcases eU ha with ⟨i, t, rfl, rfl⟩ | ⟨x, t, rfl, rfl⟩
    · rcases eU hb with ⟨j, u, rfl, e⟩ | ⟨y, u, rfl, e⟩
      · injection e with e1 _; rw [e1]
      · exact nomatch e
    · rcases eU hb with ⟨j, u, rfl, e⟩ | ⟨y, u, rfl, e⟩
      · exact nomatch e
      · injection e with e1 _; rw [e1]
  byValue := fun k v h => by
    rcases eU h with ⟨i, t, rfl, rfl⟩ | ⟨x, t, rfl, rfl⟩ <;> rfl
  pyHash := fun hv h => by
    rcases eU hv with ⟨i, t, rfl, rfl⟩ | ⟨x, t, rfl, rfl⟩
    · exact wpAny_pyHash_int h
    · exact wpAny_pyHash_str h
  eqBool := fun hu hv h => by
    rcases eU hu with ⟨i, t, rfl, rfl⟩ | ⟨x, t, rfl, rfl⟩
    · rcases eU hv with ⟨j, u, rfl, rfl⟩ | ⟨y, u, rfl, rfl⟩
      · rw [Qo] at h; exact wpAny_eqBool_int h
      · rw [Qf] at h; exact SeqAt.EqAt.int_str i t y u _ _ _ _ h
    · rcases eU hv with ⟨j, u, rfl, rfl⟩ | ⟨y, u, rfl, rfl⟩
      · rw [Qt] at h; exact SeqAt.EqAt.str_int x t j u _ _ _ _ h
      · rw [QN] at h; exact wpAny_eqBool_str h
  «strs» := fun k x t v h => by
    rcases eU h with ⟨i, u, rfl, e⟩ | ⟨y, u, rfl, e⟩
    · exact nomatch e
    · injection e with e1 _
      subst e1
      cases v <;> rfl
end L2
namespace L2
open PySem PySem.Spec PyProof.Rows
inductive V where
  | non | bl (b : Bool) | int (i : Int) | str (x : Str) | byt (b : Array UInt8) | flt (b : UInt64) | ref (a : Addr) | ty (n : String)
  deriving DecidableEq
def RelV : V → Value → Prop
  | .non, u => u = Value.none
  | .bl b, u => u = Value.bool b
  | .int i, u => ∃ t, u = Value.int i t
  | .str x, u => ∃ t, u = Value.str x t
  | .byt b, u => ∃ t, u = Value.bytes b t
  | .flt b, u => ∃ t, u = Value.float b t
  | .ref a, u => u = Value.ref a
  | .ty n, u => u = Value.type n
abbrev Vals : List V → List Value → Prop := Paired RelV
theorem Vals.length {xs : List V} {us : List Value} (r : Vals xs us) : xs.length = us.length := Paired.length r
theorem Vals.get : ∀ {xs : List V} {us : List Value} {i : Nat} {x : V}, Vals xs us → xs[i]? = some x → ∃ u, us[i]? = some u ∧ RelV x u
  | _, _, _, _, .nil, e => by simp at e
  | _, _, 0, _, .cons r _, e => by simp at e; subst e; exact ⟨_, rfl, r⟩
  | _, _, i + 1, x, .cons _ t, e => by
    obtain ⟨u, h1, h2⟩ := Vals.get (i := i) (x := x) t (by simpa using e)
    exact ⟨u, by simpa using h1, h2⟩
theorem Vals.set {x : V} {u : Value} (r : RelV x u) : ∀ {xs : List V} {us : List Value} (i : Nat), Vals xs us → Vals (xs.set i x) (us.set i u)
  | _, _, _, .nil => .nil
  | _, _, 0, .cons _ t => .cons r t
  | _, _, i + 1, .cons q t => .cons q (Vals.set r i t)
theorem Vals.append : ∀ {xs ys : List V} {us ws : List Value}, Vals xs us → Vals ys ws → Vals (xs ++ ys) (us ++ ws)
  | _, _, _, _, .nil, s => s
  | _, _, _, _, .cons r t, s => .cons r (Vals.append t s)
theorem Vals.take : ∀ {xs : List V} {us : List Value} (n : Nat), Vals xs us → Vals (xs.take n) (us.take n)
  | _, _, 0, _ => .nil
  | _, _, _ + 1, .nil => .nil
  | _, _, n + 1, .cons r t => .cons r (Vals.take n t)
theorem Vals.drop : ∀ {xs : List V} {us : List Value} (n : Nat), Vals xs us → Vals (xs.drop n) (us.drop n)
  | _, _, 0, r => r
  | _, _, _ + 1, .nil => .nil
  | _, _, n + 1, .cons _ t => Vals.drop n t
def Th : Option V → Option Value → Prop
  | some v, some u => RelV v u
  | none, none => True
  | _, _ => False
def KV {κ : Type} : List (κ × V) → List (κ × Value) → Prop := Paired fun (p : κ × V) (q : κ × Value) => p.1 = q.1 ∧ RelV p.2 q.2
def kV : Key → V
  | .inl i => .int i
  | .inr x => .str x
inductive HO where
  /-- a list -/
  | lst (xs : List V)
  /-- a tuple (never changes) -/
  | tup (xs : List V)
  /-- a dict whose keys are ints and texts; one whose keys are tuples of ints and texts (the empty one is both) -/
  | dK (kvs : List (Key × V)) | dT (kvs : List (List Key × V))
  /-- a set of ints: its members, its size -/
  | set (S : Int → Bool) (n : Nat)
  /-- an instance of the class at C, its dict at dx, its attributes -/
  | ins (C dx : Addr) (fs : List (Str × V))
  /-- the dict of the instance at x -/
  | own (x : Addr)
  /-- the dict of an exception -/
  | xd (fs : List (Str × V))
  /-- a bound method, f of x -/
  | met (f x : Addr)
  /-- a range object lo, lo + 1, .. below hi -/
  | rng (lo hi : Int)
  /-- a thing that is known to the object (the script; a dict while a loop walks it): read, never written while it is so -/
  | frz (o : Obj) (u : HO)
  /-- a code object's table -/
  | tbl (ps : Array Value)
  /-- any other thing, by what is true of its one object (a def of one's own: SetO a S n := HO.ext fun h => ..) -/
  | ext (φ : Heap → Prop)
abbrev Hp := Addr → Option HO
def upd (H : Hp) (a : Addr) (o : HO) : Hp := fun b => if b = a then some o else H b
theorem kq {H : Hp} {a : Addr} {o : HO} : upd H a o a = some o := by unfold upd; rw [if_pos rfl]
theorem cW {H : Hp} {a b : Addr} {o : HO} (h : b ≠ a) : upd H a o b = H b := by unfold upd; rw [if_neg h]
theorem en {H : Hp} {a b : Addr} {o : HO} (h : H a = some o) (h' : H b = none) : a ≠ b := by
  intro e; subst e; rw [h] at h'; cases h'
section
variable (P : Program) (w : World)
def oV (H : Hp) (h : Heap) (a : Addr) : HO → Prop
  | .lst xs => xs.length ≤ sizeLine ∧ ∃ (its : List Value) (n : Nat), Vals xs its ∧ h.get? a = some { cls := .type "list", data := .seq its.toArray n }
  | .tup xs => xs.length ≤ sizeLine ∧ ∃ its : List Value, Vals xs its ∧ IsTup h a its.toArray
  | .dK kvs => kvs.length ≤ sizeLine ∧ (a == sysModules) = false ∧ ∃ vs, KV kvs vs ∧ h.DictOf (J3 P w) a vs
  | .dT kvs => kvs.length ≤ sizeLine ∧ (a == sysModules) = false ∧ ∃ xs : List (List Key × Addr × Value),
      Paired (fun (p : List Key × V) (q : List Key × Addr × Value) => p.1 = q.1 ∧ H q.2.1 = some (.tup (p.1.map kV)) ∧ RelV p.2 q.2.2) kvs xs ∧
      ∃ o es ep, h.get? a = some o ∧ o.ExactDict ∧ o.data = .dict es ep ∧ es.toList = xs.map (entryOfKey (tupleKind (J3 P w))) ∧ (xs.map (·.1)).Nodup
  | .set S n => h.SetOf (intKind P w) a S n
  | .ins C dx fs => H dx = some (.own a) ∧ fs.length ≤ 1000 ∧ dx ≠ a ∧ h.get? a = some (PySem.W.instObj C dx) ∧
      ∃ mA, h.Ns1 dx mA ∧ (∀ f, Th (fs.lookup f) (mA f)) ∧ PySem.Within mA (fs.map (·.1))
  | .own _ => ∃ o, h.get? a = some o
  | .xd fs => ∃ mA, h.Ns1 a mA ∧ ∀ f, Th (fs.lookup f) (mA f)
  | .rng lo hi => ∃ t u v, h.get? a = some { cls := .type "range", data := .fields #[.int lo t, .int hi u, .int 1 v] }
  | .frz o u => h.get? a = some o ∧ oV H h a u
  | .tbl ps => h.get? a = some { cls := .none, data := .fields ps }
  | .met f x => h.get? a = some (PySem.W.methodObj (.ref f) (.ref x))
  | .ext φ => φ h ∧ (∃ o, h.get? a = some o) ∧ ∀ h1 h2 : Heap, φ h1 → (∀ o, h1.get? a = some o → h2.get? a = some o) → φ h2
noncomputable def HOk (H : Hp) (h : Heap) : Prop := ∀ a o, H a = some o → oV P w H h a o
end
section
variable {P : Program} {w : World} {H H' : Hp} {h h' : Heap} {a : Addr} {o : HO}
theorem oV.lt (x : oV P w H h a o) : a < h.objs.size := by
  cases o with
  | lst xs => obtain ⟨_, _, _, _, e⟩ := x; exact Heap.lt_size e
  | tup xs => obtain ⟨_, _, _, p⟩ := x; exact p.lt
  | dK kvs => obtain ⟨_, _, _, _, o, _, _, e, _⟩ := x; exact Heap.lt_size e
  | dT kvs => obtain ⟨_, _, _, _, o, _, _, e, _⟩ := x; exact Heap.lt_size e
  | set S n => obtain ⟨o, _, _, _, e, _⟩ := x; exact Heap.lt_size e
  | ins C dx fs => obtain ⟨_, _, _, e, _⟩ := x; exact Heap.lt_size e
  | own y => obtain ⟨_, e⟩ := x; exact Heap.lt_size e
  | xd fs => obtain ⟨_, ⟨_, _, _, e, _⟩, _⟩ := x; exact Heap.lt_size e
  | rng lo hi => obtain ⟨_, _, _, e⟩ := x; exact Heap.lt_size e
  | frz ob u => obtain ⟨e, _⟩ := x; exact Heap.lt_size e
  | tbl ps => exact Heap.lt_size (show h.get? a = some _ from x)
  | met f y => exact Heap.lt_size (show h.get? a = some _ from x)
  | ext φ => obtain ⟨_, ⟨_, e⟩, _⟩ := x; exact Heap.lt_size e
theorem Paired.Sf {α β : Type} {F G : α → β → Prop} : ∀ {l₁ : List α} {l₂ : List β}, Paired F l₁ l₂ → (∀ a b, F a b → G a b) → Paired G l₁ l₂
  | _, _, .nil, _ => .nil
  | _, _, .cons r t, f => .cons (f _ _ r) (Paired.Sf t f)
theorem oV.Bs (x : oV P w H h a o) (k : ∀ b u, (b = a ∨ H b = some (.own a)) → h.get? b = some u → h'.get? b = some u)
    (ho : ∀ b, H b = some (.own a) → H' b = some (.own a)) (ht : ∀ b xs, H b = some (.tup xs) → H' b = some (.tup xs)) : oV P w H' h' a o := by
  induction o with
  | lst xs => obtain ⟨z, its, n, r, e⟩ := x; exact ⟨z, its, n, r, k _ _ (.inl rfl) e⟩
  | tup xs => obtain ⟨z, its, r, ob, e, c⟩ := x; exact ⟨z, its, r, ob, k _ _ (.inl rfl) e, c⟩
  | dK kvs => obtain ⟨z, y, vs, r, ob, es, ep, e, c⟩ := x; exact ⟨z, y, vs, r, ob, es, ep, k _ _ (.inl rfl) e, c⟩
  | dT kvs =>
    obtain ⟨z, y, xs, r, ob, es, ep, e, c⟩ := x
    exact ⟨z, y, xs, Paired.Sf r fun p q z => ⟨z.1, ht _ _ z.2.1, z.2.2⟩, ob, es, ep, k _ _ (.inl rfl) e, c⟩
  | set S n => obtain ⟨ob, es, ep, t, e, c⟩ := x; exact ⟨ob, es, ep, t, k _ _ (.inl rfl) e, c⟩
  | ins C dx fs =>
    obtain ⟨d, z, ne, e, mA, ⟨od, es, ep, e2, c⟩, r⟩ := x
    exact ⟨ho _ d, z, ne, k _ _ (.inl rfl) e, mA, ⟨od, es, ep, k _ _ (.inr d) e2, c⟩, r⟩
  | own y => obtain ⟨ob, e⟩ := x; exact ⟨ob, k _ _ (.inl rfl) e⟩
  | xd fs => obtain ⟨mA, ⟨od, es, ep, e, c⟩, r⟩ := x; exact ⟨mA, ⟨od, es, ep, k _ _ (.inl rfl) e, c⟩, r⟩
  | rng lo hi => obtain ⟨t, u, v, e⟩ := x; exact ⟨t, u, v, k _ _ (.inl rfl) e⟩
  | frz ob u ih => obtain ⟨e, q⟩ := x; exact ⟨k _ _ (.inl rfl) e, ih q⟩
  | tbl ps =>
    have e : h.get? a = some { cls := .none, data := .fields ps } := x
    show h'.get? a = some { cls := .none, data := .fields ps }
    exact k a _ (.inl rfl) e
  | met f y =>
    have e : h.get? a = some (PySem.W.methodObj (.ref f) (.ref y)) := x
    show h'.get? a = some (PySem.W.methodObj (.ref f) (.ref y))
    exact k a _ (.inl rfl) e
  | ext φ => obtain ⟨p, ⟨o, e⟩, st⟩ := x; exact ⟨st _ _ p fun o q => k _ _ (.inl rfl) q, ⟨o, k _ _ (.inl rfl) e⟩, st⟩
theorem HOk.lt (x : HOk P w H h) (e : H a = some o) : a < h.objs.size := (x a o e).lt
theorem HOk.fresh (x : HOk P w H h) (e : h.objs.size ≤ a) : H a = none := by
  cases q : H a with
  | none => rfl
  | some u => exact absurd (Nat.lt_of_lt_of_le (x.lt q) e) (Nat.lt_irrefl _)
theorem HOk.kept (x : HOk P w H h) (k : ∀ b u, h.get? b = some u → h'.get? b = some u) : HOk P w H h' := fun a o e =>
  (x a o e).Bs (fun b u _ q => k b u q) (fun _ q => q) fun _ _ q => q
theorem HOk.laid (x : HOk P w H h) (k : ∀ b u, h.get? b = some u → h'.get? b = some u) (hp : h.objs.size ≤ a) (new : oV P w (upd H a o) h' a o) : HOk P w (upd H a o) h' := fun b u e => by
  have hn := x.fresh hp
  by_cases hb : b = a
  · subst hb; rw [kq] at e; cases e; exact new
  · rw [cW hb] at e
    exact (x b u e).Bs (fun c v _ q => k c v q) (fun c q => by rw [cW (en q hn)]; exact q) fun c xs q => by rw [cW (en q hn)]; exact q
end
noncomputable def Rd (H : Hp) (a : Addr) (u : HO) : Prop := H a = some u ∨ ∃ o, H a = some (.frz o u)
theorem Rd.of {H : Hp} {a : Addr} {u : HO} (h : H a = some u) : Rd H a u := .inl h
theorem Rd.ok {P : Program} {w : World} {H : Hp} {h : Heap} {a : Addr} {u : HO} (r : Rd H a u) (x : HOk P w H h) : oV P w H h a u := by
  rcases r with r | ⟨o, r⟩
  · exact x a u r
  · obtain ⟨_, q⟩ := x a _ r
    exact q
def Mut : Option HO → Prop
  | some (.lst _) => True
  | some (.dK _) => True
  | some (.dT _) => True
  | some (.set _ _) => True
  | some (.ins _ _ _) => True
  | some (.ext _) => True
  | _ => False
section
variable {P : Program} {w : World} {H : Hp} {h h' : Heap} {x e : Addr} {o' : HO}
theorem HOk.write (ok : HOk P w H h) (mu : Mut (H x)) (he : e = x ∨ H e = some (.own x)) (k : ∀ b u, b ≠ e → h.get? b = some u → h'.get? b = some u) (heo : ∃ u, h'.get? e = some u)
    (new : oV P w (upd H x o') h' x o') : HOk P w (upd H x o') h' := fun b u q => by
  have nown : ∀ c y, H c = some (.own y) → c ≠ x := fun c y r z => by subst z; rw [r] at mu; exact mu
  have ntup : ∀ c xs, H c = some (.tup xs) → c ≠ x := fun c xs r z => by subst z; rw [r] at mu; exact mu
  by_cases hb : b = x
  · subst hb; rw [kq] at q; cases q; exact new
  · rw [cW hb] at q
    by_cases hbe : b = e
    · have q' : H b = some (.own x) := by
        rcases he with z | z
        · exact absurd (hbe.trans z) hb
        · rw [hbe]; exact z
      rw [q] at q'; cases q'
      obtain ⟨v, hv⟩ := heo
      exact ⟨v, by rw [hbe]; exact hv⟩
    · refine (ok b u q).Bs (fun c v hc r => k c v ?_ r) (fun c r => by rw [cW (nown c b r)]; exact r) fun c xs r => by rw [cW (ntup c xs r)]; exact r
      rcases hc with rfl | hc
      · exact hbe
      · rintro rfl
        rcases he with z | z
        · exact nown c b hc z
        · rw [hc] at z; cases z; exact hb rfl
end
structure Un (fs ex : List Addr) (H H' : Hp) (h h' : Heap) : Prop where
  keep : ∀ b o, h.get? b = some o → H b = none → b ∉ fs → b ∉ ex → h'.get? b = some o
  slot : ∀ b o, h.get? b = some o → H b = none → b ∈ fs → b ∉ ex → ∃ sl, h'.get? b = some { o with slots := sl }
  free : ∀ b o, h.get? b = some o → H b = none → b ∉ ex → H' b = none
  there : ∀ b o, h.get? b = some o → b ∉ ex → ∃ o', h'.get? b = some o'
  xp : ∀ b xs, H b = some (.tup xs) → H' b = some (.tup xs)
  wJ : ∀ b o u, H b = some (.frz o u) → H' b = some (.frz o u)
  vC : ∀ b ps, H b = some (.tbl ps) → ∃ more, H' b = some (.tbl (ps ++ more))
section
variable {fs fs' ex ex' : List Addr} {H H1 H2 : Hp} {h h1 h2 h' : Heap} {a x e : Addr} {o : HO}
theorem Un.any (u : Un fs ex H H1 h h1) {b : Addr} {ob : Obj} (q : h.get? b = some ob) (n : H b = none) (hx : b ∉ ex) : ∃ sl, h1.get? b = some { ob with slots := sl } := by
  by_cases hb : b ∈ fs
  · exact u.slot b ob q n hb hx
  · exact ⟨ob.slots, u.keep b ob q n hb hx⟩
theorem Un.trans (a : Un fs ex H H1 h h1) (b : Un fs ex H1 H2 h1 h2) : Un fs ex H H2 h h2 where
  keep := fun c ob q n hc hx => b.keep c ob (a.keep c ob q n hc hx) (a.free c ob q n hx) hc hx
  slot := fun c ob q n hc hx => by
    obtain ⟨sl, e1⟩ := a.slot c ob q n hc hx
    obtain ⟨sl', e2⟩ := b.slot c _ e1 (a.free c ob q n hx) hc hx
    exact ⟨sl', e2⟩
  free := fun c ob q n hx => by
    obtain ⟨o', e1⟩ := a.there c ob q hx
    exact b.free c o' e1 (a.free c ob q n hx) hx
  there := fun c ob q hx => by
    obtain ⟨o', e1⟩ := a.there c ob q hx
    exact b.there c o' e1 hx
  xp := fun c xs q => b.xp c xs (a.xp c xs q)
  wJ := fun c ob xs q => b.wJ c ob xs (a.wJ c ob xs q)
  vC := fun c ps q => by
    obtain ⟨m1, e1⟩ := a.vC c ps q
    obtain ⟨m2, e2⟩ := b.vC c _ e1
    exact ⟨m1 ++ m2, by rw [e2, Array.append_assoc]⟩
theorem Un.kept (k : ∀ b u, h.get? b = some u → h'.get? b = some u) : Un fs ex H H h h' :=
  ⟨fun b ob q _ _ _ => k b ob q, fun b ob q _ _ _ => ⟨ob.slots, k b ob q⟩, fun _ _ _ n _ => n, fun b ob q _ => ⟨ob, k b ob q⟩, fun _ _ q => q, fun _ _ _ q => q, fun _ ps q => ⟨#[], by rw [q]; simp⟩⟩
theorem Un.refl : Un fs ex H H h h := Un.kept fun _ _ q => q
theorem Un.laid (k : ∀ b u, h.get? b = some u → h'.get? b = some u) (hp : h.objs.size ≤ a) (hn : H a = none) : Un fs ex H (upd H a o) h h' where
  keep := fun b u q _ _ _ => k b u q
  slot := fun b u q _ _ _ => ⟨u.slots, k b u q⟩
  free := fun b u q n _ => by rw [cW (Nat.ne_of_lt (Nat.lt_of_lt_of_le (Heap.lt_size q) hp))]; exact n
  there := fun b u q _ => ⟨u, k b u q⟩
  xp := fun b xs q => by rw [cW (en q hn)]; exact q
  wJ := fun b u xs q => by rw [cW (en q hn)]; exact q
  vC := fun b ps q => ⟨#[], by rw [cW (en q hn), q]; simp⟩
theorem Un.write (mu : Mut (H x)) (he : e = x ∨ H e = some (.own x)) (k : ∀ b u, b ≠ e → h.get? b = some u → h'.get? b = some u) (heo : ∃ u, h'.get? e = some u) : Un fs ex H (upd H x o) h h' := by
  have hx : ∀ b, H b = none → b ≠ x := fun b n z => by subst z; rw [n] at mu; exact mu
  have hb : ∀ b, H b = none → b ≠ e := fun b n z => by
    subst z
    rcases he with r | r
    · exact hx b n r
    · rw [n] at r; cases r
  have hm : ∀ b u, H b = some u → ¬ Mut (some u) → b ≠ x := fun b u q nm z => by subst z; rw [q] at mu; exact nm mu
  refine ⟨fun b u q n _ _ => k b u (hb b n) q, fun b u q n _ _ => ⟨u.slots, k b u (hb b n) q⟩, fun b u q n _ => by rw [cW (hx b n)]; exact n, fun b u q _ => ?_,
    fun b xs q => by rw [cW (hm b _ q fun z => z)]; exact q, fun b u xs q => by rw [cW (hm b _ q fun z => z)]; exact q, fun b ps q => ⟨#[], by rw [cW (hm b _ q fun z => z), q]; simp⟩⟩
  by_cases hbe : b = e
  · subst hbe; exact heo
  · exact ⟨u, k b u hbe q⟩
theorem Un.mono (u : Un fs ex H H1 h h1) (hs : ∀ b ∈ fs, b ∈ fs') (hx : ∀ b ∈ ex, b ∈ ex') : Un fs' ex' H H1 h h1 :=
  ⟨fun b ob q n hb he => u.keep b ob q n (fun z => hb (hs b z)) fun z => he (hx b z), fun _ _ q n _ he => u.any q n fun z => he (hx _ z), fun b ob q n he => u.free b ob q n fun z => he (hx b z), fun b ob q he => u.there b ob q fun z => he (hx b z), u.xp, u.wJ, u.vC⟩
end
def trk (h : Heap) (H : Hp) : List Addr := (List.range h.objs.size).filter fun a => (H a).isSome
def EX (h : Heap) (H : Hp) : Heap := PySem.W.hideAll h (trk h H)
theorem Ki (h : Heap) (H : Hp) : (EX h H).objs.size = h.objs.size := PySem.W.hideAll_size _ _
theorem Nr {h : Heap} {H : Hp} {b : Addr} {o : Obj} (e : h.get? b = some o) (n : H b = none) : (EX h H).get? b = some o :=
  PySem.W.hideAll_get _ e fun hm => by
    have q : (H b).isSome = true := (List.mem_filter.mp hm).2
    rw [n] at q; simp at q
theorem Ph {h : Heap} {H : Hp} {b : Addr} {o : Obj} (e : (EX h H).get? b = some o) : h.get? b = some o ∧ H b = none := by
  have e' : h.get? b = some o := PySem.W.of_hideAll (trk h H) e
  refine ⟨e', ?_⟩
  cases q : H b with
  | none => rfl
  | some x =>
    have hm : b ∈ trk h H := List.mem_filter.mpr ⟨List.mem_range.mpr (Heap.lt_size e'), by simp [q]⟩
    have z : (EX h H).get? b = none := PySem.W.hideAll_none (trk h H) hm
    rw [z] at e; cases e
def NQ (g h : Heap) (L : Addr) : List (Addr × Obj) := (List.range h.objs.size).filterMap fun a => if a = L ∨ (g.get? a).isSome = true then none else (h.get? a).map fun o => (a, o)
def rest (g h : Heap) (L d : Addr) : List (Addr × Obj) := (NQ g h L).filter fun p => decide (p.1 ≠ d)
end L2
namespace L2
open PySem PySem.Spec PyProof.Rows
structure Mod (K : PySem.W.Frag) (mg : Str → Option Value) (base : Heap) : Prop where
  kin : K.In base
  glob : base.Ns mainGlobals mg
  blt : ∃ mb, base.Ns builtinsNs mb ∧ ∀ x : Str, x ≠ "__name__" → mb x = bootBuiltins x
  nolimit : base.NoLimit
structure Cx where
  prog : Program
  w : World
  K : PySem.W.Frag
  mg : Str → Option Value
  base : Heap
  A : Around
  N : List Str
  s₀ : Shared
  H₀ : Hp
  env : Env
  outer : List Env
  stack : List Env
  ex : List Addr
  fn : Str → Bool
  calm : Bool
  pn : List (Addr × Obj)
  xe : Value → Shared → Prop
def frs (l : List Env) : List Addr := l.filterMap (·.frame)
abbrev Cx.fs (X : Cx) : List Addr := frs X.outer
noncomputable def Vis (sc : Scope) (x : Str) : Prop := sc.names.lookup x = some .local ∨ sc.names.lookup x = some .cell ∨ sc.names.lookup x = some .free
noncomputable def Loc (sc : Scope) (x : Str) : Prop := sc.names.lookup x = some .local ∨ sc.names.lookup x = some .cell
noncomputable def Look (env : Env) (h : Heap) (m : Str → Option Value) (x : Str) (u : Value) : Prop :=
  (env.kindOf x = some .local ∧ m x = some u) ∨ ((env.kindOf x = some .cell ∨ env.kindOf x = some .free) ∧ ∃ c, env.cells.lookup x = some c ∧ h.IsCell c (some u))
structure Cx.Ok (X : Cx) : Prop where
  mod : Mod X.K X.mg X.base
  kind : X.env.scope.kind = .function
  glob : X.env.globals = mainGlobals
  blt : X.env.builtins = builtinsNs
  above : X.s₀.heap.objs.size ≤ X.env.locals
  inj : ∀ x y c, X.env.cells.lookup x = some c → X.env.cells.lookup y = some c → x = y
  has : ∀ x, (X.env.kindOf x = some .cell ∨ X.env.kindOf x = some .free) → ∃ c, X.env.cells.lookup x = some c
  cab : ∀ x c, X.fn x = true → X.env.cells.lookup x = some c → X.s₀.heap.objs.size ≤ c
  hd : X.calm = true → X.A.handled = none
  qt : X.A.handled = none ∨ ∃ (e : Addr) (oe : Obj) (vs : Array Value), X.A.handled = some (.ref e) ∧ (e, oe) ∈ X.pn ∧ oe.data = .fields vs ∧ vs[2]? = some .none
  frames : X.A.frames = some X.stack
  stk : X.stack = X.outer ∨ (X.stack = X.env :: X.outer ∧ X.env.frame = some X.env.locals)
  exf : ∀ b ∈ X.ex, b ≠ X.env.locals ∧ ∀ x c, X.env.cells.lookup x = some c → c ≠ b
  bs : ∀ b o, X.base.get? b = some o → X.s₀.heap.get? b = some o ∧ X.H₀ b = none
  bsz : X.base.objs.size ≤ X.s₀.heap.objs.size
  K0 : ∀ b o, X.base.get? b = some o → b ∉ X.ex
  OC : ∀ b ∈ X.ex, b ∉ X.fs
  Al : X.s₀.heap.FunFrames X.base X.outer
  frf : ∀ b ∈ X.fs, X.H₀ b = none
structure Inv (X : Cx) (pins : List (Addr × Obj)) (σ : List (Option V)) (H : Hp) (s : Shared) : Prop where
  ok : X.Ok
  os : s.os = X.s₀.os
  bare : AllBare s.gens
  base : Un X.fs X.ex X.H₀ H X.s₀.heap s.heap
  loc : ∃ m, s.heap.Ns X.env.locals m ∧ ∀ (i : Nat) (x : Str) (v : V), X.N[i]? = some x → σ[i]? = some (some v) → Vis X.env.scope x → ∃ u, RelV v u ∧ Look X.env s.heap m x u
  cell : ∀ x c, X.env.cells.lookup x = some c → ∃ v, s.heap.IsCell c v
  free : H X.env.locals = none
  qW : ∀ x c, X.env.cells.lookup x = some c → H c = none
  pin : ∀ p ∈ X.pn ++ pins, s.heap.get? p.1 = some p.2 ∧ H p.1 = none ∧ p.1 ≠ X.env.locals ∧ p.1 ∉ X.fs ∧ ∀ v, p.2.data ≠ .cell v
  hok : HOk X.prog X.w H s.heap
  len : σ.length = X.N.length
section
variable {X : Cx} {pins : List (Addr × Obj)} {σ : List (Option V)} {H H' : Hp} {s : Shared} {h' : Heap}
theorem Inv.IW (I : Inv X pins σ H s) : ki X.A s.heap := by
  rcases I.ok.qt with q | ⟨e, oe, vs, q, hp, r⟩
  · exact .inl q
  · exact .inr ⟨e, oe, vs, q, (I.pin (e, oe) (List.mem_append_left _ hp)).1, r⟩
theorem Inv.hne (I : Inv X pins σ H s) {b : Addr} (hb : ∀ p ∈ X.pn ++ pins, p.1 ≠ b) : ∀ e, X.A.handled = some (.ref e) → e ≠ b := fun e he => by
  rcases I.ok.qt with q | ⟨e1, oe, vs, q, hp, r⟩
  · rw [q] at he; cases he
  · rw [q] at he; cases he; exact hb (e, oe) (List.mem_append_left _ hp)
theorem Cx.Ok.T7 (ok : X.Ok) {b : Addr} {o : Obj} (e : X.base.get? b = some o) : b ∉ X.fs := fun hb => by
  have := (ok.Al.mem hb).1
  rw [e] at this; cases this
theorem Inv.bs (I : Inv X pins σ H s) : ∀ b o, X.base.get? b = some o → s.heap.get? b = some o ∧ H b = none := fun b o e =>
  ⟨I.base.keep b o (I.ok.bs b o e).1 (I.ok.bs b o e).2 (I.ok.T7 e) (I.ok.K0 b o e), I.base.free b o (I.ok.bs b o e).1 (I.ok.bs b o e).2 (I.ok.K0 b o e)⟩
theorem Inv.bk (I : Inv X pins σ H s) : ∀ b o, X.base.get? b = some o → s.heap.get? b = some o := fun b o e => (I.bs b o e).1
theorem Inv.mod (I : Inv X pins σ H s) : Mod X.K X.mg X.base := I.ok.mod
theorem Inv.kIn (I : Inv X pins σ H s) : X.K.In s.heap := I.ok.mod.kin.keeps I.bk
theorem Inv.lt (I : Inv X pins σ H s) : X.env.locals < s.heap.objs.size := let ⟨_, hn, _⟩ := I.loc; hn.lt
theorem Inv.sz (I : Inv X pins σ H s) : X.s₀.heap.objs.size ≤ s.heap.objs.size := Nat.le_trans I.ok.above (Nat.le_of_lt I.lt)
theorem Inv.Uq (I : Inv X pins σ H s) {a : Addr} (h : s.heap.objs.size ≤ a) : a ∉ X.fs := fun hb => by
  obtain ⟨_, o, ho, _⟩ := I.ok.Al.mem hb
  exact absurd (Nat.lt_of_lt_of_le (Heap.lt_size ho) (Nat.le_trans I.sz h)) (Nat.lt_irrefl _)
theorem Inv.cne (I : Inv X pins σ H s) : ∀ x c, X.env.cells.lookup x = some c → c ≠ X.env.locals := fun x c e z => by
  obtain ⟨v, o, ho, hd⟩ := I.cell x c e
  obtain ⟨m, ⟨o', es, ep, ho', hd', _⟩, _⟩ := I.loc
  rw [z, ho'] at ho; cases ho; rw [hd'] at hd; cases hd
theorem Inv.Al (I : Inv X pins σ H s) : s.heap.FunFrames X.base X.outer := by
  have all : ∀ (l : List Env), (∀ b ∈ frs l, b ∈ X.fs) → X.s₀.heap.FunFrames X.base l → s.heap.FunFrames X.base l := by
    intro l
    induction l with
    | nil => intro _ _; trivial
    | cons env r ih =>
      intro hs hl
      obtain ⟨hk, ⟨L, o, hf, hn, ho, hd⟩, hr⟩ := hl
      have hL : L ∈ X.fs := hs L (by unfold frs; rw [List.filterMap_cons, hf]; exact List.mem_cons_self)
      obtain ⟨sl, e⟩ := I.base.slot L o ho (I.ok.frf L hL) hL fun z => I.ok.OC L z hL
      exact ⟨hk, ⟨L, _, hf, hn, e, hd⟩, ih (fun b hb => hs b (by unfold frs; rw [List.filterMap_cons, hf]; exact List.mem_cons_of_mem _ hb)) hr⟩
  exact all X.outer (fun _ hb => hb) I.ok.Al
theorem Inv.stack (I : Inv X pins σ H s) : s.heap.FunFrames X.base X.stack := by
  rcases I.ok.stk with e | ⟨e, hf⟩
  · rw [e]; exact I.Al
  · rw [e]
    obtain ⟨m, hn, _⟩ := I.loc
    refine .cons (by rw [I.ok.kind]; decide) hf hn ?_ I.Al
    exact Heap.get?_none_of_le (Nat.le_trans I.ok.bsz I.ok.above)
theorem Inv.xQ (I : Inv X pins σ H s) : ∀ b ∈ frs X.stack, b ∈ X.env.locals :: X.fs := fun b hb => by
  rcases I.ok.stk with e | ⟨e, hf⟩
  · rw [e] at hb; exact List.mem_cons_of_mem _ hb
  · rw [e] at hb
    unfold frs at hb
    rw [List.filterMap_cons, hf] at hb
    exact hb
theorem Inv.C5 (I : Inv X pins σ H s) : ∀ b ∈ frs X.stack, H b = none := fun b hb => by
  rcases List.mem_cons.mp (I.xQ b hb) with e | hb
  · rw [e]; exact I.free
  · obtain ⟨_, o, ho, _⟩ := I.ok.Al.mem hb
    exact I.base.free b o ho (I.ok.frf b hb) fun z => I.ok.OC b z hb
theorem Inv.step {g' : Array GenState} {t' : Nat} {d' : Drawn} {ch : List Addr} (I : Inv X pins σ H s)
    (hch : ∀ b ∈ ch, (b ∈ X.ex ∨ X.s₀.heap.objs.size ≤ b) ∧ b ≠ X.env.locals ∧ (∀ x c, X.env.cells.lookup x = some c → c ≠ b) ∧ ∀ p ∈ X.pn ++ pins, p.1 ≠ b)
    (keep : ∀ b o, b ≠ X.env.locals → b ∉ X.fs → b ∉ ch → s.heap.get? b = some o → H b = none → h'.get? b = some o)
    (slot : ∀ b o, b ≠ X.env.locals → b ∈ X.fs → b ∉ ch → s.heap.get? b = some o → H b = none → ∃ sl, h'.get? b = some { o with slots := sl }) (free : ∀ b o, b ∉ ch → s.heap.get? b = some o → H b = none → H' b = none)
    (there : ∀ b o, b ∉ ch → s.heap.get? b = some o → ∃ o', h'.get? b = some o')
    (xp : ∀ b xs, H b = some (.tup xs) → H' b = some (.tup xs)) (wJ : ∀ b o u, H b = some (.frz o u) → H' b = some (.frz o u)) (vC : ∀ b ps, H b = some (.tbl ps) → ∃ more, H' b = some (.tbl (ps ++ more)))
    (ns : ∀ m, s.heap.Ns X.env.locals m → h'.Ns X.env.locals m) (hok : HOk X.prog X.w H' h') (hg : AllBare g') :
    Inv X pins σ H' { s with heap := h', gens := g', drawn := d', toks := t' } := by
  have neL : ∀ b o, X.s₀.heap.get? b = some o → b ≠ X.env.locals := fun b o e => Nat.ne_of_lt (Nat.lt_of_lt_of_le (Heap.lt_size e) I.ok.above)
  have neC : ∀ b o, X.s₀.heap.get? b = some o → b ∉ X.ex → b ∉ ch := fun b o e hx hb => by
    rcases (hch b hb).1 with z | z
    · exact hx z
    · exact absurd (Nat.lt_of_lt_of_le (Heap.lt_size e) z) (Nat.lt_irrefl _)
  have cellK : ∀ x c, X.env.cells.lookup x = some c → ∀ v, s.heap.IsCell c v → h'.IsCell c v := fun x c e v ⟨o, ho, hd⟩ => by
    have nch : c ∉ ch := fun z => (hch c z).2.2.1 x c e rfl
    by_cases hc : c ∈ X.fs
    · obtain ⟨sl, q⟩ := slot c o (I.cne x c e) hc nch ho (I.qW x c e)
      exact ⟨_, q, hd⟩
    · exact ⟨o, keep c o (I.cne x c e) hc nch ho (I.qW x c e), hd⟩
  refine ⟨I.ok, I.os, hg, ⟨fun b o e n hb hx => ?_, fun b o e n hb hx => ?_, fun b o e n hx => ?_, fun b o e hx => ?_, fun b xs e => xp b xs (I.base.xp b xs e), fun b o xs e => wJ b o xs (I.base.wJ b o xs e), fun b ps e => ?_⟩, ?_, fun x c e => ?_, ?_, fun x c e => ?_, fun p hp => ?_, hok, I.len⟩
  · exact keep b o (neL b o e) hb (neC b o e hx) (I.base.keep b o e n hb hx) (I.base.free b o e n hx)
  · obtain ⟨sl, e1⟩ := I.base.slot b o e n hb hx
    obtain ⟨sl', e2⟩ := slot b _ (neL b o e) hb (neC b o e hx) e1 (I.base.free b o e n hx)
    exact ⟨sl', e2⟩
  · obtain ⟨o', e1⟩ := I.base.there b o e hx
    exact free b o' (neC b o e hx) e1 (I.base.free b o e n hx)
  · obtain ⟨o', e1⟩ := I.base.there b o e hx
    exact there b o' (neC b o e hx) e1
  · obtain ⟨m1, e1⟩ := I.base.vC b ps e
    obtain ⟨m2, e2⟩ := vC b _ e1
    exact ⟨m1 ++ m2, by rw [e2, Array.append_assoc]⟩
  · obtain ⟨m, hn, hl⟩ := I.loc
    refine ⟨m, ns m hn, fun i x v e1 e2 e3 => ?_⟩
    obtain ⟨u, r, l⟩ := hl i x v e1 e2 e3
    refine ⟨u, r, ?_⟩
    rcases l with l | ⟨k, c, e, z⟩
    · exact .inl l
    · exact .inr ⟨k, c, e, cellK x c e _ z⟩
  · obtain ⟨v, z⟩ := I.cell x c e
    exact ⟨v, cellK x c e v z⟩
  · obtain ⟨m, ⟨o, _, _, ho, _⟩, _⟩ := I.loc
    exact free _ o (fun z => (hch _ z).2.1 rfl) ho I.free
  · obtain ⟨v, o, ho, hd⟩ := I.cell x c e
    exact free c o (fun z => (hch c z).2.2.1 x c e rfl) ho (I.qW x c e)
  · obtain ⟨e, n, ne, nf, d⟩ := I.pin p hp
    have nch : p.1 ∉ ch := fun z => (hch p.1 z).2.2.2 p hp rfl
    exact ⟨keep p.1 p.2 ne nf nch e n, free p.1 p.2 nch e n, ne, nf, d⟩
theorem Inv.un {t' : Nat} (I : Inv X pins σ H s) (u : Un X.fs [] H H' s.heap h') (hok : HOk X.prog X.w H' h') : Inv X pins σ H' { s with heap := h', toks := t' } := by
  obtain ⟨m, ⟨o, es, ep, ho, r⟩, _⟩ := id I.loc
  obtain ⟨sl, hL⟩ := u.any ho I.free (by simp)
  exact I.step (g' := s.gens) (d' := s.drawn) (ch := []) (fun _ z => nomatch z) (fun b o _ hb _ e n => u.keep b o e n hb (by simp)) (fun b o _ hb _ e n => u.slot b o e n hb (by simp)) (fun b o _ e n => u.free b o e n (by simp)) (fun b o _ e => u.there b o e (by simp)) u.xp u.wJ u.vC (fun m' hm => by
    obtain ⟨o', es', ep', ho', r'⟩ := hm
    rw [ho] at ho'; cases ho'
    exact ⟨_, es', ep', hL, r'⟩) hok I.bare
theorem Inv.call {g' : Array GenState} {t' : Nat} {d' : Drawn} {ch : List Addr} (I : Inv X pins σ H s) (u : Un (frs X.stack) ch H H' s.heap h') (hok : HOk X.prog X.w H' h') (hg : AllBare g')
    (hch : ∀ b ∈ ch, (b ∈ X.ex ∨ X.s₀.heap.objs.size ≤ b) ∧ b ≠ X.env.locals ∧ (∀ x c, X.env.cells.lookup x = some c → c ≠ b) ∧ ∀ p ∈ X.pn ++ pins, p.1 ≠ b) :
    Inv X pins σ H' { s with heap := h', gens := g', drawn := d', toks := t' } := by
  obtain ⟨m, ⟨o, es, ep, ho, r⟩, _⟩ := id I.loc
  obtain ⟨sl, hL⟩ := u.any ho I.free fun z => (hch _ z).2.1 rfl
  exact I.step (ch := ch) hch (fun b o hL hb hc e n => u.keep b o e n (fun z => (List.mem_cons.mp (I.xQ b z)).elim hL hb) hc) (fun b o _ _ hc e n => u.any e n hc) (fun b o hc e n => u.free b o e n hc) (fun b o hc e => u.there b o e hc) u.xp u.wJ u.vC (fun m' hm => by
    obtain ⟨o', es', ep', ho', r'⟩ := hm
    rw [ho] at ho'; cases ho'
    exact ⟨_, es', ep', hL, r'⟩) hok hg
theorem Inv.turned {t' : Nat} {it : Addr} (I : Inv X pins σ H s) (k : ∀ b o, b ≠ it → s.heap.get? b = some o → h'.get? b = some o) (hn : H it = none) (hL : it ≠ X.env.locals)
    (h1 : it ∈ X.ex ∨ X.s₀.heap.objs.size ≤ it) (h2 : ∀ x c, X.env.cells.lookup x = some c → c ≠ it) (h3 : ∀ p ∈ X.pn ++ pins, p.1 ≠ it) : Inv X pins σ H { s with heap := h', toks := t' } := by
  have nit : ∀ b u, H b = some u → b ≠ it := fun b u e z => by rw [z, hn] at e; cases e
  refine I.step (g' := s.gens) (d' := s.drawn) (ch := [it]) (fun b hb => ?_) (fun b o _ _ hc e _ => k b o (fun z => hc (by simp [z])) e) (fun b o _ _ hc e _ => ⟨o.slots, k b o (fun z => hc (by simp [z])) e⟩) (fun _ _ _ _ n => n)
    (fun b o hc e => ⟨o, k b o (fun z => hc (by simp [z])) e⟩) (fun _ _ e => e) (fun _ _ _ e => e) (fun b ps e => ⟨#[], by rw [e]; simp⟩) (fun m hm => ?_) (fun b u e => ?_) I.bare
  · have e : b = it := by simpa using hb
    subst e
    exact ⟨h1, hL, h2, h3⟩
  · obtain ⟨o, es, ep, ho, r⟩ := hm
    exact ⟨o, es, ep, k _ o (Ne.symm hL) ho, r⟩
  · refine (I.hok b u e).Bs (fun c v hc q => k c v ?_ q) (fun _ q => q) fun _ _ q => q
    rcases hc with z | z
    · rw [z]; exact nit b u e
    · exact nit c _ z
theorem Inv.tok (I : Inv X pins σ H s) (t : Nat) : Inv X pins σ H { s with toks := t } := I.un (h' := s.heap) (t' := t) Un.refl I.hok
theorem Inv.kept {t' : Nat} (I : Inv X pins σ H s) (k : ∀ b u, s.heap.get? b = some u → h'.get? b = some u) : Inv X pins σ H { s with heap := h', toks := t' } := I.un (Un.kept k) (I.hok.kept k)
theorem Inv.laid {a : Addr} {o : HO} {t' : Nat} (I : Inv X pins σ H s) (k : ∀ b u, s.heap.get? b = some u → h'.get? b = some u) (hp : s.heap.objs.size ≤ a) (new : oV X.prog X.w (upd H a o) h' a o) :
    Inv X pins σ (upd H a o) { s with heap := h', toks := t' } := I.un (Un.laid k hp (I.hok.fresh hp)) (I.hok.laid k hp new)
theorem Inv.write {x e : Addr} {o : HO} {t' : Nat} (I : Inv X pins σ H s) (mu : Mut (H x)) (he : e = x ∨ H e = some (.own x)) (k : ∀ b u, b ≠ e → s.heap.get? b = some u → h'.get? b = some u) (heo : ∃ u, h'.get? e = some u)
    (new : oV X.prog X.w (upd H x o) h' x o) : Inv X pins σ (upd H x o) { s with heap := h', toks := t' } := I.un (Un.write mu he k heo) (I.hok.write mu he k heo new)
theorem Inv.JB {pins' : List (Addr × Obj)} (I : Inv X pins σ H s) (h : ∀ p ∈ pins', s.heap.get? p.1 = some p.2 ∧ H p.1 = none ∧ p.1 ≠ X.env.locals ∧ p.1 ∉ X.fs ∧ ∀ v, p.2.data ≠ .cell v) : Inv X pins' σ H s :=
  ⟨I.ok, I.os, I.bare, I.base, I.loc, I.cell, I.free, I.qW, fun p hp => (List.mem_append.mp hp).elim (fun z => I.pin p (List.mem_append_left _ z)) (h p), I.hok, I.len⟩
theorem GJ {N : List Str} (hN : N.Nodup) {i j : Nat} {x : Str} (a : N[i]? = some x) (b : N[j]? = some x) : i = j := by
  obtain ⟨h1, e1⟩ := List.getElem?_eq_some_iff.mp a
  obtain ⟨h2, e2⟩ := List.getElem?_eq_some_iff.mp b
  exact (List.getElem_inj hN).mp (e1.trans e2.symm)
theorem KG {M : Model} {A : Around} {E : Value → Shared → Prop} {i : Nat} {x : Str} {v : V} {u : Value} {Q : Unit → Shared → Prop} (I : Inv X pins σ H s) (hN : X.N.Nodup) (hi : X.N[i]? = some x) (hx : Loc X.env.scope x) (r : RelV v u)
    (h : ∀ s', Inv X pins (σ.set i (some v)) H s' → (∃ a, Heap.SameBut a s.heap s'.heap ∧ (a = X.env.locals ∨ X.env.cells.lookup x = some a)) → Q () s') (hf : X.fn x = true ∨ X.env.scope.names.lookup x = some .local := by first | exact .inl rfl | exact .inr rfl | assumption) : wpAny M A (storeName X.env x u) Q E s := by
  obtain ⟨m, hn, hl⟩ := id I.loc
  have hcls : (X.env.scope.kind == .class || (X.env.scope.kind == .module && X.env.locals != X.env.globals)) = false := by rw [I.ok.kind]; rfl
  have hiσ : i < σ.length := by rw [I.len]; exact (List.getElem?_eq_some_iff.mp hi).1
  have cne := I.cne
  have tracked : ∀ {a : Addr} {h' : Heap}, (∃ o, s.heap.get? a = some o ∧ H a = none) → Heap.SameBut a s.heap h' → HOk X.prog X.w H h' := fun {a h'} ha hs b ob e => by
    obtain ⟨_, _, hfree⟩ := ha
    refine (I.hok b ob e).Bs (fun c w' hc q => (hs.2 c ?_).trans q) (fun _ q => q) fun _ _ q => q
    rintro rfl
    rcases hc with rfl | hc
    · rw [hfree] at e; cases e
    · rw [hfree] at hc; cases hc
  rcases hx with hk | hk
  · refine wpAny_storeName_local hk hn (fun h' hn' hs => ?_) hcls
    obtain ⟨oL, _, _, hoL, _⟩ := id hn
    refine h _ ⟨I.ok, I.os, I.bare, ⟨fun b o e n hb hx => ?_, fun b o e n hb hx => ?_, I.base.free, fun b o e hx => ?_, I.base.xp, I.base.wJ, I.base.vC⟩, ⟨_, hn', fun j y v' e1 e2 e3 => ?_⟩, fun y c e => ?_, I.free, I.qW, fun p hp => ?_, tracked ⟨oL, hoL, I.free⟩ hs, by simpa using I.len⟩ ⟨_, hs, .inl rfl⟩
    · exact (hs.2 b (Nat.ne_of_lt (Nat.lt_of_lt_of_le (Heap.lt_size e) I.ok.above))).trans (I.base.keep b o e n hb hx)
    · obtain ⟨sl, e1⟩ := I.base.slot b o e n hb hx
      exact ⟨sl, (hs.2 b (Nat.ne_of_lt (Nat.lt_of_lt_of_le (Heap.lt_size e) I.ok.above))).trans e1⟩
    · obtain ⟨o', e1⟩ := I.base.there b o e hx
      exact ⟨o', (hs.2 b (Nat.ne_of_lt (Nat.lt_of_lt_of_le (Heap.lt_size e) I.ok.above))).trans e1⟩
    · by_cases hj : j = i
      · subst hj
        rw [hi] at e1; cases e1
        rw [List.getElem?_set_self hiσ] at e2
        cases e2
        exact ⟨u, r, .inl ⟨hk, by simp⟩⟩
      · rw [List.getElem?_set_ne (Ne.symm hj)] at e2
        obtain ⟨u', r', q⟩ := hl j y v' e1 e2 e3
        refine ⟨u', r', ?_⟩
        rcases q with ⟨k, e⟩ | ⟨k, c, e, z⟩
        · refine .inl ⟨k, ?_⟩
          have : y ≠ x := fun e => hj (GJ hN e1 (e ▸ hi))
          simp [this, e]
        · exact .inr ⟨k, c, e, z.sameBut hs (cne y c e)⟩
    · obtain ⟨w', z⟩ := I.cell y c e
      exact ⟨w', z.sameBut hs (cne y c e)⟩
    · obtain ⟨e, n, ne, nf, d⟩ := I.pin p hp
      exact ⟨(hs.2 p.1 ne).trans e, n, ne, nf, d⟩
  · have hfn : X.fn x = true := by
      rcases hf with z | z
      · exact z
      · rw [z] at hk; cases hk
    obtain ⟨c, hc⟩ := I.ok.has x (.inl hk)
    obtain ⟨w', z⟩ := I.cell x c hc
    refine wpAny_storeName_cell I.ok.kind hk hc z (fun h' hc' hs => ?_)
    obtain ⟨oc, hoc, hocd⟩ := id z
    refine h { s with heap := h' } ⟨I.ok, I.os, I.bare, ⟨fun b o e n hb hx => ?_, fun b o e n hb hx => ?_, I.base.free, fun b o e hx => ?_, I.base.xp, I.base.wJ, I.base.vC⟩, ⟨m, hn.sameBut hs (Ne.symm (cne x c hc)), fun j y v' e1 e2 e3 => ?_⟩, fun y c' e => ?_, I.free, I.qW, fun p hp => ?_, tracked ⟨oc, hoc, I.qW x c hc⟩ hs, by simpa using I.len⟩ ⟨c, hs, .inr hc⟩
    · exact (hs.2 b (Nat.ne_of_lt (Nat.lt_of_lt_of_le (Heap.lt_size e) (I.ok.cab x c hfn hc)))).trans (I.base.keep b o e n hb hx)
    · obtain ⟨sl, e1⟩ := I.base.slot b o e n hb hx
      exact ⟨sl, (hs.2 b (Nat.ne_of_lt (Nat.lt_of_lt_of_le (Heap.lt_size e) (I.ok.cab x c hfn hc)))).trans e1⟩
    · obtain ⟨o', e1⟩ := I.base.there b o e hx
      exact ⟨o', (hs.2 b (Nat.ne_of_lt (Nat.lt_of_lt_of_le (Heap.lt_size e) (I.ok.cab x c hfn hc)))).trans e1⟩
    · by_cases hj : j = i
      · subst hj
        rw [hi] at e1; cases e1
        rw [List.getElem?_set_self hiσ] at e2
        cases e2
        exact ⟨u, r, .inr ⟨.inl hk, c, hc, hc'⟩⟩
      · rw [List.getElem?_set_ne (Ne.symm hj)] at e2
        obtain ⟨u', r', q⟩ := hl j y v' e1 e2 e3
        refine ⟨u', r', ?_⟩
        rcases q with q | ⟨k, c', e, z'⟩
        · exact .inl q
        · refine .inr ⟨k, c', e, z'.sameBut hs ?_⟩
          rintro rfl
          exact hj (GJ hN e1 (I.ok.inj _ _ _ e hc ▸ hi))
    · by_cases hcc : c' = c
      · subst hcc; exact ⟨_, hc'⟩
      · obtain ⟨w2, z2⟩ := I.cell y c' e
        exact ⟨w2, z2.sameBut hs hcc⟩
    · obtain ⟨e, n, ne, nf, d⟩ := I.pin p hp
      refine ⟨(hs.2 p.1 ?_).trans e, n, ne, nf, d⟩
      intro q
      rw [q, hoc] at e
      have q' : oc = p.2 := Option.some.inj e
      exact d w' (by rw [← q']; exact hocd)
theorem rK {M : Model} {A : Around} {E : Value → Shared → Prop} {i : Nat} {x : Str} {v : V} {u : Value} {Q : Unit → Shared → Prop} (I : Inv X pins σ H s) (hN : X.N.Nodup) (hi : X.N[i]? = some x) (hx : Loc X.env.scope x) (r : RelV v u)
    (h : ∀ s', Inv X pins (σ.set i (some v)) H s' → Q () s') (hf : X.fn x = true ∨ X.env.scope.names.lookup x = some .local := by first | exact .inl rfl | exact .inr rfl | assumption) : wpAny M A (storeName X.env x u) Q E s :=
  KG I hN hi hx r (fun s' I' _ => h s' I') hf
theorem Inv.LY {s' : Shared} {ch : List Addr} (I : Inv X pins σ H s) (ho : s'.os = s.os) (u : Un (frs X.stack) ch H H' s.heap s'.heap) (hok : HOk X.prog X.w H' s'.heap) (hg : AllBare s'.gens)
    (hch : ∀ b ∈ ch, (b ∈ X.ex ∨ X.s₀.heap.objs.size ≤ b) ∧ b ≠ X.env.locals ∧ (∀ x c, X.env.cells.lookup x = some c → c ≠ b) ∧ ∀ p ∈ X.pn ++ pins, p.1 ≠ b) : Inv X pins σ H' s' := by
  obtain ⟨h', g', d', t', o'⟩ := s'
  have e : o' = s.os := ho
  subst e
  exact I.call (g' := g') (t' := t') (d' := d') u hok hg hch
end
abbrev XK := Value → Option Addr → Hp → Prop
abbrev St := List (Option V)
abbrev VK := V → Hp → Prop
abbrev TE := St → Hp → VK → Prop
abbrev TT := St → Hp → (Bool → Hp → Prop) → Prop
abbrev TA := St → Hp → (List V → Hp → Prop) → Prop
structure Ends where
  nx : St → Hp → Prop
  rt : VK
  bk : St → Hp → Prop := fun _ _ => False
  ct : St → Hp → Prop := fun _ _ => False
abbrev TS := Ends → St → Hp → Prop
noncomputable def EP (X : Cx) (pins : List (Addr × Obj)) (σ : St) (Q : VK) (u : Value) (s' : Shared) : Prop := ∃ v H', Inv X pins σ H' s' ∧ RelV v u ∧ Q v H'
noncomputable def TP (X : Cx) (pins : List (Addr × Obj)) (σ : St) (Q : Bool → Hp → Prop) (b : Bool) (s' : Shared) : Prop := ∃ H', Inv X pins σ H' s' ∧ Q b H'
noncomputable def AP (X : Cx) (pins : List (Addr × Obj)) (σ : St) (Q : List V → Hp → Prop) (us : List Value) (s' : Shared) : Prop := ∃ vs H', Inv X pins σ H' s' ∧ Vals vs us ∧ Q vs H'
noncomputable def SP (X : Cx) (pins : List (Addr × Obj)) (D : Ends) (f : Flow) (s' : Shared) : Prop :=
  match f with
  | .next => ∃ σ' H', Inv X pins σ' H' s' ∧ D.nx σ' H'
  | .brk => ∃ σ' H', Inv X pins σ' H' s' ∧ D.bk σ' H'
  | .cont => ∃ σ' H', Inv X pins σ' H' s' ∧ D.ct σ' H'
  | .ret u => ∃ v σ' H', Inv X pins σ' H' s' ∧ RelV v u ∧ D.rt v H'
noncomputable def PE (X : Cx) (e : Expr) (t : TE) : Prop :=
  ∀ (pins : List (Addr × Obj)) (s : Shared) (σ : St) (H : Hp) (Q : VK), Inv X pins σ H s → t σ H Q → wpAny (model X.prog X.w) X.A (eval e X.env) (EP X pins σ Q) X.xe s
noncomputable def PT (X : Cx) (e : Expr) (t : TT) : Prop :=
  ∀ (pins : List (Addr × Obj)) (s : Shared) (σ : St) (H : Hp) (Q : Bool → Hp → Prop), Inv X pins σ H s → t σ H Q → wpAny (model X.prog X.w) X.A (isTrue e X.env (eval e X.env)) (TP X pins σ Q) X.xe s
noncomputable def PW (X : Cx) (e : Expr) (t : TT) : Prop :=
  ∀ (whole : Sem Value) (pins : List (Addr × Obj)) (s : Shared) (σ : St) (H : Hp) (Q : Bool → Hp → Prop), Inv X pins σ H s → t σ H Q → wpAny (model X.prog X.w) X.A (isTrue e X.env whole) (TP X pins σ Q) X.xe s
theorem PW.pt {X : Cx} {e : Expr} {t : TT} (h : PW X e t) : PT X e t := h _
noncomputable def PA (X : Cx) (es : List Expr) (t : TA) : Prop :=
  ∀ (pos : Pos) (pins : List (Addr × Obj)) (s : Shared) (σ : St) (H : Hp) (Q : List V → Hp → Prop), Inv X pins σ H s → t σ H Q → wpAny (model X.prog X.w) X.A (spliced (backTo pos (starEach es X.env))) (AP X pins σ Q) X.xe s
noncomputable def PS (X : Cx) (st : Stmt) (t : TS) : Prop :=
  ∀ (pins : List (Addr × Obj)) (s : Shared) (σ : St) (H : Hp) (D : Ends), Inv X pins σ H s → t D σ H → wpAny (model X.prog X.w) X.A (exec st X.env) (SP X pins D) X.xe s
noncomputable def PSs (X : Cx) (st : List Stmt) (t : TS) : Prop :=
  ∀ (pins : List (Addr × Obj)) (s : Shared) (σ : St) (H : Hp) (D : Ends), Inv X pins σ H s → t D σ H → wpAny (model X.prog X.w) X.A (execs st X.env) (SP X pins D) X.xe s
theorem thn {α : Type} {t : Sem α} {Q Q' : α → Shared → Prop} {M : Model} {A : Around} {E : Value → Shared → Prop} {s : Shared} (h : wpAny M A t Q E s) (hQ : ∀ a s, Q a s → Q' a s) : wpAny M A t Q' E s := wpAny_mono h hQ fun _ _ x => x
end L2
namespace L2
open PySem PySem.Spec PyProof.Rows
section
variable {X : Cx}
theorem bin {a b : Expr} {ta tb : TE} (ha : PE X a ta) (hb : PE X b tb) {pins : List (Addr × Obj)} {s : Shared} {σ : St} {H : Hp} {R : V → V → Hp → Prop} (I : Inv X pins σ H s) (h : ta σ H fun x H1 => tb σ H1 fun y H2 => R x y H2)
    {α : Type} {Q : α → Shared → Prop} {f : Value → Value → Sem α}
    (hf : ∀ v u s2 x y H2, Inv X pins σ H2 s2 → RelV x v → RelV y u → R x y H2 → wpAny (model X.prog X.w) X.A (f v u) Q X.xe s2) :
    wpAny (model X.prog X.w) X.A (eval a X.env) (fun v s₁ => wpAny (model X.prog X.w) X.A (eval b X.env) (fun u s₂ => wpAny (model X.prog X.w) X.A (f v u) Q X.xe s₂) X.xe s₁) X.xe s := by
  refine thn (ha pins s σ H _ I h) fun v s1 ⟨x, H1, I1, r1, q1⟩ => ?_
  refine thn (hb pins s1 σ H1 _ I1 q1) fun u s2 ⟨y, H2, I2, r2, q2⟩ => ?_
  exact hf v u s2 x y H2 I2 r1 r2 q2
noncomputable def PJ (i : Nat) : TE := fun σ H Q => ∃ v, σ[i]? = some (some v) ∧ Q v H
noncomputable def tC (v : V) : TE := fun _ H Q => Q v H
theorem Md {i : Nat} {x : Str} {pos : Pos} (hN : X.N[i]? = some x) (hv : Vis X.env.scope x) (hd : (x == ("__debug__" : Str)) = false := by decide) (hcd : (x == ("__classdict__" : Str)) = false := by decide) : PE X (.Name x pos) (PJ i) := by
  intro pins s σ H Q I h
  obtain ⟨v, e, h⟩ := h
  obtain ⟨m, hn, hl⟩ := I.loc
  obtain ⟨u, r, l⟩ := hl i x v hN e hv
  have fin : EP X pins σ Q u s := ⟨v, H, I, r, h⟩
  rcases l with ⟨hk, hm⟩ | ⟨hk, c, hc, hcell⟩
  · exact wpAny_Name (wpAny_loadName_local I.ok.kind hk hn hm fin) hd
  · rcases hk with hk | hk
    · exact wpAny_Name (wpAny_loadName_cell I.ok.kind hk hc hcell fin) hd
    · exact wpAny_Name (wpAny_loadName_free I.ok.kind hk hc hcell fin hcd) hd
theorem Mq {i j pos} : PE X (.Constant (.int i) j pos) (tC (.int i)) := fun _ _ _ H _ I h => wpAny_Constant_int ⟨.int i, H, I.tok _, ⟨_, rfl⟩, h⟩
theorem RV {b j pos} : PE X (.Constant (.bool b) j pos) (tC (.bl b)) := fun _ _ _ H _ I h => Constant_bool ⟨.bl b, H, I, rfl, h⟩
theorem Qi {j pos} : PE X (.Constant .none j pos) (tC .non) := fun _ _ _ H _ I h => Constant_none ⟨.non, H, I, rfl, h⟩
theorem Ri {x j pos} : PE X (.Constant (.str x) j pos) (tC (.str x)) := fun _ _ _ H _ I h => Calls.Constant_str ⟨.str x, H, I.tok _, ⟨_, rfl⟩, h⟩
noncomputable def Gl (X : Cx) (x : Str) : Prop := X.env.kindOf x = some .globalImplicit
theorem J4 {E : Value → Shared → Prop} {pins : List (Addr × Obj)} {s : Shared} {σ : St} {H : Hp} {x : Str} {u : Value} {pos : Pos} {Q : Value → Shared → Prop} (I : Inv X pins σ H s) (hg : Gl X x) (hm : X.mg x = some u) (h : Q u s)
    (hd : (x == ("__debug__" : Str)) = false := by decide) : wpAny (model X.prog X.w) X.A (eval (.Name x pos) X.env) Q E s :=
  Calls.Name_function_global I.ok.kind hg (Calls.loadGlobal_global (by rw [I.ok.glob]; exact I.mod.glob.keeps I.bk) hm h) hd
theorem zM {E : Value → Shared → Prop} {pins : List (Addr × Obj)} {s : Shared} {σ : St} {H : Hp} {x : Str} {u : Value} {pos : Pos} {Q : Value → Shared → Prop} (I : Inv X pins σ H s) (hg : Gl X x) (hm : X.mg x = none) (hv : bootBuiltins x = some u) (h : Q u s)
    (hn : x ≠ "__name__" := by decide) (hd : (x == ("__debug__" : Str)) = false := by decide) : wpAny (model X.prog X.w) X.A (eval (.Name x pos) X.env) Q E s := by
  obtain ⟨mb, h1, h2⟩ := I.mod.blt
  exact Calls.Name_function_global I.ok.kind hg (Calls.loadGlobal_builtin (by rw [I.ok.glob]; exact I.mod.glob.keeps I.bk) hm (by rw [I.ok.blt]; exact h1.keeps I.bk) ((h2 x hn).trans hv) h) hd
theorem Ox {x : Str} {v : V} {u : Value} {pos : Pos} (hg : Gl X x) (hm : X.mg x = some u) (r : RelV v u) (hd : (x == ("__debug__" : Str)) = false := by decide) : PE X (.Name x pos) (tC v) :=
  fun _ _ _ H _ I h => J4 I hg hm ⟨v, H, I, r, h⟩ hd
theorem OU {x : Str} {v : V} {u : Value} {pos : Pos} (hg : Gl X x) (hm : X.mg x = none) (hv : bootBuiltins x = some u) (r : RelV v u) (hn : x ≠ "__name__" := by decide) (hd : (x == ("__debug__" : Str)) = false := by decide) : PE X (.Name x pos) (tC v) :=
  fun _ _ _ H _ I h => zM I hg hm hv ⟨v, H, I, r, h⟩ hn hd
variable {a b : Expr} {ta tb : TE} {pos : Pos}
noncomputable def PC (X : Cx) (op : CmpOp) (a b : Expr) (t : TE) : Prop :=
  ∀ (pins : List (Addr × Obj)) (s : Shared) (σ : St) (H : Hp) (Q : VK), Inv X pins σ H s → t σ H Q →
    wpAny (model X.prog X.w) X.A (eval a X.env) (fun v s₁ => wpAny (model X.prog X.w) X.A (eval b X.env) (fun u s₂ => wpAny (model X.prog X.w) X.A (compareOp op v u) (EP X pins σ Q) X.xe s₂) X.xe s₁) X.xe s
theorem Lb (b : Expr) {op : CmpOp} (h : op ≠ .In) (h2 : op ≠ .NotIn) : behindInMarks op b = false := by
  have e1 : (op == CmpOp.In) = false := by cases op <;> first | rfl | exact absurd rfl h
  have e2 : (op == CmpOp.NotIn) = false := by cases op <;> first | rfl | exact absurd rfl h2
  cases b <;> simp [behindInMarks, e1, e2]
noncomputable def tB (t : TE) : TT := fun σ H Q => t σ H fun x H1 => ∃ c, x = .bl c ∧ Q c H1
theorem T3 {op : CmpOp} {t : TE} (h : PC X op a b t) (h1 : behindInMarks op b = false := by first | exact Lb _ (by decide) (by decide) | rfl) : PT X (.Compare a [op] [b] pos) (tB t) := by
  intro pins s σ H Q I hw
  refine wpAny_isTrue_Compare1 (thn (h pins s σ H _ I hw) fun v s1 h1 => thn h1 fun u s2 h2 => thn h2 fun c s3 ⟨x, H1, I1, r1, q1⟩ => ?_) h1
  obtain ⟨d, rfl, q⟩ := q1
  cases r1
  exact wpAny_truthy_bool ⟨H1, I1, q⟩
theorem PU {e : Expr} {t : TE} (h : PE X e t) (he : ∀ whole, isTrue e X.env whole = (do let v ← whole; standAt e.pos; holding [v] (truthy v)) := by intro _; rfl) : PT X e (tB t) := by
  intro pins s σ H Q I hw
  refine isTrue_plain (thn (h pins s σ H _ I hw) fun v s1 ⟨x, H1, I1, r1, q1⟩ => ?_) (he _)
  obtain ⟨d, rfl, q⟩ := q1
  cases r1
  exact wpAny_truthy_bool ⟨H1, I1, q⟩
variable {tA tB' : TT} {rest : List Expr}
noncomputable def Ui (t u : TT) : TT := fun σ H Q => t σ H fun c H1 => if c = true then u σ H1 Q else Q false H1
noncomputable def tOr (t u : TT) : TT := fun σ H Q => t σ H fun c H1 => if c = true then Q true H1 else u σ H1 Q
noncomputable def Ue (t : TT) : TT := fun σ H Q => t σ H fun c H1 => Q (!c) H1
theorem pw_and1 (ha : PT X a tA) : PW X (.BoolOp .And [a] pos) tA := by
  intro wh pins s σ H Q I h
  refine isTrue_and (thn (ha pins s σ H Q I h) fun c s1 e => ?_)
  cases c with
  | true => exact isTrue_and_nil e
  | false => exact e
theorem pw_or1 (ha : PT X a tA) : PW X (.BoolOp .Or [a] pos) tA := by
  intro wh pins s σ H Q I h
  refine isTrue_or (thn (ha pins s σ H Q I h) fun c s1 e => ?_)
  cases c with
  | false => exact isTrue_or_nil e
  | true => exact e
theorem pw_and (ha : PT X a tA) (hb : PW X (.BoolOp .And (b :: rest) pos) tB') : PW X (.BoolOp .And (a :: b :: rest) pos) (Ui tA tB') := by
  intro wh pins s σ H Q I h
  refine isTrue_and (thn (ha pins s σ H _ I h) fun c s1 ⟨H1, I1, q1⟩ => ?_)
  cases c with
  | true => exact hb wh pins s1 σ H1 Q I1 q1
  | false => exact ⟨H1, I1, q1⟩
theorem pw_or (ha : PT X a tA) (hb : PW X (.BoolOp .Or (b :: rest) pos) tB') : PW X (.BoolOp .Or (a :: b :: rest) pos) (tOr tA tB') := by
  intro wh pins s σ H Q I h
  refine isTrue_or (thn (ha pins s σ H _ I h) fun c s1 ⟨H1, I1, q1⟩ => ?_)
  cases c with
  | true => exact ⟨H1, I1, q1⟩
  | false => exact hb wh pins s1 σ H1 Q I1 q1
theorem QZ (ha : PT X a tA) : PT X (.UnaryOp .Not a pos) (Ue tA) := by
  intro pins s σ H Q I h
  exact isTrue_not (ha pins s σ H (fun c H1 => Q (!c) H1) I h)
noncomputable def RS (ta tb : TE) : TE := fun σ H Q => ta σ H fun x H1 => ∃ c, x = .bl c ∧ if c = true then tb σ H1 Q else Q (.bl false) H1
noncomputable def Sg (ta : TE) : TE := fun σ H Q => ta σ H fun x H1 => ∃ c, x = .bl c ∧ Q (.bl (!c)) H1
theorem RC {op} {t : TE} (h : PE X a t) : PE X (.BoolOp op [a] pos) t := fun pins s σ H Q I hw => BoolOp_one (h pins s σ H Q I hw)
theorem Qp (ha : PE X a ta) (hb : PE X (.BoolOp .And (b :: rest) pos) tb) : PE X (.BoolOp .And (a :: b :: rest) pos) (RS ta tb) := by
  intro pins s σ H Q I h
  refine BoolOp_and (thn (ha pins s σ H _ I h) fun v s1 ⟨x, H1, I1, r1, q1⟩ => ?_)
  obtain ⟨c, rfl, q1⟩ := q1
  cases r1
  refine wpAny_truthy_bool ?_
  cases c with
  | true => exact hb pins s1 σ H1 Q I1 q1
  | false => exact ⟨.bl false, H1, I1, rfl, q1⟩
theorem Qs (ha : PE X a ta) : PE X (.UnaryOp .Not a pos) (Sg ta) := by
  intro pins s σ H Q I h
  refine UnaryOp_ (thn (ha pins s σ H _ I h) fun v s1 ⟨x, H1, I1, r1, q1⟩ => ?_)
  obtain ⟨c, rfl, q1⟩ := q1
  cases r1
  exact not_of (wpAny_truthy_bool ⟨.bl (!c), H1, I1, rfl, q1⟩)
noncomputable def tIf (t : TT) (ta tb : TE) : TE := fun σ H Q => t σ H fun c H1 => if c = true then ta σ H1 Q else tb σ H1 Q
theorem L8 {c : Expr} (hc : PT X c tA) (ha : PE X a ta) (hb : PE X b tb) : PE X (.IfExp c a b pos) (tIf tA ta tb) := by
  intro pins s σ H Q I h
  refine wpAny_IfExp (thn (hc pins s σ H _ I h) fun d s1 ⟨H1, I1, q1⟩ => ?_)
  cases d with
  | true => exact ha pins s1 σ H1 Q I1 q1
  | false => exact hb pins s1 σ H1 Q I1 q1
end
end L2
namespace L2
open PySem PySem.Spec PyProof.Rows
noncomputable def SqL (K : PySem.W.Frag) (H : Hp) (a : Addr) (xs : List V) : Prop :=
  Rd H a (.lst xs) ∨
    ∃ (o : Obj) (its : Array Value) (n : Nat), K.lookup a = some o ∧ o.cls = .type "list" ∧ o.dict = none ∧ o.data = .seq its n ∧ its.size ≤ sizeLine ∧ Vals xs its.toList
noncomputable def SqT (K : PySem.W.Frag) (H : Hp) (a : Addr) (xs : List V) : Prop :=
  Rd H a (.tup xs) ∨
    ∃ (o : Obj) (its : Array Value) (n : Nat), K.lookup a = some o ∧ o.cls = .type "tuple" ∧ o.data = .seq its n ∧ its.size ≤ sizeLine ∧ Vals xs its.toList
def Ua : Value → Option V
  | .none => some .non
  | .bool b => some (.bl b)
  | .int i _ => some (.int i)
  | .str x _ => some (.str x)
  | .bytes b _ => some (.byt b)
  | .float b _ => some (.flt b)
  | .ref a => some (.ref a)
  | .type n => some (.ty n)
  | _ => none
theorem RelV.abs {x : V} {u : Value} (r : RelV x u) : Ua u = some x := by
  cases x with
  | non => cases r; rfl
  | bl _ => cases r; rfl
  | int _ => obtain ⟨t, rfl⟩ := r; rfl
  | str _ => obtain ⟨t, rfl⟩ := r; rfl
  | byt _ => obtain ⟨t, rfl⟩ := r; rfl
  | flt _ => obtain ⟨t, rfl⟩ := r; rfl
  | ref _ => cases r; rfl
  | ty _ => cases r; rfl
theorem RelV.inj {x y : V} {u : Value} (r : RelV x u) (q : RelV y u) : x = y := Option.some.inj (r.abs.symm.trans q.abs)
theorem Vals.inj : ∀ {xs ys : List V} {us : List Value}, Vals xs us → Vals ys us → xs = ys
  | _, _, _, .nil, .nil => rfl
  | _, _, _, .cons r t, .cons r' t' => by rw [r.inj r', Vals.inj t t']
section
variable {X : Cx} {pins : List (Addr × Obj)} {σ : St} {H : Hp} {s : Shared} {a : Addr} {xs ys : List V}
theorem SqL.of {K : PySem.W.Frag} (h : H a = some (.lst xs)) : SqL K H a xs := .inl (.inl h)
theorem SqT.of {K : PySem.W.Frag} (h : H a = some (.tup xs)) : SqT K H a xs := .inl (.inl h)
theorem Inv.list (I : Inv X pins σ H s) (h : SqL X.K H a xs) : ∃ its : List Value, Vals xs its ∧ PlainL s.heap a its.toArray ∧ xs.length ≤ sizeLine := by
  rcases h with h | ⟨o, its, n, hk, hc, hd, hs, hz, r⟩
  · obtain ⟨z, its, n, r, e⟩ := h.ok I.hok
    exact ⟨its, r, ⟨_, n, e, rfl, rfl, rfl⟩, z⟩
  · refine ⟨its.toList, r, ⟨o, n, I.kIn a o hk, hc, hd, by simpa using hs⟩, ?_⟩
    have e := r.length
    simp only [Array.length_toList] at e
    omega
theorem Inv.tuple (I : Inv X pins σ H s) (h : SqT X.K H a xs) : ∃ its : List Value, Vals xs its ∧ IsTup s.heap a its.toArray ∧ xs.length ≤ sizeLine := by
  rcases h with h | ⟨o, its, n, hk, hc, hs, hz, r⟩
  · obtain ⟨z, its, r, p⟩ := h.ok I.hok
    exact ⟨its, r, p, z⟩
  · refine ⟨its.toList, r, ⟨o, I.kIn a o hk, hc, n, by simpa using hs⟩, ?_⟩
    have e := r.length
    simp only [Array.length_toList] at e
    omega
theorem Inv.LN (I : Inv X pins σ H s) (h : SqL X.K H a xs) (h' : SqL X.K H a ys) : xs = ys := by
  obtain ⟨its, r, ⟨o, n, e, _, _, d⟩, _⟩ := I.list h
  obtain ⟨its', r', ⟨o', n', e', _, _, d'⟩, _⟩ := I.list h'
  rw [e] at e'; cases e'
  rw [d] at d'
  injection d' with d1 _
  have : its = its' := by simpa using congrArg Array.toList d1
  subst this
  exact r.inj r'
theorem Inv.K6 (I : Inv X pins σ H s) (h : SqT X.K H a xs) (h' : SqT X.K H a ys) : xs = ys := by
  obtain ⟨its, r, ⟨o, e, _, n, d⟩, _⟩ := I.tuple h
  obtain ⟨its', r', ⟨o', e', _, n', d'⟩, _⟩ := I.tuple h'
  rw [e] at e'; cases e'
  rw [d] at d'
  injection d' with d1 _
  have : its = its' := by simpa using congrArg Array.toList d1
  subst this
  exact r.inj r'
end
abbrev Cx.Be (X : Cx) (E : Value → Shared → Prop) : Cx := { X with xe := E }
abbrev Cx.nox (X : Cx) : Cx := X.Be fun _ _ => False
theorem Cx.Ok.Be {X : Cx} (ok : X.Ok) (E : Value → Shared → Prop) : (X.Be E).Ok :=
  ⟨ok.mod, ok.kind, ok.glob, ok.blt, ok.above, ok.inj, ok.has, ok.cab, ok.hd, ok.qt, ok.frames, ok.stk, ok.exf, ok.bs, ok.bsz, ok.K0, ok.OC, ok.Al, ok.frf⟩
theorem Cx.Ok.rh {X : Cx} {E : Value → Shared → Prop} (ok : (X.Be E).Ok) : X.Ok :=
  ⟨ok.mod, ok.kind, ok.glob, ok.blt, ok.above, ok.inj, ok.has, ok.cab, ok.hd, ok.qt, ok.frames, ok.stk, ok.exf, ok.bs, ok.bsz, ok.K0, ok.OC, ok.Al, ok.frf⟩
section
variable {X : Cx} {pins : List (Addr × Obj)} {σ : St} {H : Hp} {s : Shared} {E : Value → Shared → Prop}
theorem Inv.Be (I : Inv X pins σ H s) (E : Value → Shared → Prop) : Inv (X.Be E) pins σ H s := ⟨I.ok.Be E, I.os, I.bare, I.base, I.loc, I.cell, I.free, I.qW, I.pin, I.hok, I.len⟩
theorem Inv.rh (I : Inv (X.Be E) pins σ H s) : Inv X pins σ H s := ⟨I.ok.rh, I.os, I.bare, I.base, I.loc, I.cell, I.free, I.qW, I.pin, I.hok, I.len⟩
theorem SP.rh {D : Ends} {f : Flow} {s' : Shared} (h : SP (X.Be E) pins D f s') : SP X pins D f s' := by
  cases f with
  | next => obtain ⟨σ', H', I, q⟩ := h; exact ⟨σ', H', I.rh, q⟩
  | brk => obtain ⟨σ', H', I, q⟩ := h; exact ⟨σ', H', I.rh, q⟩
  | cont => obtain ⟨σ', H', I, q⟩ := h; exact ⟨σ', H', I.rh, q⟩
  | ret u => obtain ⟨v, σ', H', I, r, q⟩ := h; exact ⟨v, σ', H', I.rh, r, q⟩
theorem PSs.nox {st : List Stmt} {t : TS} (h : PSs X.nox st t) : PSs X st t := fun pins s σ H D I hw =>
  wpAny_mono (h pins s σ H D (I.Be _) hw) (fun _ _ q => q.rh) fun _ _ z => False.elim z
end
section
variable {X : Cx} {st : Stmt} {rest : List Stmt} {t u : TS} {e : Expr} {te : TE} {pos : Pos}
noncomputable def SJ : TS := fun D σ H => D.nx σ H
noncomputable def SS (t u : TS) : TS := fun D σ H => t { D with nx := u D } σ H
theorem Ol : PSs X [] SJ := fun _ _ σ H _ I h => wpAny_execs_nil ⟨σ, H, I, h⟩
theorem MC (h1 : PS X st t) (h2 : PSs X rest u) : PSs X (st :: rest) (SS t u) := by
  intro pins s σ H D I h
  refine wpAny_execs_cons (thn (h1 pins s σ H { D with nx := u D } I h) fun f s1 q => ?_)
  cases f with
  | next =>
    obtain ⟨σ', H', I', q⟩ := q
    exact h2 pins s1 σ' H' D I' q
  | ret v => exact q
  | brk => exact q
  | cont => exact q
theorem OK (h1 : PS X st t) : PSs X [st] t := by
  intro pins s σ H D I h
  refine wpAny_execs_cons (thn (h1 pins s σ H D I h) fun f s1 q => ?_)
  cases f with
  | next => exact wpAny_execs_nil q
  | ret v => exact q
  | brk => exact q
  | cont => exact q
theorem Inv.quiet {pins : List (Addr × Obj)} {σ : St} {H : Hp} {s : Shared} (I : Inv X pins σ H s) : interactive X.env = false := by simp [interactive, I.ok.kind]
noncomputable def Sv (te : TE) : TS := fun D σ H => te σ H fun _ H1 => D.nx σ H1
theorem NX (he : PE X e te) (hs : swapsWith e none pos.line X.env = pure false := by rfl) : PS X (.Expr e pos) (Sv te) := by
  intro pins s σ H D I h
  exact wpAny_Expr_any (thn (he pins s σ H _ I h) fun v s1 ⟨x, H1, I1, r1, q1⟩ => ⟨σ, H1, I1, q1⟩) I.quiet hs
noncomputable def Tw (te : TE) : TS := fun D σ H => te σ H D.rt
theorem P4 (he : PE X e te) : PS X (.Return (some e) pos) (Tw te) := by
  intro pins s σ H D I h
  exact wpAny_Return_some (thn (he pins s σ H _ I h) fun v s1 ⟨x, H1, I1, r1, q1⟩ => ⟨x, σ, H1, I1, r1, q1⟩)
noncomputable def Uo (c : TT) (t u : TS) : TS := fun D σ H => c σ H fun b H1 => if b = true then t D σ H1 else u D σ H1
theorem Ss {c : Expr} {a b : List Stmt} {tc : TT} (hc : PT X c tc) (ha : PSs X a t) (hb : PSs X b u) : PS X (.If c a b pos) (Uo tc t u) := by
  intro pins s σ H D I h
  refine wpAny_If (thn (hc pins s σ H _ I h) fun d s1 ⟨H1, I1, q1⟩ => ?_)
  cases d with
  | true => exact ha pins s1 σ H1 D I1 q1
  | false => exact hb pins s1 σ H1 D I1 q1
end
abbrev TG := V → St → Hp → (St → Hp → Prop) → Prop
abbrev TGs := List V → St → Hp → (St → Hp → Prop) → Prop
noncomputable def PG (X : Cx) (target : Expr) (t : TG) : Prop :=
  ∀ (pins : List (Addr × Obj)) (s : Shared) (σ : St) (H : Hp) (v : V) (u : Value) (Q : St → Hp → Prop), Inv X pins σ H s → RelV v u → t v σ H Q →
    wpAny (model X.prog X.w) X.A (assign target X.env u) (fun _ s' => ∃ σ' H', Inv X pins σ' H' s' ∧ Q σ' H') X.xe s
noncomputable def PGs (X : Cx) (ts : List Expr) (t : TGs) : Prop :=
  ∀ (pins : List (Addr × Obj)) (s : Shared) (σ : St) (H : Hp) (vs : List V) (us : List Value) (Q : St → Hp → Prop), Inv X pins σ H s → Vals vs us → t vs σ H Q →
    wpAny (model X.prog X.w) X.A (assignInOrder ((assignEach ts X.env).map (·.2)) us) (fun _ s' => ∃ σ' H', Inv X pins σ' H' s' ∧ Q σ' H') X.xe s
abbrev QH := V → V → V → Hp → (Hp → Prop) → Prop
noncomputable def S0 (X : Cx) (t : QH) : Prop :=
  ∀ (pins : List (Addr × Obj)) (s : Shared) (σ : St) (H : Hp) (o i v : V) (ov iv u : Value) (Q : Hp → Prop), Inv X pins σ H s → RelV o ov → RelV i iv → RelV v u → t o i v H Q →
    wpAny (model X.prog X.w) X.A (setItem ov iv u) (fun _ s' => ∃ H', Inv X pins σ H' s' ∧ Q H') X.xe s
section
variable {X : Cx} {pos : Pos}
noncomputable def NO (i : Nat) : TG := fun v σ H Q => Q (σ.set i (some v)) H
theorem OJ {i : Nat} {x : Str} (hN : X.N.Nodup) (hi : X.N[i]? = some x) (hx : Loc X.env.scope x) (hf : X.fn x = true ∨ X.env.scope.names.lookup x = some .local := by first | exact .inl rfl | exact .inr rfl | assumption) : PG X (.Name x pos) (NO i) := by
  intro pins s σ H v u Q I r h
  exact wpAny_assign_Name (rK I hN hi hx r (fun s' I' => ⟨_, H, I', h⟩) hf)
def Tq : TGs := fun vs σ H Q => vs = [] ∧ Q σ H
def Se (t : TG) (u : TGs) : TGs := fun vs σ H Q => ∃ v r, vs = v :: r ∧ t v σ H fun σ' H' => u r σ' H' Q
theorem O1 : PGs X [] Tq := by
  intro pins s σ H vs us Q I r h
  obtain ⟨e, h⟩ := h
  subst e
  cases r
  exact assignInOrder_nil ⟨σ, H, I, h⟩
theorem MN {e : Expr} {es : List Expr} {t : TG} {u : TGs} (h1 : PG X e t) (h2 : PGs X es u)
    (hs : (assignEach (e :: es) X.env).map (·.2) = assign e X.env :: (assignEach es X.env).map (·.2) := by rfl) : PGs X (e :: es) (Se t u) := by
  intro pins s σ H vs us Q I r h
  obtain ⟨v, vr, e1, h⟩ := h
  subst e1
  cases r with
  | cons r rr =>
    rw [hs]
    refine assignInOrder_cons (thn (h1 pins s σ H _ _ _ I r h) fun _ s1 ⟨σ1, H1, I1, q1⟩ => ?_)
    exact h2 pins s1 σ1 H1 _ _ Q I1 rr q1
noncomputable def TQ (K : PySem.W.Frag) (n : Nat) (t : TGs) : TG := fun v σ H Q => ∃ a xs, v = .ref a ∧ SqT K H a xs ∧ xs.length = n ∧ t xs σ H Q
theorem Q6 {es : List Expr} {k : Nat} {t : TGs} {n : Nat} (hc : X.calm = X.calm) (h : PGs X es t)
    (hn : (assignEach es X.env).length = n := by rfl) (hst : (assignEach es X.env).findIdx? (·.1) = none := by rfl) : PG X (.Tuple es k pos) (TQ X.K n t) := by
  intro pins s σ H v u Q I r hw
  obtain ⟨a, xs, e1, hq, hl, hw⟩ := hw
  subst e1
  cases r
  obtain ⟨its, rv, ht, hz⟩ := I.tuple hq
  refine Bo I.IW ht (by simp [hn, ← hl, rv.length]) hst fun h' hx => ?_
  have I1 : Inv X pins σ H { s with heap := h' } := I.kept (t' := s.toks) fun b o e => hx b o (Nat.ne_of_lt (Heap.lt_size e)) e
  exact h pins _ σ H xs _ Q I1 (by simpa using rv) hw
noncomputable def TJ (to ti : TE) (t : QH) : TG := fun v σ H Q => to σ H fun o H1 => ti σ H1 fun i H2 => t o i v H2 fun H3 => Q σ H3
theorem PN {o i : Expr} {to ti : TE} {t : QH} (ho : PE X o to) (hi : PE X i ti) (hs : S0 X t)
    (ha : ∀ v, assign (.Subscript o i pos) X.env v = (do
      let ov ← holding [v] (eval o X.env)
      let iv ← holding [v, ov] (eval i X.env)
      standAt pos
      holding [v, ov, iv] (setItem ov iv v)
      release [v, ov, iv] []) := by intro _; rfl) : PG X (.Subscript o i pos) (TJ to ti t) := by
  intro pins s σ H v u Q I r h
  rw [ha]
  refine wpAny_bind (wpAny_holding (thn (ho pins s σ H _ I h) fun ov s1 ⟨x, H1, I1, r1, q1⟩ => ?_))
  refine wpAny_bind (wpAny_holding (thn (hi pins s1 σ H1 _ I1 q1) fun iv s2 ⟨y, H2, I2, r2, q2⟩ => ?_))
  refine wpAny_bind (wpAny_standAt (wpAny_bind (wpAny_holding (thn (hs pins s2 σ H2 x y v ov iv u _ I2 r1 r2 r q2) fun _ s3 ⟨H3, I3, q3⟩ => ?_))))
  exact wpAny_release ⟨σ, H3, I3, q3⟩
noncomputable def P6 (te : TE) (g : TG) : TS := fun D σ H => te σ H fun x H1 => g x σ H1 D.nx
theorem Ro {tg e : Expr} {te : TE} {g : TG} (he : PE X e te) (hg : PG X tg g) (hs : swapsWithSole [tg] e pos.line X.env = pure false := by rfl) (hw : swappedStores [tg] e X.env = pure none := by rfl)
    (h1 : (assignEach [tg] X.env).map (·.2) = [assign tg X.env] := by rfl) : PS X (.Assign [tg] e pos) (P6 te g) := by
  intro pins s σ H D I h
  refine wpAny_Assign_stores (thn (he pins s σ H _ I h) fun v s1 ⟨x, H1, I1, r1, q1⟩ => ?_) hs hw
  rw [h1]
  exact thn (hg pins s1 σ H1 x v _ I1 r1 q1) fun _ s2 q => q
theorem Rf {i : Nat} {x : Str} {e : Expr} {te : TE} {pos' : Pos} (hN : X.N.Nodup) (hi : X.N[i]? = some x) (hx : Loc X.env.scope x) (he : PE X e te) (hs : swapsWith e (some (.Name x pos')) pos.line X.env = pure false := by rfl) (hf : X.fn x = true ∨ X.env.scope.names.lookup x = some .local := by first | exact .inl rfl | exact .inr rfl | assumption) :
    PS X (.Assign [.Name x pos'] e pos) (P6 te (NO i)) := by
  intro pins s σ H D I h
  refine wpAny_Assign_Name (thn (he pins s σ H _ I h) fun v s1 ⟨y, H1, I1, r1, q1⟩ => ?_) hs
  exact rK I1 hN hi hx r1 (fun s2 I2 => ⟨_, H1, I2, q1⟩) hf
noncomputable def Ub (i j : Nat) (ta : TA) : TS := fun D σ H => ta σ H fun vs H1 => ∃ v w, vs = [v, w] ∧ D.nx ((σ.set i (some v)).set j (some w)) H1
theorem Rn {i j : Nat} {x y : Str} {a b : Expr} {ta : TA} {px py pt : Pos} {kt k2 pt2} (hc : X.calm = true) (hN : X.N.Nodup) (hi : X.N[i]? = some x) (hj : X.N[j]? = some y) (hij : i ≠ j)
    (hx : X.env.scope.names.lookup x = some .local) (hy : X.env.scope.names.lookup y = some .local) (ha : PA X [a, b] ta)
    (hw : swappedStores [.Tuple [.Name x px, .Name y py] kt pt] (.Tuple [a, b] k2 pt2) X.env = pure (some [x, y]))
    (hs : swapsWithSole [.Tuple [.Name x px, .Name y py] kt pt] (.Tuple [a, b] k2 pt2) pos.line X.env = pure false := by rfl) :
    PS X (.Assign [.Tuple [.Name x px, .Name y py] kt pt] (.Tuple [a, b] k2 pt2) pos) (Ub i j ta) := by
  intro pins s σ H D I h
  rw [exec_Assign_arm]
  refine wpAny_bind (wpAny_standAt ?_)
  rw [hs]
  refine wpAny_bind (wpAny_pure ?_)
  rw [if_neg (by decide)]
  refine wpAny_bind (Tuple_ (thn (ha _ pins s σ H _ I h) fun us s1 ⟨vs, H1, I1, r1, q1⟩ => ?_))
  obtain ⟨v, w, e1, q1⟩ := q1
  subst e1
  obtain ⟨u1, u2, rfl, rv, rw'⟩ : ∃ u1 u2, us = [u1, u2] ∧ RelV v u1 ∧ RelV w u2 := by
    cases r1 with
    | cons p q =>
      cases q with
      | cons p' q' =>
        cases q'
        exact ⟨_, _, rfl, p, p'⟩
  refine wpAny_newObj_type ?_ (by show 2 ≤ sizeLine; decide)
  have I2 : Inv X pins σ H1 { s1 with heap := s1.heap.push { cls := .type "tuple", data := .seq [u1, u2].toArray } } := I1.kept (t' := s1.toks) fun b o e => Heap.get?_push_of_some _ e
  rw [hw]
  refine wpAny_bind (wpAny_pure ?_)
  show wpAny (model X.prog X.w) X.A (do rule "assign.swapped-stores"; let items ← unpackItems (.ref s1.heap.objs.size) 2 none; assignInOrder [fun v => bindName X.env y v, fun v => bindName X.env x v] items.reverse; pure Flow.next) _ _ _
  refine wpAny_bind (wpAny_rule (wpAny_bind (unpackItems_tuple (items := #[u1, u2]) (I.ok.hd hc) (IsTup.new s1.heap _) fun h' hx' => ?_)))
  have I3 := I2.kept (h' := h') (t' := s1.toks) fun b o e => hx' b o (Nat.ne_of_lt (Heap.lt_size e)) e
  show wpAny _ _ (assignInOrder [fun v => bindName X.env y v, fun v => bindName X.env x v] [u2, u1] >>= fun _ => pure Flow.next) _ _ _
  refine wpAny_bind (assignInOrder_cons (wpAny_bindName (rK I3 hN hj (.inl hy) rw' (fun s2 I4 => ?_) (.inr hy))))
  refine assignInOrder_cons (wpAny_bindName (rK I4 hN hi (.inl hx) rv (fun s3 I5 => assignInOrder_nil (wpAny_pure ?_)) (.inr hx)))
  rw [List.set_comm _ _ (Ne.symm hij)] at I5
  exact ⟨_, H1, I5, q1⟩
end
section
variable {X : Cx} {pos : Pos}
noncomputable def QL (c : TT) (tb : TS) : TS := fun D σ H => ∃ W : Nat → St → Hp → Prop, (∃ m, W m σ H) ∧ ∀ m σ H, W m σ H →
  c σ H fun b H1 => if b = true then ∃ N : St → Hp → Prop, (∀ σ' H', N σ' H' → ∃ m', m' < m ∧ W m' σ' H') ∧ tb { D with nx := N, ct := N, bk := D.nx } σ H1 else D.nx σ H1
theorem LF {c : Expr} {body : List Stmt} {tc : TT} {tb : TS} (hp : PassesOwn (model X.prog X.w) X.A X.env X.xe) (hc : PT X c tc) (hb : PSs X body tb) : PS X (.While c body [] pos) (QL tc tb) := by
  intro pins s σ H D I h
  obtain ⟨W, ⟨m0, w0⟩, turn⟩ := h
  refine wpAny_While (codeAny_whileLoop (fun n s' => ∃ σ' H', Inv X pins σ' H' s' ∧ W n σ' H') ?_ m0 ⟨σ, H, I, w0⟩)
  rintro n s1 ⟨σ1, H1, I1, w1⟩
  refine wpAny_passesOwn hp (thn (hc pins s1 σ1 H1 _ I1 (turn n σ1 H1 w1)) fun b s2 ⟨H2, I2, q2⟩ => ?_)
  cases b with
  | true =>
    obtain ⟨N, hN, q2⟩ := q2
    rw [if_pos rfl]
    refine wpAny_passesOwn hp (thn (hb pins s2 σ1 H2 _ I2 q2) fun f s3 q3 => ?_)
    cases f with
    | next =>
      obtain ⟨σ3, H3, I3, n3⟩ := q3
      obtain ⟨m', hm, w3⟩ := hN σ3 H3 n3
      exact ⟨m', hm, σ3, H3, I3, w3⟩
    | cont =>
      obtain ⟨σ3, H3, I3, n3⟩ := q3
      obtain ⟨m', hm, w3⟩ := hN σ3 H3 n3
      exact ⟨m', hm, σ3, H3, I3, w3⟩
    | brk => exact q3
    | ret v => exact q3
  | false =>
    rw [if_neg Bool.false_ne_true]
    exact wpAny_execs_nil ⟨σ1, H2, I2, q2⟩
end
structure It where
  go : Nat → Hp → Prop
  yld : Nat → Hp → V → Hp → Prop
  stop : Nat → Hp → Prop
noncomputable def Dp (X : Cx) (pins : List (Addr × Obj)) (H : Hp) (b : Addr) : Prop :=
  H b = none ∧ b ≠ X.env.locals ∧ b ∉ X.fs ∧ (b ∈ X.ex ∨ X.s₀.heap.objs.size ≤ b) ∧ (∀ x c, X.env.cells.lookup x = some c → c ≠ b) ∧ ∀ p ∈ X.pn ++ pins, p.1 ≠ b
theorem Inv.OV {X : Cx} {pins : List (Addr × Obj)} {σ : St} {H H' : Hp} {s : Shared} {b : Addr} (I : Inv X pins σ H s) (hb : s.heap.objs.size ≤ b) (hn : H' b = none) : Dp X pins H' b := by
  refine ⟨hn, Nat.ne_of_gt (Nat.lt_of_lt_of_le I.lt hb), I.Uq hb, .inr (Nat.le_trans I.sz hb), fun x c e z => ?_, fun p hp z => ?_⟩
  · obtain ⟨v, q⟩ := I.cell x c e
    exact absurd (Nat.lt_of_lt_of_le q.lt (by rw [z]; exact hb)) (Nat.lt_irrefl _)
  · exact absurd (Nat.lt_of_lt_of_le (Heap.lt_size (I.pin p hp).1) (by rw [z]; exact hb)) (Nat.lt_irrefl _)
structure Turn (c : Bool) (P : Program) (w : World) (K : PySem.W.Frag) (tg : Expr) (J : It) (fp : List Addr) (it : Addr) (tn : Nat → Heap → Prop) : Prop where
  mem : it ∈ fp
  obj : ∀ i h, tn i h → ∀ b ∈ fp, ∃ o, h.get? b = some o ∧ ∀ v, o.data ≠ .cell v
  keep : ∀ i h h', tn i h → (∀ b ∈ fp, ∀ o, h.get? b = some o → h'.get? b = some o) → tn i h'
  item : ∀ (X : Cx), X.prog = P → X.w = w → X.K = K → (c = true → X.calm = true) → ∀ (i : Nat) (pins : List (Addr × Obj)) (s : Shared) (σ : St) (H : Hp) (E : Value → Shared → Prop), Inv X pins σ H s → (∀ b ∈ fp, Dp X pins H b) → tn i s.heap → J.go i H →
    wpAny (model P w) X.A (pyNext (.ref it)) (fun r s1 => ∃ u, r = some u ∧
      wpAny (model P w) X.A (letOwnedTupleGo tg (.ref it) u) (fun _ s2 => ∃ x H', Inv X pins σ H' s2 ∧ RelV x u ∧ J.yld i H x H' ∧ tn (i + 1) s2.heap ∧ ∀ b ∈ fp, H' b = none) E s1) E s
  done : ∀ (X : Cx), X.prog = P → X.w = w → X.K = K → (c = true → X.calm = true) → ∀ (i : Nat) (pins : List (Addr × Obj)) (s : Shared) (σ : St) (H : Hp) (E : Value → Shared → Prop), Inv X pins σ H s → (∀ b ∈ fp, Dp X pins H b) → tn i s.heap → J.stop i H →
    wpAny (model P w) X.A (pyNext (.ref it)) (fun r s1 => r = none ∧ Inv X pins σ H s1) E s
  self : ∀ (A : Around) (i : Nat) (s : Shared) (Q : Value → Shared → Prop) (E : Value → Shared → Prop), tn i s.heap → Q (.ref it) s → wpAny (model P w) A (pyIter (.ref it)) Q E s
theorem Turn.calm {c : Bool} {P : Program} {w : World} {K : PySem.W.Frag} {tg : Expr} {J : It} {fp : List Addr} {it : Addr} {tn : Nat → Heap → Prop} (T : Turn true P w K tg J fp it tn) (h : c = true) : Turn c P w K tg J fp it tn := by subst h; exact T
abbrev TI := St → Hp → (It → Hp → Prop) → Prop
noncomputable def PIE (X : Cx) (pins : List (Addr × Obj)) (σ : St) (tg : Expr) (R : It → Hp → Prop) (itv : Value) (s2 : Shared) : Prop :=
  ∃ (it : Addr) (fp : List Addr) (tn : Nat → Heap → Prop) (J : It) (H' : Hp), itv = .ref it ∧ Inv X pins σ H' s2 ∧ Turn X.calm X.prog X.w X.K tg J fp it tn ∧ tn 0 s2.heap ∧ (∀ b ∈ fp, Dp X pins H' b) ∧ R J H'
noncomputable def PI (X : Cx) (tg iter : Expr) (wi : TI) : Prop :=
  ∀ (pins : List (Addr × Obj)) (s : Shared) (σ : St) (H : Hp) (R : It → Hp → Prop), Inv X pins σ H s → wi σ H R →
    wpAny (model X.prog X.w) X.A (eval iter X.env) (fun v s1 => wpAny (model X.prog X.w) X.A (pyIter v) (PIE X pins σ tg R) X.xe s1) X.xe s
theorem L4 {M : Model} {A : Around} {E : Value → Shared → Prop} {s : Shared} {tg : Expr} {it : Addr} {u : Value} {o : Obj} {n : String} {vs : Array Value} {Q : Unit → Shared → Prop} (ho : s.heap.get? it = some o) (hc : o.cls = .type n) (hd : o.data = .fields vs)
    (hn : ["enumerate", "zip", "dict_itemiterator", "dict_reverseitemiterator", "odict_iterator", "itertools.zip_longest", "itertools.pairwise"].contains n = false) (hQ : Q () s) : wpAny M A (letOwnedTupleGo tg (.ref it) u) Q E s := by
  unfold letOwnedTupleGo
  cases tg <;> first
    | exact wpAny_pure hQ
    | (cases u <;> first
        | exact wpAny_pure hQ
        | (refine wpAny_bind (wpAny_load ho ?_)
           rw [hc, hd]
           show wpAny M A (if (["enumerate", "zip", "dict_itemiterator", "dict_reverseitemiterator", "odict_iterator", "itertools.zip_longest", "itertools.pairwise"].contains n && vs[0]? == some (rawInt _)) = true then _ else _) Q E s
           rw [if_neg (by intro h; rw [hn, Bool.false_and] at h; cases h)]
           exact wpAny_pure hQ))
def Itl (K : PySem.W.Frag) (a : Addr) : It :=
  ⟨fun i H => ∃ xs x, SqL K H a xs ∧ xs[i]? = some x, fun i H x H' => H' = H ∧ ∀ xs, SqL K H a xs → xs[i]? = some x, fun i H => ∃ xs, SqL K H a xs ∧ xs.length ≤ i⟩
def Itt (K : PySem.W.Frag) (a : Addr) : It :=
  ⟨fun i H => ∃ xs x, SqT K H a xs ∧ xs[i]? = some x, fun i H x H' => H' = H ∧ ∀ xs, SqT K H a xs → xs[i]? = some x, fun i H => ∃ xs, SqT K H a xs ∧ xs.length ≤ i⟩
def Itr (lo : Int) (n : Nat) : It := ⟨fun i _ => i < n, fun i H x H' => H' = H ∧ x = .int (lo + i), fun i _ => n ≤ i⟩
theorem KJ {c : Bool} {P : Program} {w : World} {K : PySem.W.Frag} {tg : Expr} (a it : Addr) : Turn c P w K tg (Itl K a) [it] it (fun i h => h.IsListIter it a i) where
  mem := by simp
  obj := fun i h st b hb => by
    have e : b = it := by simpa using hb
    subst e
    obtain ⟨o, e, c, d⟩ := st
    exact ⟨o, e, fun v z => by rw [d] at z; cases z⟩
  keep := fun i h h' st k => st.at fun o e => k it (by simp) o e
  item := by
    intro X hP hw hK hc i pins s σ H E I hf st hg
    subst hP hw hK
    obtain ⟨xs, x, hq, hx⟩ := hg
    obtain ⟨its, rv, p, hz⟩ := I.list hq
    obtain ⟨u, hu, ru⟩ := rv.get hx
    obtain ⟨f0, f1, f2, f3, f4, f5⟩ := hf it (by simp)
    refine wpAny_pyNext_list_item st p.isList (x := u) (by simpa using hu) fun h' st' sb => ?_
    have I1 : Inv X pins σ H { s with heap := h' } := I.turned (t' := s.toks) (fun b o hb e => (sb.2 b hb).trans e) f0 f1 f3 f4 f5
    obtain ⟨o, e, c, d⟩ := id st'
    exact ⟨u, rfl, L4 (s := { s with heap := h' }) e c d (by decide) ⟨x, H, I1, ru, ⟨rfl, fun ys hy => by rw [I.LN hy hq]; exact hx⟩, st', fun b hb => (hf b hb).1⟩⟩
  done := by
    intro X hP hw hK hc i pins s σ H E I hf st hg
    subst hP hw hK
    obtain ⟨xs, hq, hx⟩ := hg
    obtain ⟨its, rv, p, hz⟩ := I.list hq
    obtain ⟨f0, f1, f2, f3, f4, f5⟩ := hf it (by simp)
    have hl := rv.length
    exact Bx I.IW (I.hne f5) st p.isList (by simp; omega) fun h' eb => ⟨rfl, I.turned (t' := s.toks) (fun b o hb e => eb b o hb e) f0 f1 f3 f4 f5⟩
  self := fun _ _ _ _ _ st h => wpAny_pyIter_listiter st h
theorem G1 {c : Bool} {P : Program} {w : World} {K : PySem.W.Frag} {tg : Expr} (a it : Addr) : Turn c P w K tg (Itt K a) [it] it (fun i h => h.IsTupleIter it a i) where
  mem := by simp
  obj := fun i h st b hb => by
    have e : b = it := by simpa using hb
    subst e
    obtain ⟨o, e, c, d⟩ := st
    exact ⟨o, e, fun v z => by rw [d] at z; cases z⟩
  keep := fun i h h' st k => st.at fun o e => k it (by simp) o e
  item := by
    intro X hP hw hK hc i pins s σ H E I hf st hg
    subst hP hw hK
    obtain ⟨xs, x, hq, hx⟩ := hg
    obtain ⟨its, rv, p, hz⟩ := I.tuple hq
    obtain ⟨u, hu, ru⟩ := rv.get hx
    obtain ⟨f0, f1, f2, f3, f4, f5⟩ := hf it (by simp)
    refine wpAny_pyNext_tuple_item st (show s.heap.IsTuple a its.toArray from p) (x := u) (by simpa using hu) fun h' st' sb => ?_
    have I1 : Inv X pins σ H { s with heap := h' } := I.turned (t' := s.toks) (fun b o hb e => (sb.2 b hb).trans e) f0 f1 f3 f4 f5
    obtain ⟨o, e, c, d⟩ := id st'
    exact ⟨u, rfl, L4 (s := { s with heap := h' }) e c d (by decide) ⟨x, H, I1, ru, ⟨rfl, fun ys hy => by rw [I.K6 hy hq]; exact hx⟩, st', fun b hb => (hf b hb).1⟩⟩
  done := by
    intro X hP hw hK hc i pins s σ H E I hf st hg
    subst hP hw hK
    obtain ⟨xs, hq, hx⟩ := hg
    obtain ⟨its, rv, p, hz⟩ := I.tuple hq
    obtain ⟨f0, f1, f2, f3, f4, f5⟩ := hf it (by simp)
    have hl := rv.length
    exact vH I.IW (I.hne f5) st (show s.heap.IsTuple a its.toArray from p) (by simp; omega) fun h' eb => ⟨rfl, I.turned (t' := s.toks) (fun b o hb e => eb b o hb e) f0 f1 f3 f4 f5⟩
  self := fun _ _ _ _ _ st h => wpAny_pyIter_tupleiter st h
theorem HM {P : Program} {w : World} {K : PySem.W.Frag} {tg : Expr} (it : Addr) (lo : Int) (n : Nat) : Turn true P w K tg (Itr lo n) [it] it (fun i h => IsRangeIter h it (lo + (i : Nat) * 1) ((n : Int) - (i : Nat)) 1) where
  mem := by simp
  obj := fun i h st b hb => by
    have e : b = it := by simpa using hb
    subst e
    exact ⟨_, st, fun v z => by
      have z' : Data.fields _ = Data.cell v := z
      cases z'⟩
  keep := fun i h h' st k => k it (by simp) _ st
  item := by
    intro X hP hw hK hc i pins s σ H E I hf st hg
    subst hP hw hK
    obtain ⟨f0, f1, f2, f3, f4, f5⟩ := hf it (by simp)
    have W := Walks.range (prog := X.prog) (w := X.w) (I.ok.hd (hc rfl)) it lo 1 n
    refine W.item i s _ _ hg st fun v h' tk hv st' kk => ?_
    obtain ⟨t, rfl⟩ := hv
    have I1 : Inv X pins σ H { s with heap := h', toks := tk } := I.turned (fun b o hb e => kk b o (by simpa using hb) e) f0 f1 f3 f4 f5
    refine ⟨_, rfl, L4 (s := { s with heap := h', toks := tk }) (n := "range_iterator") st' rfl rfl (by decide) ⟨.int (lo + i), H, I1, ⟨t, ?_⟩, ⟨rfl, rfl⟩, st', fun b hb => (hf b hb).1⟩⟩
    rw [Int.mul_one]
  done := by
    intro X hP hw hK hc i pins s σ H E I hf st hg
    subst hP hw hK
    obtain ⟨f0, f1, f2, f3, f4, f5⟩ := hf it (by simp)
    exact wpAny_pyNext_range_end (I.ok.hd (hc rfl)) st (by have : n ≤ i := hg; omega) fun h' eb => ⟨rfl, I.turned (t' := s.toks) (fun b o hb e => eb b o hb e) f0 f1 f3 f4 f5⟩
  self := fun _ _ _ _ _ st h => wpAny_pyIter_rangeiter st h
end L2
namespace L2
open PySem PySem.Spec PyProof.Rows
section
variable {X : Cx} {tg : Expr}
noncomputable def Tf (K : PySem.W.Frag) (tl : TE) : TI := fun σ H R => tl σ H fun x H1 => ∃ a, x = .ref a ∧ (∃ xs, SqL K H1 a xs) ∧ R (Itl K a) H1
noncomputable def TR (K : PySem.W.Frag) (tl : TE) : TI := fun σ H R => tl σ H fun x H1 => ∃ a, x = .ref a ∧ (∃ xs, SqT K H1 a xs) ∧ R (Itt K a) H1
theorem JE {l : Expr} {tl : TE} (hl : PE X l tl) : PI X tg l (Tf X.K tl) := by
  intro pins s σ H R I h
  refine thn (hl pins s σ H _ I h) fun v s1 ⟨x, H1, I1, r1, q1⟩ => ?_
  obtain ⟨a, e, ⟨xs, hq⟩, q⟩ := q1
  subst e
  cases r1
  obtain ⟨its, rv, p, hz⟩ := I1.list hq
  refine wpAny_pyIter_list p.isList ?_
  refine ⟨s1.heap.objs.size, [s1.heap.objs.size], _, _, H1, rfl, I1.kept (t' := s1.toks) fun b o e => Heap.get?_push_of_some _ e, KJ a _, ⟨_, Heap.get?_push_size _ rfl, rfl, rfl⟩, fun b hb => ?_, q⟩
  have e : b = s1.heap.objs.size := by simpa using hb
  subst e
  exact I1.OV (Nat.le_refl _) (I1.hok.fresh (Nat.le_refl _))
theorem QM {l : Expr} {tl : TE} (hl : PE X l tl) : PI X tg l (TR X.K tl) := by
  intro pins s σ H R I h
  refine thn (hl pins s σ H _ I h) fun v s1 ⟨x, H1, I1, r1, q1⟩ => ?_
  obtain ⟨a, e, ⟨xs, hq⟩, q⟩ := q1
  subst e
  cases r1
  obtain ⟨its, rv, p, hz⟩ := I1.tuple hq
  refine wpAny_pyIter_tuple (show s1.heap.IsTuple a its.toArray from p) ?_
  refine ⟨s1.heap.objs.size, [s1.heap.objs.size], _, _, H1, rfl, I1.kept (t' := s1.toks) fun b o e => Heap.get?_push_of_some _ e, G1 a _, ⟨_, Heap.get?_push_size _ rfl, rfl, rfl⟩, fun b hb => ?_, q⟩
  have e : b = s1.heap.objs.size := by simpa using hb
  subst e
  exact I1.OV (Nat.le_refl _) (I1.hok.fresh (Nat.le_refl _))
theorem FT (hc : X.calm = true) {pins : List (Addr × Obj)} {σ : St} {H : Hp} {s : Shared} {R : It → Hp → Prop} {E : Value → Shared → Prop} {lo hi : Int} {t u v : Tok} {tk : Nat} (I : Inv X pins σ H s) (h1 : -(2 ^ 62) ≤ lo) (h2 : lo < 2 ^ 62) (h3 : -(2 ^ 62) ≤ hi) (h4 : hi < 2 ^ 62)
    (q : R (Itr lo (hi - lo).toNat) H) : wpAny (model X.prog X.w) X.A (pyIter (.ref s.heap.objs.size)) (PIE X pins σ tg R) E { s with heap := s.heap.push { cls := .type "range", data := .fields #[.int lo t, .int hi u, .int 1 v] }, toks := tk } := by
  refine wpAny_pyIter_range (IsRange.new ..) (small_one h1 h2 h3 h4) ?_
  have I1 : Inv X pins σ H { s with heap := s.heap.push { cls := .type "range", data := .fields #[.int lo t, .int hi u, .int 1 v] }, toks := tk } := I.kept fun b o e => Heap.get?_push_of_some _ e
  refine ⟨(s.heap.push { cls := .type "range", data := .fields #[.int lo t, .int hi u, .int 1 v] }).objs.size, [(s.heap.push { cls := .type "range", data := .fields #[.int lo t, .int hi u, .int 1 v] }).objs.size], _, _, H, rfl,
    I1.kept (t' := tk) fun b o e => Heap.get?_push_of_some _ e, (HM _ lo (hi - lo).toNat).calm hc, ?_, fun b hb => ?_, q⟩
  · have e1 : lo + ((0 : Nat) : Int) * 1 = lo := by simp
    have e2 : (((hi - lo).toNat : Nat) : Int) - ((0 : Nat) : Int) = Builtin.Range.rangeSize lo hi 1 := by rw [rangeSize_one]; split <;> omega
    show IsRangeIter _ _ (lo + ((0 : Nat) : Int) * 1) ((((hi - lo).toNat : Nat) : Int) - ((0 : Nat) : Int)) 1
    rw [e1, e2]
    exact Heap.get?_push_size _ rfl
  · have e : b = (s.heap.push { cls := .type "range", data := .fields #[.int lo t, .int hi u, .int 1 v] }).objs.size := by simpa using hb
    subst e
    exact I1.OV (Nat.le_refl _) (I1.hok.fresh (Nat.le_refl _))
noncomputable def SH (ta : TA) : TI := fun σ H R => ta σ H fun vs H1 => ∃ j : Int, vs = [.int j] ∧ -(2 ^ 62) ≤ j ∧ j < 2 ^ 62 ∧ R (Itr 0 j.toNat) H1
noncomputable def RO (ta : TA) : TI := fun σ H R => ta σ H fun vs H1 => ∃ i j : Int, vs = [.int i, .int j] ∧ (-(2 ^ 62) ≤ i ∧ i < 2 ^ 62 ∧ -(2 ^ 62) ≤ j ∧ j < 2 ^ 62) ∧ R (Itr i (j - i).toNat) H1
theorem KA {a : Expr} {ta : TA} {p pos : Pos} (hc : X.calm = true) (hg : Gl X "range") (hm : X.mg "range" = none) (ha : PA X [a] ta) (hs : starEach [a] X.env = [(false, eval a X.env)] := by rfl) : PI X tg (.Call (.Name "range" p) [a] [] pos) (SH ta) := by
  intro pins s σ H R I h
  refine Call_ (zM I hg hm boot_range (PyProof.Rows.callWith_type1 (thn (ha pos pins s σ H _ I h) fun us s1 ⟨vs, H1, I1, r1, q1⟩ => ?_) hs rfl))
  obtain ⟨j, e, q1, q2, q⟩ := q1
  subst e
  cases r1 with
  | cons r rr =>
    cases rr
    obtain ⟨t, rfl⟩ := r
    exact call_range_1 (FT hc I1 (by omega) (by omega) q1 q2 (by simpa using q))
theorem Kz {a b : Expr} {ta : TA} {p pos : Pos} (hc : X.calm = true) (hg : Gl X "range") (hm : X.mg "range" = none) (ha : PA X [a, b] ta) (hs : starEach [a, b] X.env = [(false, eval a X.env), (false, eval b X.env)] := by rfl) (hs2 : starEach [b] X.env = [(false, eval b X.env)] := by rfl) :
    PI X tg (.Call (.Name "range" p) [a, b] [] pos) (RO ta) := by
  intro pins s σ H R I h
  refine Call_ (zM I hg hm boot_range (PyProof.Rows.callWith_type1 (thn (ha pos pins s σ H _ I h) fun us s1 ⟨vs, H1, I1, r1, q1⟩ => ?_) (by rw [hs, hs2]) (by rw [hs2]; rfl)))
  obtain ⟨i, j, e, ⟨q1, q2, q3, q4⟩, q⟩ := q1
  subst e
  cases r1 with
  | cons r rr =>
    cases rr with
    | cons r' rr =>
      cases rr
      obtain ⟨t, rfl⟩ := r
      obtain ⟨t', rfl⟩ := r'
      exact call_range_2 (FT hc I1 q1 q2 q3 q4 q)
noncomputable def Tt (wi : TI) (g : TG) (tb : TS) : TS := fun D σ H => wi σ H fun J H1 => ∃ W : Nat → Nat → St → Hp → Prop, (∃ m, W 0 m σ H1) ∧ ∀ i m σ H, W i m σ H →
  (J.stop i H ∧ D.nx σ H) ∨ (J.go i H ∧ ∃ N : St → Hp → Prop, (∀ σ' H', N σ' H' → ∃ m', m' < m ∧ W (i + 1) m' σ' H') ∧ ∀ x H', J.yld i H x H' → g x σ H' fun σ2 H2 => tb { D with nx := N, ct := N, bk := D.nx } σ2 H2)
def w4 (fp : List Addr) (h : Heap) : List (Addr × Obj) := fp.filterMap fun b => (h.get? b).map fun o => (b, o)
theorem iN {fp : List Addr} {h : Heap} {b : Addr} {o : Obj} (hb : b ∈ fp) (e : h.get? b = some o) : (b, o) ∈ w4 fp h := List.mem_filterMap.mpr ⟨b, hb, by rw [e]; rfl⟩
theorem K9 {fp : List Addr} {h : Heap} {p : Addr × Obj} (hp : p ∈ w4 fp h) : p.1 ∈ fp ∧ h.get? p.1 = some p.2 := by
  obtain ⟨b, hb, e⟩ := List.mem_filterMap.mp hp
  cases q : h.get? b with
  | none => rw [q] at e; cases e
  | some o =>
    rw [q] at e
    have e' : (b, o) = p := Option.some.inj e
    subst e'
    exact ⟨hb, q⟩
theorem Inv.pinned {pins : List (Addr × Obj)} {σ : St} {H : Hp} {s : Shared} {fp : List Addr} (I : Inv X pins σ H s) (hf : ∀ b ∈ fp, Dp X pins H b) (ho : ∀ b ∈ fp, ∃ o, s.heap.get? b = some o ∧ ∀ v, o.data ≠ .cell v) : Inv X (pins ++ w4 fp s.heap) σ H s :=
  I.JB fun p hp => (List.mem_append.mp hp).elim (fun z => I.pin p (List.mem_append_right _ z)) fun z => by
    obtain ⟨hb, e⟩ := K9 z
    obtain ⟨f0, f1, f2, _⟩ := hf p.1 hb
    obtain ⟨o, e', d⟩ := ho p.1 hb
    rw [e] at e'; cases e'
    exact ⟨e, f0, f1, f2, d⟩
theorem Inv.oR {pins pl : List (Addr × Obj)} {σ : St} {H : Hp} {s : Shared} (I : Inv X (pins ++ pl) σ H s) : Inv X pins σ H s := I.JB fun p hp => I.pin p (List.mem_append_right _ (List.mem_append_left _ hp))
theorem L0 {iter : Expr} {body : List Stmt} {wi : TI} {g : TG} {tb : TS} {pos : Pos} (hp : PassesOwn (model X.prog X.w) X.A X.env X.xe) (hc : X.calm = true) (hi : PI X tg iter wi) (hg : PG X tg g) (hb : PSs X body tb)
    (hs : ∀ x, foldedSetIterable iter X.env x = pure x := by intro _; rfl) : PS X (.For tg iter body [] pos) (Tt wi g tb) := by
  intro pins s σ H D I h
  refine wpAny_For (thn (hi pins s σ H _ I h) fun v s1 h1 => thn h1 fun itv s2 h2 => ?_) hs
  obtain ⟨it, fp, tn, J, H2, e, I2, T, st2, f2, W, ⟨m0, w0⟩, turn⟩ := h2
  subst e
  have stat : ∀ {H' : Hp}, (∀ b ∈ fp, H' b = none) → ∀ b ∈ fp, Dp X pins H' b := fun hn b hb => ⟨hn b hb, (f2 b hb).2⟩
  refine codeAny_forLoop_any (fun n s' => ∃ i σ' H', Inv X pins σ' H' s' ∧ tn i s'.heap ∧ (∀ b ∈ fp, H' b = none) ∧ W i n σ' H') ?_ m0 ⟨0, σ, H2, I2, st2, fun b hb => (f2 b hb).1, w0⟩
  rintro n s3 ⟨i, σ3, H3, I3, st3, fr3, w3⟩
  rcases turn i n σ3 H3 w3 with ⟨stop, qn⟩ | ⟨go, N, hN, step⟩
  · refine wpAny_passesOwn hp (thn (T.done X rfl rfl rfl (fun z => z) i pins s3 σ3 H3 X.xe I3 (stat fr3) st3 stop) fun r s4 ⟨hr, I4⟩ => ?_)
    subst hr
    exact wpAny_execs_nil ⟨σ3, H3, I4, qn⟩
  · refine wpAny_passesOwn hp (thn (T.item X rfl rfl rfl (fun z => z) i pins s3 σ3 H3 X.xe I3 (stat fr3) st3 go) fun r s4 ⟨u, hr, h4⟩ => ?_)
    subst hr
    refine wpAny_passesOwn hp (thn h4 fun _ s5 ⟨x, H5, I5, r5, y5, st5, fr5⟩ => ?_)
    have I5' := I5.pinned (stat fr5) (T.obj _ _ st5)
    refine wpAny_passesOwn hp (thn (hg _ s5 σ3 H5 x u _ I5' r5 (step x H5 y5)) fun _ s6 ⟨σ6, H6, I6, q6⟩ => ?_)
    refine wpAny_passesOwn hp (thn (hb _ s6 σ6 H6 _ I6 q6) fun f s7 q7 => ?_)
    have again : ∀ {σ7 : St} {H7 : Hp}, Inv X (pins ++ w4 fp s5.heap) σ7 H7 s7 → N σ7 H7 → ∃ m, m < n ∧ ∃ i σ' H', Inv X pins σ' H' s7 ∧ tn i s7.heap ∧ (∀ b ∈ fp, H' b = none) ∧ W i m σ' H' := fun {σ7 H7} I7 n7 => by
      obtain ⟨m', hm, w7⟩ := hN σ7 H7 n7
      refine ⟨m', hm, i + 1, σ7, H7, I7.oR, T.keep _ _ _ st5 fun b hb o e => (I7.pin (b, o) (List.mem_append_right _ (List.mem_append_right _ (iN hb e)))).1, fun b hb => ?_, w7⟩
      obtain ⟨o, e, d⟩ := T.obj _ _ st5 b hb
      exact (I7.pin (b, o) (List.mem_append_right _ (List.mem_append_right _ (iN hb e)))).2.1
    cases f with
    | next => obtain ⟨σ7, H7, I7, n7⟩ := q7; exact again I7 n7
    | cont => obtain ⟨σ7, H7, I7, n7⟩ := q7; exact again I7 n7
    | brk => obtain ⟨σ7, H7, I7, q7⟩ := q7; exact ⟨σ7, H7, I7.oR, q7⟩
    | ret v => obtain ⟨x7, σ7, H7, I7, r7, q7⟩ := q7; exact ⟨x7, σ7, H7, I7.oR, r7, q7⟩
end
end L2
namespace L2
open PySem PySem.Spec PyProof.Rows
abbrev R2 := V → V → Hp → VK → Prop
noncomputable def OpR (X : Cx) (f : Value → Value → Sem Value) (r : R2) : Prop :=
  ∀ (pins : List (Addr × Obj)) (s : Shared) (σ : St) (H : Hp) (x y : V) (v u : Value) (Q : VK), Inv X pins σ H s → RelV x v → RelV y u → r x y H Q →
    wpAny (model X.prog X.w) X.A (f v u) (EP X pins σ Q) X.xe s
noncomputable def UnR (X : Cx) (f : Value → Sem Value) (r : V → Hp → VK → Prop) : Prop :=
  ∀ (pins : List (Addr × Obj)) (s : Shared) (σ : St) (H : Hp) (x : V) (v : Value) (Q : VK), Inv X pins σ H s → RelV x v → r x H Q →
    wpAny (model X.prog X.w) X.A (f v) (EP X pins σ Q) X.xe s
noncomputable def jf (X : Cx) (f : Value) (r : List V → Hp → VK → Prop) : Prop :=
  ∀ (pins : List (Addr × Obj)) (s : Shared) (σ : St) (H : Hp) (xs : List V) (us : List Value) (Q : VK), Inv X pins σ H s → Vals xs us → r xs H Q →
    wpAny (model X.prog X.w) X.A (call f us) (EP X pins σ Q) X.xe s
noncomputable def tOp (r : R2) (ta tb : TE) : TE := fun σ H Q => ta σ H fun x H1 => tb σ H1 fun y H2 => r x y H2 Q
noncomputable def tUn (r : V → Hp → VK → Prop) (ta : TE) : TE := fun σ H Q => ta σ H fun x H1 => r x H1 Q
noncomputable def rI (C : Int → Int → Prop) (g : Int → Int → V) : R2 := fun x y H Q => ∃ i j, x = .int i ∧ y = .int j ∧ C i j ∧ Q (g i j) H
noncomputable def rI0 (g : Int → Int → V) : R2 := fun x y H Q => ∃ i j, x = .int i ∧ y = .int j ∧ Q (g i j) H
def rU (g : Int → V) : V → Hp → VK → Prop := fun x H Q => ∃ i, x = .int i ∧ Q (g i) H
section
variable {X : Cx} {a b c : Expr} {ta tb tc : TE} {pos : Pos}
theorem PY (ha : PE X a ta) (hb : PE X b tb) {pins : List (Addr × Obj)} {s : Shared} {σ : St} {H : Hp} {R : V → V → Hp → Prop} (I : Inv X pins σ H s)
    (h : ta σ H fun x H1 => tb σ H1 fun y H2 => R x y H2) {Q : Value → Shared → Prop} {f : Value → Value → Sem Value}
    (hf : ∀ v u s2 x y H2, Inv X pins σ H2 s2 → RelV x v → RelV y u → R x y H2 → wpAny (model X.prog X.w) X.A (f v u) Q X.xe s2) :
    wpAny (model X.prog X.w) X.A (eval a X.env) (fun v s₁ => wpAny (model X.prog X.w) X.A (eval b X.env) (fun u s₂ => wpAny (model X.prog X.w) X.A (f v u) Q X.xe s₂) X.xe s₁) X.xe s := by
  refine thn (ha pins s σ H _ I h) fun v s1 ⟨x, H1, I1, r1, q1⟩ => ?_
  refine thn (hb pins s1 σ H1 _ I1 q1) fun u s2 ⟨y, H2, I2, r2, q2⟩ => ?_
  exact hf v u s2 x y H2 I2 r1 r2 q2
theorem So {op : Operator} {r : R2} (ho : OpR X (binaryOp op) r) (ha : PE X a ta) (hb : PE X b tb) : PE X (.BinOp a op b pos) (tOp r ta tb) := by
  intro pins s σ H Q I h
  exact wpAny_BinOp (PY ha hb I h fun v u s2 x y H2 I2 rx ry q => ho pins s2 σ H2 x y v u Q I2 rx ry q)
theorem Pu {op : UnaryOp} {r : V → Hp → VK → Prop} (ho : UnR X (unaryOp op) r) (ha : PE X a ta) : PE X (.UnaryOp op a pos) (tUn r ta) := by
  intro pins s σ H Q I h
  exact UnaryOp_ (thn (ha pins s σ H _ I h) fun v s1 ⟨x, H1, I1, r1, q1⟩ => ho pins s1 σ H1 x v Q I1 r1 q1)
theorem opI {f : Value → Value → Sem Value} {C : Int → Int → Prop} {g : Int → Int → Int}
    (rule : ∀ (i j : Int) (t u : Tok) (s : Shared) (Q : Value → Shared → Prop) (E : Value → Shared → Prop), C i j → Q (.int (g i j) s.toks) { s with toks := s.toks + 1 } → wpAny (model X.prog X.w) X.A (f (.int i t) (.int j u)) Q E s) :
    OpR X f (rI C fun i j => .int (g i j)) := by
  intro pins s σ H x y v u Q I rx ry h
  obtain ⟨i, j, rfl, rfl, hc, q⟩ := h
  obtain ⟨t, rfl⟩ := rx
  obtain ⟨t', rfl⟩ := ry
  exact rule i j t t' s _ _ hc ⟨.int (g i j), H, I.tok _, ⟨_, rfl⟩, q⟩
theorem R8 {f : Value → Value → Sem Value} {g : Int → Int → Int}
    (rule : ∀ (i j : Int) (t u : Tok) (s : Shared) (Q : Value → Shared → Prop) (E : Value → Shared → Prop), Q (.int (g i j) s.toks) { s with toks := s.toks + 1 } → wpAny (model X.prog X.w) X.A (f (.int i t) (.int j u)) Q E s) :
    OpR X f (rI0 fun i j => .int (g i j)) := by
  intro pins s σ H x y v u Q I rx ry h
  obtain ⟨i, j, rfl, rfl, q⟩ := h
  obtain ⟨t, rfl⟩ := rx
  obtain ⟨t', rfl⟩ := ry
  exact rule i j t t' s _ _ ⟨.int (g i j), H, I.tok _, ⟨_, rfl⟩, q⟩
theorem Ow {f : Value → Value → Sem Value} {g : Int → Int → Bool}
    (rule : ∀ (i j : Int) (t u : Tok) (s : Shared) (Q : Value → Shared → Prop) (E : Value → Shared → Prop), Q (.bool (g i j)) s → wpAny (model X.prog X.w) X.A (f (.int i t) (.int j u)) Q E s) :
    OpR X f (rI0 fun i j => .bl (g i j)) := by
  intro pins s σ H x y v u Q I rx ry h
  obtain ⟨i, j, rfl, rfl, q⟩ := h
  obtain ⟨t, rfl⟩ := rx
  obtain ⟨t', rfl⟩ := ry
  exact rule i j t t' s _ _ ⟨.bl (g i j), H, I, rfl, q⟩
noncomputable def Kf (i j : Int) : Prop := 0 ≤ j ∧ j ≤ 1000000 ∧ i.natAbs < 2 ^ 64
noncomputable def Pg (i j : Int) : Prop := (-(2 ^ 64) < i ∧ i < 2 ^ 64) ∨ (-(2 ^ 64) < j ∧ j < 2 ^ 64)
theorem Pg.ok {i j : Int} (h : Pg i j) : IntMulOk i j := by
  rcases h with ⟨h1, h2⟩ | ⟨h1, h2⟩
  · exact .of_left (intBits_le_64 h1 h2)
  · exact .of_right (intBits_le_64 h1 h2)
theorem Mw : OpR X (binaryOp .Add) (rI0 fun i j => .int (i + j)) := R8 fun _ _ _ _ _ _ _ q => add_int q
theorem P1 : OpR X (binaryOp .Sub) (rI0 fun i j => .int (i - j)) := R8 fun _ _ _ _ _ _ _ q => sub_int q
theorem Oi : OpR X (binaryOp .Mod) (rI (fun _ j => j ≠ 0) fun i j => .int (i.fmod j)) := opI fun _ _ _ _ _ _ _ hc q => mod_int' hc q
theorem P8 : OpR X (binaryOp .Pow) (rI Kf fun i j => .int (i ^ j.toNat)) := opI fun _ _ _ _ _ _ _ hc q => pow_int_small hc.1 hc.2.1 hc.2.2 q
theorem unI {f : Value → Sem Value} {g : Int → Int}
    (rule : ∀ (i : Int) (t : Tok) (s : Shared) (Q : Value → Shared → Prop) (E : Value → Shared → Prop), Q (.int (g i) s.toks) { s with toks := s.toks + 1 } → wpAny (model X.prog X.w) X.A (f (.int i t)) Q E s) :
    UnR X f (rU fun i => .int (g i)) := by
  intro pins s σ H x v Q I rx h
  obtain ⟨i, rfl, q⟩ := h
  obtain ⟨t, rfl⟩ := rx
  exact rule i t s _ _ ⟨.int (g i), H, I.tok _, ⟨_, rfl⟩, q⟩
theorem MB : UnR X (unaryOp .USub) (rU fun i => .int (-i)) := unI fun _ _ _ _ _ q => neg_int q
end
section
variable {X : Cx} {a b c : Expr} {ta tb tc : TE} {pos : Pos}
theorem mX : OpR X (compareOp .Lt) (rI0 fun i j => .bl (decide (i < j))) := Ow fun _ _ _ _ _ _ _ q => lt_int q
theorem B4 : OpR X (compareOp .LtE) (rI0 fun i j => .bl (decide (i ≤ j))) := Ow fun _ _ _ _ _ _ _ q => le_int q
theorem hV : OpR X (compareOp .Gt) (rI0 fun i j => .bl (decide (j < i))) := Ow fun _ _ _ _ _ _ _ q => gt_int q
theorem Cf : OpR X (compareOp .GtE) (rI0 fun i j => .bl (decide (j ≤ i))) := Ow fun _ _ _ _ _ _ _ q => ge_int q
theorem OpR.or {f : Value → Value → Sem Value} {r r' : R2} (h : OpR X f r) (h' : OpR X f r') : OpR X f (fun x y H Q => r x y H Q ∨ r' x y H Q) := by
  intro pins s σ H x y v u Q I rx ry q
  rcases q with q | q
  · exact h pins s σ H x y v u Q I rx ry q
  · exact h' pins s σ H x y v u Q I rx ry q
theorem aH (b : Expr) {op : CmpOp} (h : op ≠ .In := by decide) (h2 : op ≠ .NotIn := by decide) : behindInMarks op b = false := by
  have e1 : (op == CmpOp.In) = false := by cases op <;> first | rfl | exact absurd rfl h
  have e2 : (op == CmpOp.NotIn) = false := by cases op <;> first | rfl | exact absurd rfl h2
  cases b <;> simp [behindInMarks, e1, e2]
theorem Oa {op : CmpOp} {r : R2} (ho : OpR X (compareOp op) r) (ha : PE X a ta) (hb : PE X b tb) (hm : behindInMarks op b = false) : PE X (.Compare a [op] [b] pos) (tOp r ta tb) := by
  intro pins s σ H Q I h
  exact wpAny_Compare1 (PY ha hb I h fun v u s2 x y H2 I2 rx ry q => ho pins s2 σ H2 x y v u Q I2 rx ry q) hm
noncomputable def LB (t : TE) : TT := fun σ H Q => t σ H fun x H' => ∃ k, x = .bl k ∧ Q k H'
theorem OM {op : CmpOp} {r : R2} (ho : OpR X (compareOp op) r) (ha : PE X a ta) (hb : PE X b tb) (hm : behindInMarks op b = false) : PT X (.Compare a [op] [b] pos) (LB (tOp r ta tb)) := by
  intro pins s σ H Q I h
  refine wpAny_isTrue_Compare1 (thn (ha pins s σ H _ I h) fun v s1 ⟨x, H1, I1, r1, q1⟩ => thn (hb pins s1 σ H1 _ I1 q1) fun u s2 ⟨y, H2, I2, r2, q2⟩ =>
    thn (ho pins s2 σ H2 x y v u _ I2 r1 r2 q2) fun c s3 ⟨z, H3, I3, r3, k, e, q3⟩ => ?_) hm
  subst e
  cases r3
  exact wpAny_truthy_bool ⟨H3, I3, q3⟩
noncomputable def Nl (r r' : R2) (ta tb tc : TE) : TE := fun σ H Q => ta σ H fun x H1 => tb σ H1 fun y H2 => r x y H2 fun z H3 => ∃ k, z = .bl k ∧
  (if k = true then tc σ H3 fun w' H4 => r' y w' H4 Q else Q (.bl false) H3)
theorem Mt {op op' : CmpOp} {r r' : R2} (ho : OpR X (compareOp op) r) (ho' : OpR X (compareOp op') r') (ha : PE X a ta) (hb : PE X b tb) (hc : PE X c tc)
    (hm : lastMarks [op, op'] [b, c] = false := by with_unfolding_all rfl) : PE X (.Compare a [op, op'] [b, c] pos) (Nl r r' ta tb tc) := by
  intro pins s σ H Q I h
  refine Compare_chain (thn (ha pins s σ H _ I h) fun v s1 ⟨x, H1, I1, r1, q1⟩ => chain_link (thn (hb pins s1 σ H1 _ I1 q1) fun u s2 ⟨y, H2, I2, r2, q2⟩ =>
    thn (ho pins s2 σ H2 x y v u _ I2 r1 r2 q2) fun d s3 ⟨z, H3, I3, r3, k, e, q3⟩ => ?_)) hm
  subst e
  cases r3
  refine wpAny_truthy_bool ?_
  cases k with
  | false => exact ite_ff ⟨.bl false, H3, I3, rfl, q3⟩
  | true => exact ite_tt (chain_last (thn (hc pins s3 σ H3 _ I3 q3) fun w' s4 ⟨z', H4, I4, r4, q4⟩ => ho' pins s4 σ H4 y z' u w' Q I4 r2 r4 q4))
theorem Nb {op op' : CmpOp} {r r' : R2} (ho : OpR X (compareOp op) r) (ho' : OpR X (compareOp op') r') (ha : PE X a ta) (hb : PE X b tb) (hc : PE X c tc)
    (hm : lastMarks [op, op'] [b, c] = false := by with_unfolding_all rfl) : PT X (.Compare a [op, op'] [b, c] pos) (LB (Nl r r' ta tb tc)) := by
  intro pins s σ H Q I h
  refine isTrue_chain (thn (ha pins s σ H _ I h) fun v s1 ⟨x, H1, I1, r1, q1⟩ => test_link (thn (hb pins s1 σ H1 _ I1 q1) fun u s2 ⟨y, H2, I2, r2, q2⟩ =>
    thn (ho pins s2 σ H2 x y v u _ I2 r1 r2 q2) fun d s3 ⟨z, H3, I3, r3, k, e, q3⟩ => ?_)) hm
  subst e
  cases r3
  refine wpAny_truthy_bool ?_
  cases k with
  | false =>
    obtain ⟨k', e', q'⟩ := q3
    cases e'
    exact ite_ff ⟨H3, I3, q'⟩
  | true =>
    refine ite_tt (test_last (thn (hc pins s3 σ H3 _ I3 q3) fun w' s4 ⟨z', H4, I4, r4, q4⟩ => thn (ho' pins s4 σ H4 y z' u w' _ I4 r2 r4 q4) fun d' s5 ⟨z2, H5, I5, r5, k2, e2, q5⟩ => ?_))
    subst e2
    cases r5
    exact wpAny_truthy_bool ⟨H5, I5, q5⟩
theorem Ay : (sizeLine : Nat) < 2 ^ 63 := by rw [sizeLine_eq]; decide
theorem vals1 {x : V} {us : List Value} (r : Vals [x] us) : ∃ u, us = [u] ∧ RelV x u := by
  cases r with
  | cons r1 r2 => cases r2; exact ⟨_, rfl, r1⟩
theorem vals2 {x y : V} {us : List Value} (r : Vals [x, y] us) : ∃ u w', us = [u, w'] ∧ RelV x u ∧ RelV y w' := by
  cases r with
  | cons r1 r2 =>
    cases r2 with
    | cons r3 r4 => cases r4; exact ⟨_, _, rfl, r1, r3⟩
theorem NN : jf X (.builtin "abs") (fun xs H Q => ∃ i, xs = [.int i] ∧ Q (.int (if i < 0 then -i else i)) H) := by
  intro pins s σ H xs us Q I r h
  obtain ⟨i, rfl, q⟩ := h
  obtain ⟨u, rfl, t, rfl⟩ := vals1 r
  exact call_abs_int fun u tk => ⟨.int (if i < 0 then -i else i), H, I.tok _, ⟨_, rfl⟩, q⟩
theorem Kq (hc : X.calm = true) : jf X (.builtin "max") (fun xs H Q => ∃ i j, xs = [.int i, .int j] ∧ Q (.int (if j > i then j else i)) H) := by
  intro pins s σ H xs us Q I r h
  obtain ⟨i, j, rfl, q⟩ := h
  obtain ⟨u, w', rfl, ⟨t, rfl⟩, ⟨t', rfl⟩⟩ := vals2 r
  refine max_two_ints (I.ok.hd hc) fun h' tk k => ⟨_, H, I.kept k, ?_, q⟩
  by_cases hj : j > i
  · rw [if_pos hj, if_pos hj]; exact ⟨_, rfl⟩
  · rw [if_neg hj, if_neg hj]; exact ⟨_, rfl⟩
theorem K7 (hc : X.calm = true) : jf X (.builtin "min") (fun xs H Q => ∃ i j, xs = [.int i, .int j] ∧ Q (.int (if j < i then j else i)) H) := by
  intro pins s σ H xs us Q I r h
  obtain ⟨i, j, rfl, q⟩ := h
  obtain ⟨u, w', rfl, ⟨t, rfl⟩, ⟨t', rfl⟩⟩ := vals2 r
  refine min_two_ints (I.ok.hd hc) fun h' tk k => ⟨_, H, I.kept k, ?_, q⟩
  by_cases hj : j < i
  · rw [if_pos hj, if_pos hj]; exact ⟨_, rfl⟩
  · rw [if_neg hj, if_neg hj]; exact ⟨_, rfl⟩
theorem KN : jf X (.type "int") (fun xs H Q => (∃ i, xs = [.int i] ∧ Q (.int i) H) ∨ ∃ k, xs = [.bl k] ∧ Q (.int (if k then 1 else 0)) H) := by
  intro pins s σ H xs us Q I r h
  rcases h with ⟨i, rfl, q⟩ | ⟨k, rfl, q⟩
  · obtain ⟨u, rfl, t, rfl⟩ := vals1 r
    exact call_int_int ⟨.int i, H, I, ⟨_, rfl⟩, q⟩
  · obtain ⟨u, rfl, r1⟩ := vals1 r
    cases r1
    exact call_int_bool ⟨.int (if k then 1 else 0), H, I.tok _, ⟨_, rfl⟩, q⟩
end
end L2
namespace L2
open PySem PySem.Spec PyProof.Rows
section
variable {prog : Program} {w : World} {A : Around} {E : Value → Shared → Prop} {s : Shared} {K : PySem.W.Frag} {x dx C f : Addr} {mA : Str → Option Value} {name : Str} {v : Value}
end
section
variable {P : Program} {w : World} {H H' : Hp} {h h' : Heap} {a C dx : Addr} {fs fs' : List (Str × V)}
end
structure Cls (K : PySem.W.Frag) (C : Addr) : Prop where
  pg : PySem.W.plainGet K C Str.empty = true
  hd : PySem.W.hasDictIn K C = true
  po : PySem.W.plainOver K C = true
  sa : PySem.W.findIn K (.ref C) "__setattr__" = some (some (.builtin "object.__setattr__"))
theorem Cls.get {K : PySem.W.Frag} {C : Addr} (c : Cls K C) (f : Str) : PySem.W.plainGet K C f = true := c.pg
section
variable {X : Cx} {pins : List (Addr × Obj)} {σ : St} {H : Hp} {s : Shared} {a C dx : Addr} {fs : List (Str × V)} {f : Str} {v : V} {A : Around} {E : Value → Shared → Prop}
theorem Inv.made (I : Inv X pins σ H s) : Inv X pins σ (upd (upd H s.heap.objs.size (.own (s.heap.objs.size + 1))) (s.heap.objs.size + 1) (.ins C s.heap.objs.size []))
    { s with heap := (s.heap.push PySem.W.emptyDict).push (PySem.W.instObj C s.heap.objs.size) } := by
  have e1 : (s.heap.push PySem.W.emptyDict).get? s.heap.objs.size = some PySem.W.emptyDict := Heap.get?_push_size s.heap rfl
  have e2 : ((s.heap.push PySem.W.emptyDict).push (PySem.W.instObj C s.heap.objs.size)).get? (s.heap.objs.size + 1) = some (PySem.W.instObj C s.heap.objs.size) := by
    have := Heap.get?_push_size (s.heap.push PySem.W.emptyDict) (o := PySem.W.instObj C s.heap.objs.size) rfl
    rwa [Heap.size_push] at this
  have e3 : (s.heap.push PySem.W.emptyDict).Ns s.heap.objs.size (fun _ => none) := ⟨PySem.W.emptyDict, #[], _, e1, rfl, (fun e he => absurd he (by simp)), fun _ => rfl⟩
  have I1 := I.laid (a := s.heap.objs.size) (o := .own (s.heap.objs.size + 1)) (h' := s.heap.push PySem.W.emptyDict) (t' := s.toks) (fun b u q => Heap.get?_push_of_some _ q) (Nat.le_refl _) ⟨_, e1⟩
  refine I1.laid (a := s.heap.objs.size + 1) (o := .ins C s.heap.objs.size []) (t' := s.toks) (fun b u q => Heap.get?_push_of_some _ q) (Nat.le_of_eq (Heap.size_push _ _)) ?_
  have ne : s.heap.objs.size ≠ s.heap.objs.size + 1 := Nat.ne_of_lt (Nat.lt_succ_self _)
  refine ⟨by rw [cW ne, kq], Nat.zero_le _, ne, e2, fun _ => none, (Heap.Ns1.of_empty e3).at fun o q => Heap.get?_push_of_some _ q, fun _ => True.intro, fun y hy => absurd rfl hy⟩
end
section
variable {X : Cx} {o e value : Expr} {f : Str} {pos pos' tpos : Pos} {ta tv : TE}
end
section
variable {X : Cx} {pins : List (Addr × Obj)} {σ : St} {H : Hp} {s : Shared} {A : Around} {E : Value → Shared → Prop} {Q : Value → Shared → Prop} {c : Value} {b : Bool}
end
end L2
namespace L2
open PySem PySem.Spec PyProof.Rows
structure pM (k : Nat) (A : Around) : Prop where
  hd : A.handled = none
  dp : A.depth + 3 * k + 5 < recursionLimit
  un : A.units + 16 * k + 200 < cLine
theorem pM.mono {j k : Nat} {A : Around} (r : pM k A) (h : j ≤ k) : pM j A := ⟨r.hd, by have := r.dp; omega, by have := r.un; omega⟩
theorem pM.deeper {k : Nat} {A : Around} (r : pM (k + 1) A) (env : Env) : pM k (A.deeper env) :=
  ⟨r.hd, by have := r.dp; show A.depth + 1 + 3 * k + 5 < _; omega, by have := r.un; show A.units + 3 + 16 * k + 200 < _; omega⟩
theorem pM.depth {k : Nat} {A : Around} (r : pM k A) : A.depth < recursionLimit := by have := r.dp; omega
theorem pM.units {k : Nat} {A : Around} (r : pM k A) : A.units + 64 < cLine := by have := r.un; omega
noncomputable def Uj : TA := fun _ H Q => Q [] H
noncomputable def SG (ta : TE) (tr : TA) : TA := fun σ H Q => ta σ H fun x H1 => tr σ H1 fun xs H2 => Q (x :: xs) H2
section
variable {X : Cx} {e : Expr} {es : List Expr} {te : TE} {t : TA} {pos : Pos}
theorem xH : PA X [] Uj := fun _ _ _ _ H Q I h => Calls.spliced_nil ⟨[], H, I, .nil, h⟩
theorem ql (ha : PE X e te) (hr : PA X es t) (hs : starEach (e :: es) X.env = (false, eval e X.env) :: starEach es X.env := by rfl) : PA X (e :: es) (SG te t) := by
  intro pos pins s σ H Q I h
  rw [hs]
  show wpAny _ _ (spliced ((false, eval e X.env) :: backTo pos (starEach es X.env))) _ _ s
  refine Calls.spliced_cons (thn (ha pins s σ H _ I h) fun u s1 ⟨x, H1, I1, r1, q1⟩ => ?_)
  exact thn (hr pos pins s1 σ H1 _ I1 q1) fun us s2 ⟨xs, H2, I2, r2, q2⟩ => ⟨x :: xs, H2, I2, .cons r1 r2, q2⟩
noncomputable def Tr (t : TA) : TE := fun σ H Q => t σ H fun xs H1 => xs.length ≤ sizeLine ∧ ∀ p, H1 p = none → Q (.ref p) (upd H1 p (.tup xs))
noncomputable def Uh (t : TA) : TE := fun σ H Q => t σ H fun xs H1 => xs.length ≤ sizeLine ∧ ∀ p, H1 p = none → Q (.ref p) (upd H1 p (.lst xs))
theorem Q1 {x1} (h : PA X es t) : PE X (.Tuple es x1 pos) (Tr t) := by
  intro pins s σ H Q I hq
  refine wpAny_Tuple_spliced (thn (h pos pins s σ H _ I hq) fun us s1 ⟨xs, H1, I1, r, z, q⟩ => ⟨by rw [← r.length]; exact z, ?_⟩)
  have hf : H1 s1.heap.objs.size = none := I1.hok.fresh (Nat.le_refl _)
  refine ⟨.ref s1.heap.objs.size, upd H1 s1.heap.objs.size (.tup xs), I1.laid (t' := s1.toks) (fun b u e => Heap.get?_push_of_some _ e) (Nat.le_refl _) ?_, rfl, q _ hf⟩
  exact ⟨z, us, r, ⟨_, Heap.get?_push_size _ rfl, rfl, _, rfl⟩⟩
theorem Q8 (h : PA X es t) : PE X (.List es pos) (Uh t) := by
  intro pins s σ H Q I hq
  refine wpAny_List_spliced (thn (h pos pins s σ H _ I hq) fun us s1 ⟨xs, H1, I1, r, z, q⟩ => ⟨by rw [← r.length]; exact z, ?_⟩)
  have hf : H1 s1.heap.objs.size = none := I1.hok.fresh (Nat.le_refl _)
  refine ⟨.ref s1.heap.objs.size, upd H1 s1.heap.objs.size (.lst xs), I1.laid (t' := s1.toks) (fun b u e => Heap.get?_push_of_some _ e) (Nat.le_refl _) ?_, rfl, q _ hf⟩
  exact ⟨z, us, 0, r, Heap.get?_push_size _ rfl⟩
end
abbrev Sp := List V → Hp → VK → XK → Prop
abbrev CXT := List Env → Hp → Shared → XK → Value → Shared → Prop
structure OS (P : Program) (w : World) (K : PySem.W.Frag) (mg : Str → Option Value) (base : Heap) (A : Around) (outer : List Env) (s : Shared) (H : Hp) : Prop where
  frames : A.frames = some outer
  mod : Mod K mg base
  bs : ∀ b o, base.get? b = some o → s.heap.get? b = some o ∧ H b = none
  bsz : base.objs.size ≤ s.heap.objs.size
  Al : s.heap.FunFrames base outer
  frf : ∀ b ∈ frs outer, H b = none
  hok : HOk P w H s.heap
  bare : AllBare s.gens
noncomputable def CE (outer : List Env) (P : Program) (w : World) (H : Hp) (s : Shared) (Q : VK) (u : Value) (s' : Shared) : Prop :=
  ∃ v H', s'.os = s.os ∧ AllBare s'.gens ∧ Un (frs outer) [] H H' s.heap s'.heap ∧ HOk P w H' s'.heap ∧ RelV v u ∧ Q v H'
noncomputable def CR (CX : CXT) (outer : List Env) (P : Program) (w : World) (H : Hp) (s : Shared) (Q : VK) (E : XK) (r : Result) (s' : Shared) : Prop :=
  match r with
  | .ok (.ret u) => CE outer P w H s Q u s'
  | .ok _ => False
  | .error e => CX outer H s E e s'
structure bS (P : Program) (w : World) (K : PySem.W.Frag) (mg : Str → Option Value) (base : Heap) (CX : CXT) (k : Nat) (f : Addr) (fd : FuncData) (ps : List Str) (sp : Sp) : Prop where
  len : ∀ vs H Q E, sp vs H Q E → vs.length = ps.length
  run : ∀ (A : Around) (outer : List Env) (s : Shared) (H : Hp) (args : Args) (us : List Value) (vs : List V) (Q : VK) (E : XK), pM k A → OS P w K mg base A outer s H → BindsTo s fd args (ps.zip us) → Vals vs us → sp vs H Q E →
    codeAny (model P w) A (.call (.ref f) args) (CR CX outer P w H s Q E) s
theorem bS.mono {P : Program} {w : World} {K : PySem.W.Frag} {mg : Str → Option Value} {base : Heap} {CX : CXT} {j k : Nat} {f : Addr} {fd : FuncData} {ps : List Str} {sp : Sp} (F : bS P w K mg base CX j f fd ps sp) (h : j ≤ k) :
    bS P w K mg base CX k f fd ps sp := ⟨F.len, fun A outer s H args us vs Q E hr => F.run A outer s H args us vs Q E (hr.mono h)⟩
section
variable {X : Cx} {pins : List (Addr × Obj)} {σ : St} {H : Hp} {s s' : Shared}
theorem Inv.Uv (I : Inv X pins σ H s) : OS X.prog X.w X.K X.mg X.base X.A X.stack s H :=
  ⟨I.ok.frames, I.ok.mod, I.bs, Nat.le_trans I.ok.bsz I.sz, I.stack, I.C5, I.hok, I.bare⟩
theorem Inv.after {Q : VK} {u : Value} (I : Inv X pins σ H s) (h : CE X.stack X.prog X.w H s Q u s') : EP X pins σ Q u s' := by
  obtain ⟨v, H', os, bare, un, hok, r, q⟩ := h
  obtain ⟨hh, g, d, t, os'⟩ := s'
  obtain rfl : os' = s.os := os
  exact ⟨v, H', I.call (h' := hh) (g' := g) (d' := d) (t' := t) (ch := []) un hok bare (fun b z => absurd z (by simp)), r, q⟩
end
noncomputable def SF (sp : Sp) (dvs : List V) (E : XK) (t : TA) : TE := fun σ H Q => t σ H fun vs H1 => sp (vs ++ dvs) H1 Q E
noncomputable def Binds (K : PySem.W.Frag) (fd : FuncData) (ps : List Str) (ds : List Value) : Prop :=
  ∀ (s : Shared) (us : List Value), K.In s.heap → (us ++ ds).length = ps.length → BindsTo s fd ⟨us, []⟩ (ps.zip (us ++ ds))
theorem Binds.all {K : PySem.W.Frag} {fd : FuncData} {ps : List Str} (h : ∀ us : List Value, us.length = ps.length → bindArgs fd ⟨us, []⟩ = pure (ps.zip us)) : Binds K fd ps [] := fun s us _ hl => by
  rw [List.append_nil] at hl ⊢
  exact .of_eq (h us hl)
noncomputable def Passes (CX : CXT) (X : Cx) (E : XK) : Prop := ∀ (pins : List (Addr × Obj)) (σ : St) (H : Hp) (s : Shared) (e : Value) (s' : Shared), Inv X pins σ H s → CX X.stack H s E e s' → X.xe e s'
section
variable {X : Cx} {CX : CXT} {k : Nat} {f C : Addr} {fd : FuncData} {ps : List Str} {sp : Sp} {dvs : List V} {ds : List Value} {E : XK} {x m : Str} {p pos apos : Pos} {e o : Expr} {es : List Expr} {ta : TE} {t : TA}
theorem QY {pins : List (Addr × Obj)} {σ : St} {H : Hp} {s : Shared} {Q : VK} {us : List Value} {vs : List V} (F : bS X.prog X.w X.K X.mg X.base CX k f fd ps sp) (hr : pM k X.A) (hb : Binds X.K fd ps ds) (hd : Vals dvs ds) (hx : Passes CX X E)
    (I : Inv X pins σ H s) (r : Vals vs us) (h : sp (vs ++ dvs) H Q E) : wpAny (model X.prog X.w) X.A (call (.ref f) us) (EP X pins σ Q) X.xe s := by
  have r2 : Vals (vs ++ dvs) (us ++ ds) := r.append hd
  have hl : (us ++ ds).length = ps.length := by rw [← r2.length]; exact F.len _ _ _ _ h
  refine wpAny_call (codeAny_mono (F.run X.A X.stack s H ⟨us, []⟩ (us ++ ds) (vs ++ dvs) Q E hr I.Uv (hb s us I.kIn hl) r2 h) fun r s' hq => ?_)
  cases r with
  | error e => exact hx pins σ H s e s' I hq
  | ok fl =>
    cases fl with
    | ret u => exact I.after hq
    | next => exact False.elim hq
    | brk => exact False.elim hq
    | cont => exact False.elim hq
theorem Pe (F : bS X.prog X.w X.K X.mg X.base CX k f fd ps sp) (hr : pM k X.A) (hg : Gl X x) (hm : X.mg x = some (.ref f)) (hk : PySem.W.keepIn X.K (.ref f) = true) (hb : Binds X.K fd ps ds) (hd : Vals dvs ds) (hx : Passes CX X E)
    (ha : PA X (e :: es) t) (hdb : (x == ("__debug__" : Str)) = false := by decide) (he : starEach (e :: es) X.env = (false, eval e X.env) :: starEach es X.env := by rfl) (hpl : (backTo pos (starEach es X.env)).any (·.1) = false := by rfl) :
    PE X (.Call (.Name x p) (e :: es) [] pos) (SF sp dvs E t) := by
  intro pins s σ H Q I h
  refine wpAny_Call_Name_kw (J4 I hg hm ?_ hdb)
  refine PySem.W.callWith_K (h₀ := X.base) I.ok.mod.kin hk (thn (ha pos pins s σ H _ I h) fun us s1 ⟨vs, H1, I1, r, q⟩ => ⟨I1.kIn, ?_⟩) he hpl
  exact QY F hr hb hd hx I1 r q
end
section
variable {X : Cx} {CX : CXT} {k : Nat} {f C : Addr} {fd : FuncData} {ps ks : List Str} {sp : Sp} {E : XK} {x m : Str} {p pos apos kpos : Pos} {e o : Expr} {es : List Expr} {kws : List Keyword} {te ta : TE} {t tk : TA} {nm : Option Str}
variable {g : List Value → List Value → List Value} {gV : List V → List V → List V}
end
structure aI (N P : List Str) (sc : Scope) : Prop where
  kind : sc.kind = .function
  co : sc.isCoroutine = false
  gen : sc.isGenerator = false
  nd : N.Nodup
  pre : N.take P.length = P
  par : ∀ x ∈ P, sc.names.lookup x = some .local ∨ sc.names.lookup x = some .cell
  QK : ∀ y ∈ sc.names, y.2 ≠ .free
theorem Cr {kindOf : Str → Option NameKind} {x : Str} : ∀ {binds : List (Str × Value)} {m : Str → Option Value}, (∀ v, (x, v) ∉ binds) → bindL kindOf binds m x = m x
  | [], _, _ => rfl
  | (n, v) :: r, m, h => by
    unfold bindL
    rw [Cr fun w hw => h w (List.mem_cons_of_mem _ hw)]
    split
    · have : x ≠ n := by rintro rfl; exact h v List.mem_cons_self
      simp [this]
    · rfl
theorem Cj {kindOf : Str → Option NameKind} {x : Str} : ∀ {binds : List (Str × Value)} {m : Str → Option Value}, (∀ v, (x, v) ∉ binds) → bindC kindOf binds m x = m x
  | [], _, _ => rfl
  | (n, v) :: r, m, h => by
    unfold bindC
    rw [Cj fun w hw => h w (List.mem_cons_of_mem _ hw)]
    split
    · rfl
    · have : x ≠ n := by rintro rfl; exact h v List.mem_cons_self
      simp [this]
theorem Cd {kindOf : Str → Option NameKind} {x : Str} {v : Value} : ∀ {P : List Str} {vs : List Value} {i : Nat} {m : Str → Option Value}, P.Nodup → P[i]? = some x → vs[i]? = some v → kindOf x = some .local →
    bindL kindOf (P.zip vs) m x = some v
  | [], _, _, _, _, h, _, _ => by simp at h
  | _ :: _, [], _, _, _, _, h, _ => by simp at h
  | p :: P, w :: vs, 0, m, nd, h1, h2, hk => by
    simp at h1 h2; subst h1; subst h2
    show bindL kindOf ((p, w) :: P.zip vs) m p = _
    unfold bindL
    rw [Cr fun v hv => (List.nodup_cons.mp nd).1 (List.of_mem_zip hv).1, if_pos hk]
    simp
  | p :: P, w :: vs, i + 1, m, nd, h1, h2, hk => by
    show bindL kindOf ((p, w) :: P.zip vs) m x = _
    unfold bindL
    exact Cd (i := i) (List.nodup_cons.mp nd).2 (by simpa using h1) (by simpa using h2) hk
theorem BX {kindOf : Str → Option NameKind} {x : Str} {v : Value} : ∀ {P : List Str} {vs : List Value} {i : Nat} {m : Str → Option Value}, P.Nodup → P[i]? = some x → vs[i]? = some v → kindOf x ≠ some .local →
    bindC kindOf (P.zip vs) m x = some v
  | [], _, _, _, _, h, _, _ => by simp at h
  | _ :: _, [], _, _, _, _, h, _ => by simp at h
  | p :: P, w :: vs, 0, m, nd, h1, h2, hk => by
    simp at h1 h2; subst h1; subst h2
    show bindC kindOf ((p, w) :: P.zip vs) m p = _
    unfold bindC
    rw [Cj fun v hv => (List.nodup_cons.mp nd).1 (List.of_mem_zip hv).1, if_neg hk]
    simp
  | p :: P, w :: vs, i + 1, m, nd, h1, h2, hk => by
    show bindC kindOf ((p, w) :: P.zip vs) m x = _
    unfold bindC
    exact BX (i := i) (List.nodup_cons.mp nd).2 (by simpa using h1) (by simpa using h2) hk
def start (N : List Str) (vs : List V) : St := vs.map some ++ List.replicate (N.length - vs.length) none
def HN (CX : CXT) (P : Program) (w : World) (K : PySem.W.Frag) (mg : Str → Option Value) (base : Heap) (N : List Str) (qual : Str) (scope : Scope) (f : Addr) (cd : Value) (A : Around) (outer : List Env) (s : Shared) (H : Hp) (E : XK) : Cx where
  prog := P
  w := w
  K := K
  mg := mg
  base := base
  A := A.deeper (envOfC qual scope s.heap.objs.size f cd)
  N := N
  s₀ := s
  H₀ := H
  env := envOfC qual scope s.heap.objs.size f cd
  outer := outer
  stack := envOfC qual scope s.heap.objs.size f cd :: outer
  ex := []
  calm := true
  fn := fun _ => true
  pn := []
  xe := fun e s' => wpAny (model P w) (A.deeper (envOfC qual scope s.heap.objs.size f cd)) (leaving (envOfC qual scope s.heap.objs.size f cd) e) (fun _ s'' => CX outer H s E e s'') (fun e' s'' => CX outer H s E e' s'') s'
theorem Gs {sc : Scope} {n : Nat} {x : Str} (h : sc.names.lookup x = some .cell) : ∃ c, (cellsFrom n sc.names []).lookup x = some c := by
  have q := PySem.W.cellsFrom_some sc.names n [] (.inl h)
  exact Option.isSome_iff_exists.mp q
theorem KW {CX : CXT} {P : Program} {w : World} {K : PySem.W.Frag} {mg : Str → Option Value} {base : Heap} {N ps : List Str} {qual : Str} {scope : Scope} {f : Addr} {cd : Value} {A : Around} {outer : List Env} {s s1 : Shared} {H : Hp} {E : XK} {us : List Value} {vs : List V}
    (S : aI N ps scope) (hd : A.handled = none) (e0 : OS P w K mg base A outer s H) (hl : vs.length = ps.length) (r : Vals vs us)
    (x : InCallC s s.heap.objs.size (bindL (envOfC qual scope s.heap.objs.size f cd).kindOf (ps.zip us) fun _ => none) (cellsFrom (s.heap.objs.size + 1) scope.names []) (bindC (envOfC qual scope s.heap.objs.size f cd).kindOf (ps.zip us) fun _ => none) s1) :
    Inv (HN CX P w K mg base N qual scope f cd A outer s H E) [] (start N vs) H s1 := by
  have hpl : ps.length ≤ N.length := by have := congrArg List.length S.pre; rw [List.length_take] at this; omega
  obtain ⟨h1, tk, rfl, hk⟩ := x.done
  have noA : ∀ b : Addr, b ∉ (HN CX P w K mg base N qual scope f cd A outer s H E).ex := fun b z => absurd (show b ∈ ([] : List Addr) from z) (by simp)
  refine ⟨⟨e0.mod, S.kind, rfl, rfl, Nat.le_refl _, fun y z c h1 h2 => ?_, fun y hy => ?_, fun y c _ h => ?_, fun _ => hd, .inl hd, Around.frames_deeper e0.frames, .inr ⟨rfl, rfl⟩, fun b z => absurd z (noA b), e0.bs, e0.bsz, fun b _ _ => noA b, fun b z => absurd z (noA b), e0.Al, e0.frf⟩,
    rfl, e0.bare, Un.kept hk, ⟨_, x.toInCall.ns, fun i y v h1 h2 h3 => ?_⟩, fun y c h => ⟨_, x.cell y c h⟩, e0.hok.fresh (Nat.le_refl _), fun y c h => ?_, fun p hp => absurd (show p ∈ ([] : List (Addr × Obj)) from hp) (by simp), e0.hok.kept hk, ?_⟩
  · exact name_of_addr x.apart (PySem.mem_of_lookup h1) (PySem.mem_of_lookup h2)
  · have hy : scope.names.lookup y = some .cell ∨ scope.names.lookup y = some .free := hy
    rcases hy with hy | hy
    · exact Gs hy
    · exact absurd rfl (S.QK _ (PySem.mem_of_lookup hy))
  · exact Nat.le_of_lt (x.above y c (PySem.mem_of_lookup h))
  · have hi : i < vs.length := by
      unfold start at h2
      by_cases hi : i < vs.length
      · exact hi
      · rw [List.getElem?_append_right (by simpa using hi)] at h2
        rw [List.getElem?_replicate] at h2
        split at h2 <;> cases h2
    have ha : vs[i]? = some v := by
      unfold start at h2
      rw [List.getElem?_append_left (by simpa using hi), List.getElem?_map] at h2
      cases e : vs[i]? with
      | none => rw [e] at h2; cases h2
      | some a => rw [e] at h2; cases h2; rfl
    obtain ⟨u, hu, rv⟩ := r.get ha
    have hp : ps[i]? = some y := by
      rw [← S.pre, List.getElem?_take_of_lt (by omega)]; exact h1
    have ndP : ps.Nodup := by rw [← S.pre]; exact S.nd.sublist (List.take_sublist _ _)
    refine ⟨u, rv, ?_⟩
    rcases S.par y (List.mem_of_getElem? hp) with k | k
    · exact .inl ⟨k, Cd ndP hp hu k⟩
    · obtain ⟨c, e⟩ := Gs (n := s.heap.objs.size + 1) k
      refine .inr ⟨.inl k, c, e, ?_⟩
      have q := x.cell y c e
      rw [BX ndP hp hu (by show scope.names.lookup y ≠ _; rw [k]; decide)] at q
      exact q
  · exact e0.hok.fresh (Nat.le_of_lt (x.above y c (PySem.mem_of_lookup h)))
  · unfold start
    show _ = N.length
    rw [List.length_append, List.length_map, List.length_replicate]
    omega
theorem R9 {CX : CXT} {P : Program} {w : World} {K : PySem.W.Frag} {mg : Str → Option Value} {base : Heap} {k : Nat} {f : Addr} {name qual : Str} {params : Arguments} {body : List Stmt} {scope : Scope} {dV kV doc pm cdv ct oc : Value} {an od : Option Addr}
    {osl : Array (Option Value)} {N ps : List Str} {sp : Sp} (lk : K.lookup f = some ⟨oc, od, .func (PySem.W.fnOf name qual params body scope dV kV doc pm an cdv ct), osl⟩) (hcd : PySem.W.codeIn K cdv qual = true) (S : aI N ps scope)
    (len : ∀ vs H Q E, sp vs H Q E → vs.length = ps.length)
    (hbody : ∀ (A : Around) (outer : List Env) (s : Shared) (H : Hp) (vs : List V) (Q : VK) (E : XK), pM k (A.deeper (envOfC qual scope s.heap.objs.size f cdv)) → sp vs H Q E →
      ∃ t, PSs (HN CX P w K mg base N qual scope f cdv A outer s H E) body t ∧ t { nx := fun _ H' => Q .non H', rt := Q } (start N vs) H) :
    bS P w K mg base CX (k + 1) f (PySem.W.fnOf name qual params body scope dV kV doc pm an cdv ct) ps sp := by
  refine ⟨len, fun A outer s H args us vs Q E hr e0 hb r hsp => ?_⟩
  have hl := len _ _ _ _ hsp
  have KX : K.In s.heap := e0.mod.kin.keeps fun b o e => (e0.bs b o e).1
  have lim : s.heap.NoLimit := e0.mod.nolimit.keeps fun b o e => (e0.bs b o e).1
  have hkind : ∀ y ∈ ps.zip us, scope.names.lookup y.1 = some .local ∨ (scope.names.lookup y.1 = some .cell ∧ ((cellsFrom (s.heap.objs.size + 1) scope.names []).lookup y.1).isSome = true) := fun ⟨n, v⟩ hy => by
    rcases S.par n (List.of_mem_zip hy).1 with q | q
    · exact .inl q
    · exact .inr ⟨q, PySem.W.cellsFrom_some _ _ _ (.inl q)⟩
  refine codeAny_call_function hr.depth (KX _ _ lk) rfl S.co S.gen rfl (PySem.W.codeRec_of KX hcd) (hb _ _ _ _ ?_)
  refine wpAny_newFunctionEnv_cells S.kind hkind fun env he s1 x => ?_
  subst he
  refine ⟨lim.keeps x.toInCall.keep, codeAny_func ?_⟩
  obtain ⟨t, ht, hq⟩ := hbody A outer s H vs Q E (hr.deeper _) hsp
  have I : Inv (HN CX P w K mg base N qual scope f cdv A outer s H E) [] (start N vs) H s1 := KW S hr.hd e0 hl r x
  refine wpAny_mono (ht [] s1 (start N vs) H _ I hq) (fun fl s' hs => ?_) fun e s' hs => hs
  have fin : ∀ {σ' : St} {H' : Hp} {v : V} {u : Value}, Inv (HN CX P w K mg base N qual scope f cdv A outer s H E) [] σ' H' s' → RelV v u → Q v H' → CE outer P w H s Q u s' :=
    fun {σ' H' v u} J rv q => ⟨v, H', J.os, J.bare, J.base, J.hok, rv, q⟩
  cases fl with
  | ret u =>
    obtain ⟨v, σ', H', J, rv, q⟩ := hs
    exact fin J rv q
  | next =>
    obtain ⟨σ', H', J, q⟩ := hs
    exact fin (v := V.non) (u := Value.none) J rfl q
  | brk =>
    obtain ⟨_, _, _, q⟩ := hs
    exact False.elim q
  | cont =>
    obtain ⟨_, _, _, q⟩ := hs
    exact False.elim q
end L2
namespace L2
open PySem PySem.Spec PyProof.Rows
section
variable {X : Cx} {x : Str} {p pos : Pos} {e : Expr} {es : List Expr} {t : TA} {id T : String} {r : List V → Hp → VK → Prop}
noncomputable def tCB (r : List V → Hp → VK → Prop) (t : TA) : TE := fun σ H Q => t σ H fun vs H1 => r vs H1 Q
theorem Ab (hc : jf X (.builtin id) r) (hg : Gl X x) (hm : X.mg x = none) (hv : bootBuiltins x = some (.builtin id)) (ha : PA X (e :: es) t) (hn : x ≠ "__name__" := by decide) (hdb : (x == ("__debug__" : Str)) = false := by decide)
    (he : starEach (e :: es) X.env = (false, eval e X.env) :: starEach es X.env := by rfl) (hpl : (backTo pos (starEach es X.env)).any (·.1) = false := by rfl) : PE X (.Call (.Name x p) (e :: es) [] pos) (tCB r t) := by
  intro pins s σ H Q I h
  refine wpAny_Call_Name_kw (zM I hg hm hv ?_ hn hdb)
  exact PyProof.Rows.callWith_builtin1 (thn (ha pos pins s σ H _ I h) fun us s1 ⟨vs, H1, I1, r1, q1⟩ => hc pins s1 σ H1 vs us Q I1 r1 q1) he hpl
theorem Ci (hc : jf X (.type T) r) (hg : Gl X x) (hm : X.mg x = none) (hv : bootBuiltins x = some (.type T)) (ha : PA X (e :: es) t) (hn : x ≠ "__name__" := by decide) (hdb : (x == ("__debug__" : Str)) = false := by decide)
    (he : starEach (e :: es) X.env = (false, eval e X.env) :: starEach es X.env := by rfl) (hpl : (backTo pos (starEach es X.env)).any (·.1) = false := by rfl) : PE X (.Call (.Name x p) (e :: es) [] pos) (tCB r t) := by
  intro pins s σ H Q I h
  refine wpAny_Call_Name_kw (zM I hg hm hv ?_ hn hdb)
  exact PyProof.Rows.callWith_type1 (thn (ha pos pins s σ H _ I h) fun us s1 ⟨vs, H1, I1, r1, q1⟩ => hc pins s1 σ H1 vs us Q I1 r1 q1) he hpl
end
end L2
namespace HT
open PySem PyProof.Rows
section
open PySem.SeqAt
open PySem.AutoSeq1 (wpAny_loadPart')
open PySem.MeetsSeq PySem.MeetsSeq2 PySem.MeetsSeq3
end
section
variable {prog : Program} {w : World} {A : Around} {E : Value → Shared → Prop} {s : Shared}
theorem Pa {t b : Addr} {vs ws : List Value} {Q : Value → Shared → Prop} (ht : IsTup s.heap t vs.toArray) (hb : IsTup s.heap b ws.toArray) (hv : vs ≠ [])
    (h1 : ws = [] → Q (.ref t) s) (h2 : ws ≠ [] → Q (.ref s.heap.objs.size) { s with heap := s.heap.push { cls := .type "tuple", data := .seq (vs ++ ws).toArray } })
    (hsz : vs.length + ws.length ≤ sizeLine) : wpAny (model prog w) A (binaryOp .Add (.ref t) (.ref b)) Q E s := by
  obtain ⟨⟨cls, dd, data, sl⟩, ho, hc, n, hd⟩ := id ht
  obtain ⟨⟨cls2, dd2, data2, sl2⟩, ho2, hc2, n2, hd2⟩ := id hb
  simp only at hc hd hc2 hd2
  subst hc hd hc2 hd2
  have e : vs.toArray ++ ws.toArray = (vs ++ ws).toArray := by simp
  by_cases hw : ws = []
  · exact concat_meets ⟨_, ho, rfl⟩ ⟨_, ho2, rfl⟩ noFill_tuple_add seq_tuple_add PySem.F.slot_tuple_add PySem.F.entry_tuple_add (PySem.F.args_tuple_add_2 _ _)
      (tuple_addW1 t b vs.toArray ws.toArray n n2 dd dd2 sl sl2 (by simpa using hv) (by simp [hw])) ⟨ho, ho2, h1 hw⟩
  · refine concat_meets ⟨_, ho, rfl⟩ ⟨_, ho2, rfl⟩ noFill_tuple_add seq_tuple_add PySem.F.slot_tuple_add PySem.F.entry_tuple_add (PySem.F.args_tuple_add_2 _ _)
      (tuple_addW2 t b vs.toArray ws.toArray n n2 dd dd2 sl sl2 (by simpa using hv) (by simpa using hw) (by rw [List.size_toArray, List.size_toArray]; exact hsz)) ⟨ho, ho2, ?_⟩
    rw [e]
    exact h2 hw
def sIx (n d : Nat) : Option Int → Nat
  | none => d
  | some v => if v < 0 then (v + (n : Int)).toNat else min v.toNat n
theorem Q7 (n d : Nat) (hd : d ≤ n) (o : Option Int) : sIx n d o ≤ n := by
  cases o with
  | none => exact hd
  | some v =>
    show (if v < 0 then (v + (n : Int)).toNat else min v.toNat n) ≤ n
    by_cases hv : v < 0
    · rw [if_pos hv]; omega
    · rw [if_neg hv]; exact Nat.min_le_right _ _
theorem JZ (v : Int) (n d : Nat) : (if v < 0 then max (v + (n : Int)) 0 else min v (n : Int)) = ((sIx n d (some v) : Nat) : Int) := by
  show (if v < 0 then max (v + (n : Int)) 0 else min v (n : Int)) = (((if v < 0 then (v + (n : Int)).toNat else min v.toNat n) : Nat) : Int)
  by_cases hv : v < 0
  · simp only [if_pos hv]; omega
  · simp only [if_neg hv]; omega
theorem Hm (lo hi : Option Int) (n : Nat) : Builtin.Slice.sliceAdjust lo hi 1 (n : Int) = (((sIx n 0 lo : Nat) : Int), ((sIx n n hi : Nat) : Int)) := by
  have h1 : ¬ ((1 : Int) < 0) := by omega
  unfold Builtin.Slice.sliceAdjust
  simp only [h1, if_false]
  refine Prod.ext ?_ ?_
  · cases lo with
    | none => rfl
    | some v => exact JZ v n 0
  · cases hi with
    | none => rfl
    | some v => exact JZ v n n
theorem HB (i j : Nat) : Builtin.Slice.slicePlaces (i : Int) (j : Int) 1 = j - i := by
  unfold Builtin.Slice.slicePlaces
  have h1 : (1 : Int) > 0 := by omega
  simp only [h1, if_true, Int.ediv_one]
  split <;> omega
theorem AL {v : Value} {o : Option Int} {Q : Option Int → Shared → Prop} (p : IsPart v o) (h : Q o s) : wpAny (model prog w) A (Builtin.Slice.slicePartIndex v) Q E s := by
  cases p with
  | none => exact slicePart_none h
  | int i t => exact slicePart_int h
theorem oQ {sl : Addr} {vl vu : Value} {lo hi : Option Int} {n : Nat} {Q : Int × Int × Nat → Shared → Prop} (hs : s.heap.IsSliceOf sl vl vu .none) (pl : IsPart vl lo) (pu : IsPart vu hi)
    (h : Q (((sIx n 0 lo : Nat) : Int), 1, sIx n n hi - sIx n 0 lo) s) : wpAny (model prog w) A (Builtin.Slice.sliceApplied (.ref sl) (pure (n : Int))) Q E s := by
  obtain ⟨os, hos, hcs, hds⟩ := id hs
  unfold Builtin.Slice.sliceApplied Builtin.Slice.sliceFields
  refine wpAny_bind (wpAny_bind (wpAny_field hos hds (x := vl) rfl (wpAny_bind (wpAny_field hos hds (x := vu) rfl (wpAny_bind (wpAny_field hos hds (x := .none) rfl (wpAny_pure ?_)))))))
  refine wpAny_bind (slicePart_none ?_)
  show wpAny _ _ (if ((1 : Int) == 0) = true then _ else _) _ _ s
  rw [if_neg (by decide)]
  refine wpAny_bind (AL pl (wpAny_bind (AL pu (wpAny_bind (wpAny_pure ?_)))))
  show wpAny _ _ (match Builtin.Slice.sliceAdjust lo hi 1 (n : Int) with | (lo, hi) => pure (lo, (1 : Int), Builtin.Slice.slicePlaces lo hi 1)) _ _ s
  rw [Hm lo hi n]
  show wpAny _ _ (pure (((sIx n 0 lo : Nat) : Int), (1 : Int), Builtin.Slice.slicePlaces ((sIx n 0 lo : Nat) : Int) ((sIx n n hi : Nat) : Int) 1)) _ _ s
  rw [HB]
  exact wpAny_pure h
theorem Nd (xs : Array Value) (i k : Nat) : ((List.range k).filterMap fun (m : Nat) => xs[((i : Int) + (m : Int) * 1).toNat]?).toArray = ((xs.toList.drop i).take k).toArray := by
  have e : (fun (m : Nat) => xs[((i : Int) + (m : Int) * 1).toNat]?) = fun m => xs[i + m]? := by
    funext m
    have : ((i : Int) + (m : Int) * 1).toNat = i + m := by omega
    rw [this]
  rw [e]
  have := pick_run xs i k
  rw [List.filterMap_map] at this
  have e2 : ((fun x => xs[x]?) ∘ fun x => i + x) = fun m => xs[i + m]? := rfl
  rw [e2] at this
  rw [this]
theorem wy {t sl : Addr} {items : Array Value} {vl vu : Value} {lo hi : Option Int} {Q : Value → Shared → Prop} (ht : IsTup s.heap t items) (hs : s.heap.IsSliceOf sl vl vu .none) (pl : IsPart vl lo) (pu : IsPart vu hi)
    (hw : ¬ (sIx items.size 0 lo = 0 ∧ sIx items.size items.size hi = items.size))
    (h : Q (.ref s.heap.objs.size) { s with heap := s.heap.push { cls := .type "tuple", data := .seq ((items.toList.drop (sIx items.size 0 lo)).take (sIx items.size items.size hi - sIx items.size 0 lo)).toArray } })
    (hsz : items.size ≤ sizeLine) : wpAny (model prog w) A (getItem (.ref t) (.ref sl)) Q E s := by
  have htake : sizeOk (.seq ((items.toList.drop (sIx items.size 0 lo)).take (sIx items.size items.size hi - sIx items.size 0 lo)).toArray) := by
    show ((items.toList.drop (sIx items.size 0 lo)).take (sIx items.size items.size hi - sIx items.size 0 lo)).toArray.size ≤ sizeLine
    rw [List.size_toArray, List.length_take, List.length_drop, Array.length_toList]
    omega
  have hj : sIx items.size items.size hi ≤ items.size := Q7 _ _ (Nat.le_refl _) hi
  obtain ⟨os, hos, hcs, hds⟩ := id hs
  have hTs : s.TypeIs (.ref sl) "slice" := ⟨os, hos, hcs⟩
  unfold getItem
  try with_reducible refine wpAny_holding ?_
  first | refine wpAny_bind (wpAny_pure ?_) | skip
  refine wpAny_bind (wpAny_sequenceKey ht.typeIs (by decide) ?_)
  refine wpAny_bind (wpAny_callSpecial?_slot (name := Str.ofString "__getitem__") ht.typeIs PyProof.Rows.slot_tuple_getitem
    (wpAny_call_entry PyProof.Rows.slot_tuple_getitem ht.typeIs entry_tuple_getitem ?_ (args_tuple_getitem _ _)))
  show wpAny _ _ (Builtin.Tuple.tupleItemsOf (.ref t) >>= _) _ _ s
  refine wpAny_bind (tupleItemsOf_ ht ?_)
  refine wpAny_bind (wpAny_typeOf hTs ?_)
  rw [if_pos (by decide)]
  refine wpAny_bind (oQ hs pl pu ?_)
  have hno : ¬ ((((sIx items.size 0 lo : Nat) : Int) == 0 && (1 : Int) == 1 && (sIx items.size items.size hi - sIx items.size 0 lo) == items.size) = true) := by
    intro q
    rw [Bool.and_eq_true, Bool.and_eq_true] at q
    have q1 : ((sIx items.size 0 lo : Nat) : Int) = 0 := eq_of_beq q.1.1
    have q2 : sIx items.size items.size hi - sIx items.size 0 lo = items.size := eq_of_beq q.2
    exact hw ⟨by omega, by omega⟩
  show wpAny _ _ (if (((sIx items.size 0 lo : Nat) : Int) == 0 && (1 : Int) == 1 && (sIx items.size items.size hi - sIx items.size 0 lo) == items.size) = true then _ else _) _ _ s
  rw [if_neg hno, Nd]
  first
    | exact wpAny_bind (m := Builtin.Tuple.tupleExact _) (wpAny_newObj_type (wpAny_pure ⟨_, rfl, wpAny_pure h⟩) htake)
    | exact wpAny_bind (m := Builtin.Tuple.tupleExact _) (wpAny_newObj_type (wpAny_bind (wpAny_pure (wpAny_pure ⟨_, rfl, wpAny_pure h⟩))) htake)
    | exact wpAny_bind (wpAny_bind (m := Builtin.Tuple.tupleExact _) (wpAny_newObj_type (wpAny_pure (wpAny_pure ⟨_, rfl, wpAny_pure h⟩)) htake))
    | exact wpAny_bind (wpAny_bind (m := Builtin.Tuple.tupleExact _) (wpAny_newObj_type (wpAny_pure ⟨_, rfl, wpAny_pure h⟩) htake))
end
end HT
namespace L2
open PySem PySem.Spec PyProof.Rows
abbrev TO := St → Hp → (Option Int → Hp → Prop) → Prop
noncomputable def PO (X : Cx) (e : Option Expr) (t : TO) : Prop :=
  ∀ (pins : List (Addr × Obj)) (s : Shared) (σ : St) (H : Hp) (Q : Option Int → Hp → Prop), Inv X pins σ H s → t σ H Q →
    wpAny (model X.prog X.w) X.A (evalPart e X.env) (fun u s' => ∃ o H', Inv X pins σ H' s' ∧ IsPart u o ∧ Q o H') X.xe s
noncomputable def O8 : TO := fun _ H Q => Q none H
noncomputable def SU (t : TE) : TO := fun σ H Q => t σ H fun x H1 => ∃ i, x = .int i ∧ Q (some i) H1
section
variable {X : Cx} {e : Expr} {te : TE} {lo hi : Option Expr} {tl th : TO} {pos p2 : Pos}
theorem O6 : PO X none O8 := by
  intro pins s σ H Q I h
  rw [evalPart_none]
  exact wpAny_pure ⟨none, H, I, .none, h⟩
theorem Pb (h : PE X e te) : PO X (some e) (SU te) := by
  intro pins s σ H Q I hw
  rw [evalPart_some]
  refine thn (h pins s σ H _ I hw) fun u s1 ⟨x, H1, I1, r1, q1⟩ => ?_
  obtain ⟨i, rfl, q⟩ := q1
  obtain ⟨t, rfl⟩ := r1
  exact ⟨some i, H1, I1, .int i t, q⟩
noncomputable def SlR (X : Cx) (r : V → Option Int → Option Int → Hp → VK → Prop) : Prop :=
  ∀ (pins : List (Addr × Obj)) (s : Shared) (σ : St) (H : Hp) (x : V) (v vl vu : Value) (lo hi : Option Int) (sl : Addr) (Q : VK), Inv X pins σ H s → RelV x v → s.heap.IsSliceOf sl vl vu .none → IsPart vl lo → IsPart vu hi → r x lo hi H Q →
    ∃ T id, typeLookup (.type T) "__getitem__" = pure (some (.builtin id)) ∧ s.TypeIs v T ∧ wpAny (model X.prog X.w) X.A (getItem v (.ref sl)) (EP X pins σ Q) X.xe s
theorem SlR.or {r r' : V → Option Int → Option Int → Hp → VK → Prop} (h : SlR X r) (h' : SlR X r') : SlR X (fun x lo hi H Q => r x lo hi H Q ∨ r' x lo hi H Q) := by
  intro pins s σ H x v vl vu lo hi sl Q I rx hs pl pu q
  rcases q with q | q
  · exact h pins s σ H x v vl vu lo hi sl Q I rx hs pl pu q
  · exact h' pins s σ H x v vl vu lo hi sl Q I rx hs pl pu q
noncomputable def tSl (r : V → Option Int → Option Int → Hp → VK → Prop) (te : TE) (tl th : TO) : TE := fun σ H Q => te σ H fun x H1 => tl σ H1 fun l H2 => th σ H2 fun u H3 => r x l u H3 Q
theorem NH {r : V → Option Int → Option Int → Hp → VK → Prop} (hr : SlR X r) (he : PE X e te) (hl : PO X lo tl) (hu : PO X hi th) : PE X (.Subscript e (.Slice lo hi none p2) pos) (tSl r te tl th) := by
  intro pins s σ H Q I h
  refine Subscript_ (thn (he pins s σ H _ I h) fun v s1 ⟨x, H1, I1, r1, q1⟩ => ?_)
  refine wpAny_Slice (thn (hl pins s1 σ H1 _ I1 q1) fun vl s2 ⟨l, H2, I2, pl, q2⟩ => thn (hu pins s2 σ H2 _ I2 q2) fun vu s3 ⟨u, H3, I3, pu, q3⟩ => ?_)
  rw [evalPart_none]
  refine wpAny_pure ?_
  have I4 : Inv X pins σ H3 { s3 with heap := s3.heap.push { cls := .type "slice", data := .fields #[vl, vu, .none] } } := I3.kept (t' := s3.toks) fun b ob q => Heap.get?_push_of_some _ q
  obtain ⟨T, id, hT, ht, hg⟩ := hr pins { s3 with heap := s3.heap.push { cls := .type "slice", data := .fields #[vl, vu, .none] } } σ H3 x v vl vu l u s3.heap.objs.size Q I4 r1 (Heap.IsSliceOf.new ..) pl pu q3
  show wpAny (model X.prog X.w) X.A (subscriptTail e (.Slice lo hi none p2) v (.ref s3.heap.objs.size)) (EP X pins σ Q) X.xe { s3 with heap := s3.heap.push { cls := .type "slice", data := .fields #[vl, vu, .none] } }
  exact tail_any (ops := [.ref s3.heap.objs.size, v]) ht hT hg (by with_unfolding_all rfl)
def ER (xs : List V) (lo hi : Option Int) : List V := (xs.drop (HT.sIx xs.length 0 lo)).take (HT.sIx xs.length xs.length hi - HT.sIx xs.length 0 lo)
theorem yj (xs : List V) (lo hi : Option Int) : (ER xs lo hi).length ≤ xs.length := by
  unfold ER
  rw [List.length_take, List.length_drop]
  omega
def Us (K : PySem.W.Frag) : V → Option Int → Option Int → Hp → VK → Prop := fun x lo hi H Q => ∃ a xs, x = .ref a ∧ SqT K H a xs ∧
  ¬ (HT.sIx xs.length 0 lo = 0 ∧ HT.sIx xs.length xs.length hi = xs.length) ∧ ∀ p, H p = none → Q (.ref p) (upd H p (.tup (ER xs lo hi)))
theorem RI : SlR X (Us X.K) := by
  intro pins s σ H x v vl vu lo hi sl Q I rx hs pl pu h
  obtain ⟨a, xs, rfl, hx, hw, q⟩ := h
  cases rx
  obtain ⟨its, r, ht, hz⟩ := I.tuple hx
  have hlen : its.toArray.size = xs.length := by rw [List.size_toArray]; exact r.length.symm
  refine ⟨"tuple", _, PyProof.Rows.slot_tuple_getitem.lookup, ht.typeIs, ?_⟩
  refine HT.wy ht hs pl pu (by rw [hlen]; exact hw) ?_ (by rw [hlen]; exact hz)
  rw [hlen]
  refine ⟨.ref s.heap.objs.size, _, I.laid (t' := s.toks) (o := .tup (ER xs lo hi)) (fun b ob q => Heap.get?_push_of_some _ q) (Nat.le_refl _) ?_, rfl, q _ (I.hok.fresh (Nat.le_refl _))⟩
  exact ⟨Nat.le_trans (yj xs lo hi) hz, _, (r.drop (HT.sIx xs.length 0 lo)).take (HT.sIx xs.length xs.length hi - HT.sIx xs.length 0 lo), IsTup.new _ _⟩
noncomputable def SW (K : PySem.W.Frag) : R2 := fun x y H Q => ∃ a b xs ys, x = .ref a ∧ y = .ref b ∧ SqT K H a xs ∧ SqT K H b ys ∧ xs ≠ [] ∧ xs.length + ys.length ≤ sizeLine ∧
  (ys = [] → Q (.ref a) H) ∧ (ys ≠ [] → ∀ p, H p = none → Q (.ref p) (upd H p (.tup (xs ++ ys))))
theorem Vals.Eh {xs : List V} {us : List Value} (r : Vals xs us) : us = [] ↔ xs = [] := by
  cases r with
  | nil => simp
  | cons _ _ => simp
theorem Oo : OpR X (binaryOp .Add) (SW X.K) := by
  intro pins s σ H x y v u Q I rx ry h
  obtain ⟨a, b, xs, ys, rfl, rfl, ha, hb, hx, hz, q1, q2⟩ := h
  cases rx
  cases ry
  obtain ⟨its, r1, p1, _⟩ := I.tuple ha
  obtain ⟨its2, r2, p2, _⟩ := I.tuple hb
  refine HT.Pa p1 p2 (fun z => hx (r1.Eh.mp z)) (fun z => ⟨.ref a, H, I, rfl, q1 (r2.Eh.mp z)⟩) (fun z => ?_) (by rw [← r1.length, ← r2.length]; exact hz)
  refine ⟨.ref s.heap.objs.size, _, I.laid (t' := s.toks) (o := .tup (xs ++ ys)) (fun b ob q => Heap.get?_push_of_some _ q) (Nat.le_refl _) ?_, rfl, q2 (fun w => z (r2.Eh.mpr w)) _ (I.hok.fresh (Nat.le_refl _))⟩
  exact ⟨by rw [List.length_append]; exact hz, _, r1.append r2, IsTup.new _ _⟩
end
end L2
namespace L2
open PySem PySem.Spec PyProof.Rows
def ixN (n : Nat) (i : Int) : Option Nat := if 0 ≤ i then (if i < n then some i.toNat else none) else if -(n : Int) ≤ i then some (i + n).toNat else none
def atI {α : Type} (xs : List α) (i : Int) : Option α := (ixN xs.length i).bind fun j => xs[j]?
theorem JO {n : Nat} {i : Int} {j : Nat} (h : ixN n i = some j) : seqIndex? i n = some j ∧ j < n ∧ -(n : Int) ≤ i ∧ i < n := by
  unfold ixN at h
  by_cases h0 : 0 ≤ i
  · rw [if_pos h0] at h
    by_cases h1 : i < n
    · rw [if_pos h1] at h
      have e : i.toNat = j := Option.some.inj h
      exact ⟨by rw [seqIndex_of h0 h1, e], by omega, by omega, h1⟩
    · rw [if_neg h1] at h; cases h
  · rw [if_neg h0] at h
    by_cases h1 : -(n : Int) ≤ i
    · rw [if_pos h1] at h
      have e : (i + n).toNat = j := Option.some.inj h
      exact ⟨by rw [seqIndex_neg (by omega) h1, e], by omega, h1, by omega⟩
    · rw [if_neg h1] at h; cases h
theorem Ej {α : Type} {xs : List α} {i : Int} {v : α} (h : atI xs i = some v) : ∃ j, seqIndex? i xs.length = some j ∧ xs[j]? = some v ∧ j < xs.length ∧ -(xs.length : Int) ≤ i ∧ i < xs.length := by
  unfold atI at h
  cases e : ixN xs.length i with
  | none => rw [e] at h; cases h
  | some j =>
    rw [e] at h
    obtain ⟨h1, h2, h3, h4⟩ := JO e
    exact ⟨j, h1, h, h2, h3, h4⟩
theorem k8 {α : Type} {xs : List α} {j : Nat} {v : α} (h : xs[j]? = some v) : atI xs (j : Int) = some v := by
  have hj : j < xs.length := (List.getElem?_eq_some_iff.mp h).1
  have e : ixN xs.length (j : Int) = some j := by
    unfold ixN
    rw [if_pos (by omega), if_pos (by omega)]; simp
  unfold atI; rw [e]; exact h
noncomputable def J2 (b : Expr) : Prop := ∀ o i, subscripted b false o i = operate [o, i] (getItem o i)
noncomputable def IxR (X : Cx) (r : R2) : Prop :=
  ∀ (value slice : Expr) (pins : List (Addr × Obj)) (s : Shared) (σ : St) (H : Hp) (x y : V) (v u : Value) (Q : VK), Inv X pins σ H s → RelV x v → RelV y u → r x y H Q →
    subscripted slice false v u = operate [v, u] (getItem v u) → wpAny (model X.prog X.w) X.A (subscriptTail value slice v u) (EP X pins σ Q) X.xe s
noncomputable def MtR (X : Cx) (id : String) (r : V → List V → Hp → VK → Prop) : Prop :=
  ∀ (pins : List (Addr × Obj)) (s : Shared) (σ : St) (H : Hp) (x : V) (xs : List V) (v : Value) (us : List Value) (Q : VK), Inv X pins σ H s → RelV x v → Vals xs us → r x xs H Q →
    wpAny (model X.prog X.w) X.A (call (.builtin id) (v :: us)) (EP X pins σ Q) X.xe s
section
variable {X : Cx} {a b : Expr} {ta tb : TE} {pos : Pos}
theorem IxR.or {r r' : R2} (h : IxR X r) (h' : IxR X r') : IxR X (fun x y H Q => r x y H Q ∨ r' x y H Q) := by
  intro value slice pins s σ H x y v u Q I rx ry q hs
  rcases q with q | q
  · exact h value slice pins s σ H x y v u Q I rx ry q hs
  · exact h' value slice pins s σ H x y v u Q I rx ry q hs
theorem MtR.or {id : String} {r r' : V → List V → Hp → VK → Prop} (h : MtR X id r) (h' : MtR X id r') : MtR X id (fun x xs H Q => r x xs H Q ∨ r' x xs H Q) := by
  intro pins s σ H x xs v us Q I rx rs q
  rcases q with q | q
  · exact h pins s σ H x xs v us Q I rx rs q
  · exact h' pins s σ H x xs v us Q I rx rs q
theorem Sa {r : R2} (hr : IxR X r) (ha : PE X a ta) (hb : PE X b tb) (hs : J2 b) : PE X (.Subscript a b pos) (tOp r ta tb) := by
  intro pins s σ H Q I h
  exact Subscript_ (PY ha hb I h fun v u s2 x y H2 I2 rx ry q => hr a b pins s2 σ H2 x y v u Q I2 rx ry q (hs _ _))
noncomputable def Tb (K : PySem.W.Frag) : R2 := fun x y H Q => ∃ p xs i v, x = .ref p ∧ y = .int i ∧ SqL K H p xs ∧ atI xs i = some v ∧ Q v H
noncomputable def SO (K : PySem.W.Frag) : R2 := fun x y H Q => ∃ p xs i v, x = .ref p ∧ y = .int i ∧ SqT K H p xs ∧ atI xs i = some v ∧ Q v H
noncomputable def SI : R2 := fun x y H Q => ∃ z i c, x = .str z ∧ y = .int i ∧ z.length ≤ sizeLine ∧ atI z.cps.toList i = some c ∧ Q (.str ⟨#[c]⟩) H
theorem Oz : IxR X (Tb X.K) := by
  intro value slice pins s σ H x y v u Q I rx ry h hs
  obtain ⟨p, xs, i, z, rfl, rfl, hq, he, q⟩ := h
  cases rx
  obtain ⟨t, rfl⟩ := ry
  obtain ⟨its, r, pl, hz⟩ := I.list hq
  obtain ⟨j, h1, h2, h3, h4, h5⟩ := Ej he
  obtain ⟨w, ew, rw'⟩ := r.get h2
  have hl := r.length
  have hn := Ay
  have fin : EP X pins σ Q w s := ⟨z, H, I, rw', q⟩
  by_cases h0 : 0 ≤ i
  · have hj : i.toNat = j := by
      rw [seqIndex_of h0 h5] at h1
      exact Option.some.inj h1
    exact item_listR pl.isList h0 (by omega) (by rw [hj]; simpa using ew) fin hs
  · have hj : (i + (its.toArray.size : Int)).toNat = j := by
      rw [seqIndex_neg (by omega) h4] at h1
      rw [List.size_toArray, ← hl]
      exact Option.some.inj h1
    exact subscriptTail_builtinR (x := w) pl.isList.typeIs slot_list_getitem.lookup
      (wpAny_getItem_list_neg (Q := fun r s' => r = w ∧ EP X pins σ Q r s') pl.isList (by omega) (by rw [List.size_toArray] <;> omega) (by omega) (by rw [hj]; simpa using ew) ⟨rfl, fin⟩) hs
theorem Rt : IxR X (SO X.K) := by
  intro value slice pins s σ H x y v u Q I rx ry h hs
  obtain ⟨p, xs, i, z, rfl, rfl, hq, he, q⟩ := h
  cases rx
  obtain ⟨t, rfl⟩ := ry
  obtain ⟨its, r, pl, hz⟩ := I.tuple hq
  obtain ⟨j, h1, h2, h3, h4, h5⟩ := Ej he
  obtain ⟨w, ew, rw'⟩ := r.get h2
  have hl := r.length
  have hn := Ay
  have fin : EP X pins σ Q w s := ⟨z, H, I, rw', q⟩
  exact subscriptTail_builtinR (x := w) pl.typeIs slot_tuple_getitem.lookup
    (getItem_tuple (j := j) (Q := fun r s' => r = w ∧ EP X pins σ Q r s') pl (by omega) (by omega) (by rw [List.size_toArray, ← hl]; exact h1) (by simpa using ew) ⟨rfl, fin⟩) hs
theorem Qx : IxR X SI := by
  intro value slice pins s σ H x y v u Q I rx ry h hs
  obtain ⟨z, i, c, rfl, rfl, hz, he, q⟩ := h
  obtain ⟨t, rfl⟩ := rx
  obtain ⟨t', rfl⟩ := ry
  obtain ⟨j, h1, h2, h3, h4, h5⟩ := Ej he
  have hl : z.cps.toList.length = z.length := by simp [Str.length]
  rw [hl] at h1 h4 h5
  have hn := Ay
  exact tail_any (typeIs_str s z t) slot_str_getitem.lookup (getItem_str (c := c) (by
    have e1 : decide (i < -(2 ^ 63 : Int)) = false := decide_eq_false (by omega)
    have e2 : decide (i ≥ 2 ^ 63) = false := decide_eq_false (by omega)
    rw [e1, e2, Bool.or_false]) (by rw [h1]; simpa using h2) ⟨.str ⟨#[c]⟩, H, I.tok _, ⟨_, rfl⟩, q⟩) hs
noncomputable def rIx (K : PySem.W.Frag) : R2 := fun x y H Q => Tb K x y H Q ∨ SO K x y H Q ∨ SI x y H Q
theorem PV : IxR X (rIx X.K) := Oz.or (Rt.or Qx)
theorem Ip (its : List Value) (n j : Nat) (u : Value) : Obj.mapSeq (·.setIfInBounds j u) { cls := .type "list", data := .seq its.toArray n } = { cls := .type "list", data := .seq (its.set j u).toArray n } := by
  simp [Obj.mapSeq]
theorem Inv.lst {pins : List (Addr × Obj)} {σ : St} {H : Hp} {s : Shared} {p : Addr} {xs : List V} (I : Inv X pins σ H s) (h : H p = some (.lst xs)) :
    ∃ (its : List Value) (n : Nat), Vals xs its ∧ s.heap.get? p = some { cls := .type "list", data := .seq its.toArray n } ∧ xs.length ≤ sizeLine := by
  obtain ⟨z, its, n, r, e⟩ := I.hok p _ h
  exact ⟨its, n, r, e, z⟩
theorem Inv.Qg {pins : List (Addr × Obj)} {σ : St} {H : Hp} {s : Shared} {p : Addr} {xs ys : List V} {its its' : List Value} {n n' : Nat} {f : Obj → Obj} (I : Inv X pins σ H s) (h : H p = some (.lst xs))
    (ho : s.heap.get? p = some { cls := .type "list", data := .seq its.toArray n }) (hf : f { cls := .type "list", data := .seq its.toArray n } = { cls := .type "list", data := .seq its'.toArray n' }) (r : Vals ys its') (hz : ys.length ≤ sizeLine) (t : Nat) :
    Inv X pins σ (upd H p (.lst ys)) { s with heap := s.heap.update p f, toks := t } := by
  have e : (s.heap.update p f).get? p = some { cls := .type "list", data := .seq its'.toArray n' } := by
    rw [Heap.get?_update_self f ho (by rw [hf] <;> rfl), hf]
  refine I.write (x := p) (e := p) (by rw [h]; trivial) (.inl rfl) (fun b u hb q => (Heap.get?_update_other _ _ (Ne.symm hb)).trans q) ⟨_, e⟩ ?_
  exact ⟨hz, its', n', r, e⟩
def R1 : V → V → V → Hp → (Hp → Prop) → Prop := fun o i v H Q => ∃ p xs k j, o = .ref p ∧ i = .int k ∧ H p = some (.lst xs) ∧ ixN xs.length k = some j ∧ Q (upd H p (.lst (xs.set j v)))
theorem set_list : S0 X R1 := by
  intro pins s σ H o i v ov iv u Q I ro ri rv h
  obtain ⟨p, xs, k, j, rfl, rfl, hp, hj, q⟩ := h
  cases ro
  obtain ⟨t, rfl⟩ := ri
  obtain ⟨its, n, r, ho, hz⟩ := I.lst hp
  obtain ⟨h1, h2, h3, h4⟩ := JO hj
  have hl := r.length
  have hn := Ay
  have I' : Inv X pins σ (upd H p (.lst (xs.set j v))) { s with heap := s.heap.update p (Obj.mapSeq (·.setIfInBounds j u)) } :=
    I.Qg hp ho (Ip its n j u) (r.set rv j) (by rw [List.length_set]; exact hz) s.toks
  by_cases h0 : 0 ≤ k
  · have hk : k.toNat = j := by
      rw [seqIndex_of h0 h4] at h1
      exact Option.some.inj h1
    exact PySem.W.ki_setAt ho h0 (by omega) (by rw [List.size_toArray, ← hl]; exact h4) (by rw [hk]; exact ⟨_, I', q⟩)
  · have hk : (k + (its.toArray.size : Int)).toNat = j := by
      rw [seqIndex_neg (by omega) h3] at h1
      rw [List.size_toArray, ← hl]
      exact Option.some.inj h1
    exact PySem.W.ki_setBack ho (by omega) (by rw [List.size_toArray, ← hl]; exact h3) (by omega) (by rw [hk]; exact ⟨_, I', q⟩)
theorem Dv (lo hi : Option Int) (n : Nat) : (sliceBounds lo hi none n).1 = ((HT.sIx n 0 lo : Nat) : Int) ∧ (sliceBounds lo hi none n).2.1 = ((HT.sIx n n hi : Nat) : Int) ∧ (sliceBounds lo hi none n).2.2 = 1 := by
  refine ⟨?_, ?_, rfl⟩
  · cases lo with
    | none => simp [sliceBounds, HT.sIx]
    | some i =>
      simp only [sliceBounds, HT.sIx, Option.getD_none, show (1 : Int) > 0 by decide, if_true]
      by_cases h : i < 0
      · simp only [h, if_true] <;> omega
      · simp only [h, if_false] <;> omega
  · cases hi with
    | none => simp [sliceBounds, HT.sIx]
    | some i =>
      simp only [sliceBounds, HT.sIx, Option.getD_none, show (1 : Int) > 0 by decide, if_true]
      by_cases h : i < 0
      · simp only [h, if_true] <;> omega
      · simp only [h, if_false] <;> omega
theorem BE (its : List Value) (lo hi : Option Int) : slicePick its.toArray lo hi none = ((its.drop (HT.sIx its.length 0 lo)).take (HT.sIx its.length its.length hi - HT.sIx its.length 0 lo)).toArray := by
  obtain ⟨h1, h2, h3⟩ := Dv lo hi its.toArray.size
  unfold slicePick
  rw [h1, h2, h3]
  simp only [sliceRange_one, pick_run, List.size_toArray] <;> rfl
def T4 (K : PySem.W.Frag) : V → Option Int → Option Int → Hp → VK → Prop := fun x lo hi H Q => ∃ a xs, x = .ref a ∧ SqL K H a xs ∧ ∀ p, H p = none → Q (.ref p) (upd H p (.lst (ER xs lo hi)))
theorem O9 : SlR X (T4 X.K) := by
  intro pins s σ H x v vl vu lo hi sl Q I rx hs pl pu h
  obtain ⟨a, xs, rfl, hx, q⟩ := h
  cases rx
  obtain ⟨its, r, ht, hz⟩ := I.list hx
  have hlen := r.length
  refine ⟨"list", _, slot_list_getitem.lookup, ht.isList.typeIs, ?_⟩
  refine wpAny_getItem_list_slice ht.isList hs pl pu .none (by simp) ?_ (by rw [List.size_toArray] <;> omega)
  rw [BE, ← hlen]
  refine ⟨.ref s.heap.objs.size, _, I.laid (t' := s.toks) (o := .lst (ER xs lo hi)) (fun b ob q => Heap.get?_push_of_some _ q) (Nat.le_refl _) ?_, rfl, q _ (I.hok.fresh (Nat.le_refl _))⟩
  exact ⟨Nat.le_trans (yj xs lo hi) hz, _, 0, (r.drop (HT.sIx xs.length 0 lo)).take (HT.sIx xs.length xs.length hi - HT.sIx xs.length 0 lo), Heap.get?_push_size _ rfl⟩
theorem DB : jf X (.builtin "len") (fun xs H Q => ∃ p ys, xs = [.ref p] ∧ (SqL X.K H p ys ∨ SqT X.K H p ys) ∧ Q (.int ys.length) H) := by
  intro pins s σ H xs us Q I r h
  obtain ⟨p, ys, rfl, hq, q⟩ := h
  obtain ⟨u, rfl, rx⟩ := vals1 r
  cases rx
  have hn := Ay
  rcases hq with hq | hq
  · obtain ⟨its, r', pl, hz⟩ := I.list hq
    have hlen := r'.length
    exact Calls.call_len_list pl.isList (by simp only [List.size_toArray] <;> omega) ⟨.int ys.length, H, I.tok _, ⟨s.toks + 1, by rw [List.size_toArray, hlen]⟩, q⟩
  · obtain ⟨its, r', pl, hz⟩ := I.tuple hq
    have hlen := r'.length
    exact len_tuple pl (by simp only [List.size_toArray] <;> omega) ⟨.int ys.length, H, I.tok _, ⟨s.toks + 1, by rw [List.size_toArray, hlen]⟩, q⟩
theorem jf.or {f : Value} {r r' : List V → Hp → VK → Prop} (h : jf X f r) (h' : jf X f r') : jf X f (fun xs H Q => r xs H Q ∨ r' xs H Q) := by
  intro pins s σ H xs us Q I rs q
  rcases q with q | q
  · exact h pins s σ H xs us Q I rs q
  · exact h' pins s σ H xs us Q I rs q
theorem BK : jf X (.type "tuple") (fun xs H Q => ∃ p ys, xs = [.ref p] ∧ ((SqL X.K H p ys ∧ ∀ l, H l = none → Q (.ref l) (upd H l (.tup ys))) ∨ (SqT X.K H p ys ∧ Q (.ref p) H))) := by
  intro pins s σ H xs us Q I r h
  obtain ⟨p, ys, rfl, h⟩ := h
  obtain ⟨u, rfl, rx⟩ := vals1 r
  cases rx
  rcases h with ⟨hq, q⟩ | ⟨hq, q⟩
  · obtain ⟨its, r', pl, hz⟩ := I.list hq
    have hlen := r'.length
    refine call_tuple_list pl.isList (fun h' kp => ?_) (by simp only [List.size_toArray] <;> omega)
    have I1 : Inv X pins σ H { s with heap := h' } := I.kept (t' := s.toks) kp
    have I2 : Inv X pins σ (upd H h'.objs.size (.tup ys)) { s with heap := h'.push { cls := .type "tuple", data := .seq its.toArray } } :=
      I1.laid (t' := s.toks) (fun b o e => Heap.get?_push_of_some _ e) (Nat.le_refl _) (show oV X.prog X.w _ _ _ (.tup ys) from ⟨hz, its, r', IsTup.new _ _⟩)
    exact ⟨.ref h'.objs.size, _, I2, rfl, q _ (I1.hok.fresh (Nat.le_refl _))⟩
  · obtain ⟨its, r', pl, hz⟩ := I.tuple hq
    exact call_tuple_same pl ⟨.ref p, H, I, rfl, q⟩
noncomputable def tyV (K : PySem.W.Frag) (T : String) (x : V) (H : Hp) : Prop := match x with
  | .str _ => T = "str"
  | .int _ => T = "int"
  | .ref p => (T = "list" ∧ ∃ xs, SqL K H p xs) ∨ (T = "tuple" ∧ ∃ o, K.lookup p = some o ∧ o.cls = .type "tuple" ∧ o.dict = none) ∨
      (T = "dict" ∧ ((∃ kvs, H p = some (.dK kvs)) ∨ ∃ kvs, H p = some (.dT kvs))) ∨ (T = "set" ∧ ∃ S n, H p = some (.set S n))
  | _ => False
theorem Rg {pins : List (Addr × Obj)} {σ : St} {H : Hp} {s : Shared} {T : String} {x : V} {v : Value} (I : Inv X pins σ H s) (r : RelV x v) (ty : tyV X.K T x H) :
    s.TypeIs v T ∧ ∀ a, v = .ref a → ∃ ob, s.heap.get? a = some ob ∧ ob.dict = none := by
  cases x with
  | str z =>
    obtain ⟨t, rfl⟩ := r
    cases (show T = "str" from ty)
    exact ⟨typeIs_str s z t, fun _ e => nomatch e⟩
  | int i =>
    obtain ⟨t, rfl⟩ := r
    cases (show T = "int" from ty)
    exact ⟨typeIs_int s i t, fun _ e => nomatch e⟩
  | ref p =>
    cases r
    rcases ty with ⟨rfl, xs, hq⟩ | ⟨rfl, o, hk, hc, hd⟩ | ⟨rfl, hk⟩ | ⟨rfl, S, n, hk⟩
    · obtain ⟨its, _, pl, _⟩ := I.list hq
      refine ⟨pl.isList.typeIs, fun a e => ?_⟩
      cases e
      obtain ⟨o, n, e, c, hd, _⟩ := pl
      exact ⟨o, e, hd⟩
    · refine ⟨⟨o, I.kIn p o hk, hc⟩, fun a e => ?_⟩
      cases e
      exact ⟨o, I.kIn _ o hk, hd⟩
    · have z : ∃ o, s.heap.get? p = some o ∧ o.ExactDict := by
        rcases hk with ⟨kvs, hk⟩ | ⟨kvs, hk⟩
        · obtain ⟨_, _, _, _, o, _, _, e, ex, _⟩ := I.hok p _ hk
          exact ⟨o, e, ex⟩
        · obtain ⟨_, _, _, _, o, _, _, e, ex, _⟩ := I.hok p _ hk
          exact ⟨o, e, ex⟩
      obtain ⟨o, e, ex⟩ := z
      refine ⟨⟨o, e, ex.1⟩, fun a e2 => ?_⟩
      cases e2
      exact ⟨o, e, ex.2.1⟩
    · obtain ⟨o, _, _, _, e, ex, _⟩ := I.hok p _ hk
      refine ⟨⟨o, e, ex.1⟩, fun a e2 => ?_⟩
      cases e2
      exact ⟨o, e, ex.2.1⟩
  | _ => exact False.elim ty
noncomputable def tBM (K : PySem.W.Frag) (T : String) (r : V → List V → Hp → VK → Prop) (to : TE) (t : TA) : TE := fun σ H Q => to σ H fun x H1 => tyV K T x H1 ∧ t σ H1 fun xs H2 => r x xs H2 Q
variable {o e : Expr} {es : List Expr} {to : TE} {t : TA} {name : Str} {apos cpos : Pos} {T id : String} {r : V → List V → Hp → VK → Prop}
theorem Pm (pa : PlainAttrs T) (slot : Slot T name id) (hty : typeOf (.builtin id) = pure (.type "method_descriptor")) (hm : MtR X id r) (ho : PE X o to) (ha : PA X (e :: es) t)
    (hbase : attributeBase o name X.env (eval o X.env) = eval o X.env := by rfl)
    (hfew : ((backTo cpos (starEach (e :: es) X.env)).all (fun x => !x.1) && (backToKw cpos (keywordEach [] X.env)).all (fun x => x.1.isSome)
      && decide ((e :: es).length + ([] : List Keyword).length + (if ([] : List Keyword).isEmpty then 0 else 1) < 30)) = true := by rfl)
    (hline : (apos.endLine == cpos.line) = true := by rfl) (hs : starEach (e :: es) X.env = (false, eval e X.env) :: starEach es X.env := by rfl) (hplain : (backTo cpos (starEach es X.env)).any (·.1) = false := by rfl) :
    PE X (.Call (.Attribute o name apos) (e :: es) [] cpos) (tBM X.K T r to t) := by
  intro pins s σ H Q I h
  refine wpAny_Call_method_late hbase hfew hline rfl (thn (ho pins s σ H _ I h) fun v s1 ⟨x, H1, I1, r1, ty, q1⟩ => ?_)
  obtain ⟨h1, h2⟩ := Rg I1 r1 ty
  refine ⟨T, id, pa, slot, hty, h1, h2, ?_⟩
  have hA := ha cpos pins s1 σ H1 _ I1 q1
  rw [hs] at hA ⊢
  refine Calls.callWith_builtin (by show (false || (backTo cpos (starEach es X.env)).any (·.1)) = false; rw [hplain] <;> rfl) (Calls.evalArgs_plain ?_)
  exact thn hA fun us s2 ⟨vs, H2, I2, r2, q2⟩ => hm pins s2 σ H2 x vs v us Q I2 r1 r2 q2
end
end L2
namespace L2
open PySem PySem.Spec PyProof.Rows
noncomputable def MtM (X : Cx) (id : String) (r : V → List V → Hp → VK → Prop) : Prop :=
  ∀ (pins : List (Addr × Obj)) (s : Shared) (σ : St) (H : Hp) (x : V) (xs : List V) (v : Value) (us : List Value) (Q : VK), Inv X pins σ H s → RelV x v → Vals xs us → r x xs H Q →
    wpAny (model X.prog X.w) X.A (call (.builtin id) (v :: us)) (EP X pins σ Q) X.xe s
theorem Vals.one : ∀ {x : V} {us : List Value}, Vals [x] us → ∃ u, us = [u] ∧ RelV x u
  | _, _, .cons r .nil => ⟨_, rfl, r⟩
theorem Vals.two : ∀ {x y : V} {us : List Value}, Vals [x, y] us → ∃ u v, us = [u, v] ∧ RelV x u ∧ RelV y v
  | _, _, _, .cons r (.cons q .nil) => ⟨_, _, rfl, r, q⟩
theorem Vals.reverse {xs : List V} {us : List Value} (h : Vals xs us) : Vals xs.reverse us.reverse := by
  induction h with
  | nil => exact .nil
  | cons r t ih => rw [List.reverse_cons, List.reverse_cons]; exact Vals.append ih (.cons r .nil)
section
variable {X : Cx} {pins : List (Addr × Obj)} {σ : St} {H : Hp} {s : Shared} {l b : Addr} {xs ys zs : List V}
theorem Inv.RW {its its' : List Value} {n : Nat} {f : Array Value → Array Value} {t' : Nat} (I : Inv X pins σ H s) (hH : H l = some (.lst xs))
    (e : s.heap.get? l = some { cls := .type "list", data := .seq its.toArray n }) (hf : f its.toArray = its'.toArray) (hv : Vals ys its') (hz : ys.length ≤ sizeLine) :
    Inv X pins σ (upd H l (.lst ys)) { s with heap := s.heap.update l (Obj.mapSeq f), toks := t' } := by
  have q := PySem.IsL.update e f
  rw [hf] at q
  refine I.write (x := l) (e := l) (by rw [hH]; exact trivial) (.inl rfl) (fun b' u hb hu => (Heap.get?_update_other s.heap (Obj.mapSeq f) (Ne.symm hb)).trans hu) ⟨_, q⟩ ?_
  exact ⟨hz, its', _, hv, q⟩
theorem Inv.T6 {its : List Value} {t' : Nat} (I : Inv X pins σ H s) (hv : Vals ys its) (hz : ys.length ≤ sizeLine) :
    Inv X pins σ (upd H s.heap.objs.size (.lst ys)) { s with heap := s.heap.push { cls := .type "list", data := .seq its.toArray }, toks := t' } :=
  I.laid (fun _ _ q => Heap.get?_push_of_some _ q) (Nat.le_refl _) ⟨hz, its, 0, hv, Heap.get?_push_size _ rfl⟩
theorem Inv.fresh (I : Inv X pins σ H s) : H s.heap.objs.size = none := I.hok.fresh (Nat.le_refl _)
theorem Inv.KR (I : Inv X pins σ H s) (hH : H l = some (.lst xs)) : xs.length ≤ sizeLine ∧ ∃ (its : List Value) (n : Nat), Vals xs its ∧ xs.length = its.length ∧ s.heap.get? l = some { cls := .type "list", data := .seq its.toArray n } := by
  obtain ⟨z, its, n, r, e⟩ := I.hok l _ hH
  exact ⟨z, its, n, r, r.length, e⟩
theorem L9 {n : Nat} (h : n ≤ sizeLine) : Builtin.List.listTooLong n = false := by
  unfold Builtin.List.listTooLong
  exact decide_eq_false (by omega)
end
section
variable {X : Cx}
def OH : V → List V → Hp → VK → Prop := fun x vs H Q => ∃ l xs y, x = .ref l ∧ vs = [y] ∧ H l = some (.lst xs) ∧ xs.length < sizeLine ∧ Q .non (upd H l (.lst (xs ++ [y])))
theorem xm : MtM X "list.append" OH := by
  intro pins s σ H x vs v us Q I rx rv h
  obtain ⟨l, xs, y, rfl, rfl, hH, hz, q⟩ := h
  cases rx
  obtain ⟨u, rfl, ru⟩ := rv.one
  obtain ⟨z, its, n, r, hl, e⟩ := I.KR hH
  refine call_meets F.slot_list_append ⟨_, e, rfl⟩ F.entry_list_append (F.args_list_append_2 _ _) (PySem.list_append l its.toArray n u (by rw [List.size_toArray]; omega)) ⟨e, ?_⟩
  refine ⟨.non, _, I.RW (its' := its ++ [u]) hH e (by simp) (r.append (.cons ru .nil)) ?_, rfl, q⟩
  rw [List.length_append, List.length_singleton]
  omega
def O2 : V → List V → Hp → VK → Prop := fun x vs H Q => ∃ l b xs zs, x = .ref l ∧ vs = [.ref b] ∧ H l = some (.lst xs) ∧ H b = some (.lst zs) ∧ xs.length + zs.length ≤ sizeLine ∧ Q .non (upd H l (.lst (xs ++ zs)))
theorem RJ : MtM X "list.extend" O2 := by
  intro pins s σ H x vs v us Q I rx rv h
  obtain ⟨l, b, xs, zs, rfl, rfl, hH, hB, hz, q⟩ := h
  cases rx
  obtain ⟨u, rfl, ru⟩ := rv.one
  cases ru
  obtain ⟨z, its, n, r, hl, e⟩ := I.KR hH
  obtain ⟨z2, its2, n2, r2, hl2, e2⟩ := I.KR hB
  have hsz : its.toArray.size + its2.toArray.size ≤ sizeLine := by rw [List.size_toArray, List.size_toArray]; omega
  have hlong : ¬ (!its.toArray.isEmpty && Builtin.List.listTooLong (its.toArray.size + its2.toArray.size)) = true := by
    rw [L9 hsz, Bool.and_false]
    exact Bool.false_ne_true
  refine call_meets F.slot_list_extend ⟨_, e, rfl⟩ F.entry_list_extend (F.args_list_extend_2 _ _)
    (AutoSeq1.list_extend_list_list_0 l its.toArray n b its2.toArray n2 hlong (by rw [List.size_toArray]; omega) (by omega)) ⟨e, e2, ?_⟩
  refine ⟨.non, _, I.RW (its' := its ++ its2) hH e (by simp) (r.append r2) ?_, rfl, q⟩
  rw [List.length_append]
  omega
noncomputable def Q2 : R2 := fun x y H Q => ∃ l b xs zs, x = .ref l ∧ y = .ref b ∧ H l = some (.lst xs) ∧ H b = some (.lst zs) ∧ xs.length + zs.length ≤ sizeLine ∧ ∀ p, H p = none → Q (.ref p) (upd H p (.lst (xs ++ zs)))
theorem Qm : OpR X (binaryOp .Add) Q2 := by
  intro pins s σ H x y v u Q I rx ry h
  obtain ⟨l, b, xs, zs, rfl, rfl, hH, hB, hz, q⟩ := h
  cases rx
  cases ry
  obtain ⟨z, its, n, r, hl, e⟩ := I.KR hH
  obtain ⟨z2, its2, n2, r2, hl2, e2⟩ := I.KR hB
  refine PySem.P.add_list e e2 ?_ (by rw [List.size_toArray, List.size_toArray]; omega)
  have ea : its.toArray ++ its2.toArray = (its ++ its2).toArray := by simp
  rw [ea]
  exact ⟨.ref _, _, I.T6 (t' := s.toks) (r.append r2) (by rw [List.length_append]; omega), rfl, q _ I.fresh⟩
end
section
variable {prog : Program} {w : World} {A : Around} {E : Value → Shared → Prop} {s : Shared}
end
section
variable {X : Cx}
end
end L2
namespace Att
open PySem PySem.W PySem.Calls PyProof.Rows
theorem yF {P : Params} {h : Heap} : ∀ (ns : List Int) (vs : List Value), WellAll P h vs (ns.map WData.int) → IntsAre vs ns := by
  intro ns
  induction ns with
  | nil =>
    intro vs w
    rw [List.map_nil] at w
    cases w
    exact .nil
  | cons n ns ih =>
    intro vs w
    rw [List.map_cons] at w
    cases w with
    | cons a b =>
      cases a
      exact .cons _ _ (ih _ b)
theorem Ku {l : OpenLaw} {n : Nat} (hn : l.most = some n) {P : Params} {h : Heap} {args : List WData} {vals : List Value}
    (hpre : l.row.toRowW.claim.pre args = true) (hwl : WellAll P h vals args) :
    ∃ a vs ns, vals = [Value.ref a] ∧ args = [WData.list (ns.map WData.int)] ∧ h.get? a = some { cls := .type "list", data := .seq vs.toArray } ∧ IntsAre vs ns ∧ ns.length ≤ n := by
  have hsh : WShape.hasAll [] args [.list .int] = true := (pre_splitW hpre).1
  have hc : l.pre.holds [] { args := args } = true := (pre_splitW hpre).2
  obtain ⟨d, r, rfl, h1, h2⟩ := hasAllW_cons hsh
  obtain rfl := hasAllW_nil h2
  obtain ⟨xs, rfl, h3⟩ := hasW_list h1
  obtain ⟨ns, rfl⟩ := items_int h3
  have hlen : ns.length ≤ n := by
    unfold OpenLaw.pre at hc
    have h4 : (WTm.not (.lt (.lit (.int (n : Int))) (.len (.arg 0)))).holds [] { args := [.list (ns.map .int)] } = true := by
      have h4 := (holds_andW hc).1
      rw [hn] at h4
      exact h4
    have h5 := condW_of h4 (w_not (w_lt w_lit (w_len_list (w_arg rfl))))
    rw [List.length_map] at h5
    refine Nat.le_of_not_lt fun q => ?_
    have q' : (n : Int) < ((ns.length : Nat) : Int) := by omega
    first
      | (rw [decide_eq_true q'] at h5; exact absurd h5 (by decide))
      | (simp at h5; omega)
  cases hwl with
  | cons w1 w2 =>
    cases w2
    cases w1 with
    | list ho hall => exact ⟨_, _, ns, rfl, rfl, ho, yF ns _ hall, hlen⟩
theorem K3 (l : OpenLaw) (args : List WData) : l.row.toRowW.claim.post args (.bool true) args = true :=
  postW_of (r := l.row.toRowW) (X := (true == true))
    (show WShape.has [] (.bool true) .bool = true by first | rfl | decide | simp [WShape.has, WShape.arms, WShape.armsAll])
    (show (WTm.eq .res (.lit (.bool true))).value [] { args := args, res := some (.bool true), after := args } = some (.bool (true == true)) from w_eq_bool (w_res rfl) w_lit) rfl
theorem FC {l : OpenLaw} {n : Nat} {q : Program} {loose : List Str} {XP : (Str → Option Value) → Heap → Prop} {YP : World → Heap → Prop} {d : DefRec}
    (hn : l.most = some n) (hdf : d.params.defaults = [])
    (call : ∀ (w : World) (s₀ s₁ : Shared) (mg mb : Str → Option Value) (fa : Addr) (o : Obj) (pm cd doc : Value) (a : Addr) (vs : List Value) (ns : List Int),
      Ground q loose [] XP w s₀ mg mb s₁.heap → YP w s₁.heap →
      s₁.heap.get? fa = some o → o.data = .func (docDef d.name d.params d.body d.scope pm cd doc) → s₁.heap.CodeRec cd d.name → mg d.name = some (.ref fa) →
      s₁.heap.get? a = some { cls := .type "list", data := .seq vs.toArray } → IntsAre vs ns → ns.length ≤ n → s₁.gens = #[] →
      codeAny (model l.prog w) callerA (.call (.ref fa) ⟨[.ref a], []⟩) (fun r s' => r = .ok (.ret (.bool true)) ∧ OldK s₁.heap s'.heap ∧ s'.os = s₁.os ∧ AllBare s'.gens) s₁) :
    WalkO q loose XP YP l.row.toRowW d [] (fun f vs => PySem.call f vs) := by
  intro w s₀ s₁ mg mb G Y fa o pm cd doc dV kV ho hd hcd hD hmg hg args vals as hpre hlay hrd hwl hlo
  obtain rfl : dV = .none := Dflts.none hD hdf
  obtain rfl : kV = .none := Dflts.noKw hD
  obtain ⟨a, vs, ns, rfl, rfl, hobj, hints, hlen⟩ := Ku hn hpre hwl
  refine enter_call (codeAny_mono (call w s₀ s₁ mg mb fa o pm cd doc a vs ns G Y ho (fd_plain hd) hcd hmg hobj hints hlen hg) fun r s' hq => ?_)
  obtain ⟨rfl, h2, h3, h4⟩ := hq
  exact ⟨.inl ⟨.bool true, .bool true, [], rfl, fun _ => rfl, .bool true, K3 l _, fun _ => ⟨List.Pairwise.nil, fun _ hm => (nomatch hm)⟩⟩, h2, h3, h4⟩
section
variable {prog : Program} {w : World} {A : Around} {E : Value → Shared → Prop} {s : Shared} {K : Frag}
def ledger (h : Heap) (L d : Addr) : List (Addr × Obj) := (List.range h.objs.size).filterMap fun a => if a = L ∨ a = d then none else (h.get? a).map fun o => (a, o)
end
end Att
namespace L2
open PySem PySem.Spec PyProof.Rows
theorem B2 : ∀ {vs : List Value} {ns : List Int}, IntsAre vs ns → Vals (ns.map V.int) vs
  | _, _, .nil => .nil
  | _, _, .cons n t h => .cons ⟨t, rfl⟩ (B2 h)
end L2
namespace L2
open PySem PySem.Spec PyProof.Rows
end L2
namespace L2
open PySem PySem.Spec PyProof.Rows
noncomputable abbrev CX0 : CXT := fun _ _ _ _ _ _ => False
noncomputable abbrev E0 : XK := fun _ _ _ => False
theorem RX {X : Cx} : Passes CX0 X E0 := fun _ _ _ _ _ _ _ h => h.elim
structure Fun (K : PySem.W.Frag) (x qual : Str) (st : Stmt) (f : Addr) (fd : FuncData) : Prop where
  ex : ∃ (oc : Value) (od : Option Addr) (kV doc pm : Value) (an : Option Addr) (cdv ct : Value) (osl : Array (Option Value)),
    fd = PySem.W.fnOf x qual (tE st) (mR st) (aC st) .none kV doc pm an cdv ct ∧ K.lookup f = some ⟨oc, od, .func fd, osl⟩ ∧ PySem.W.codeIn K cdv qual = true
  kp : PySem.W.keepIn K (.ref f) = true
section
variable {P : Program} {w : World} {K : PySem.W.Frag} {mg : Str → Option Value} {base : Heap}
theorem Fun.ok {x qual : Str} {st : Stmt} {f : Addr} {fd : FuncData} {N ps : List Str} {k : Nat} {sp : Sp} (F : Fun K x qual st f fd) (S : aI N ps (aC st)) (len : ∀ vs H Q E, sp vs H Q E → vs.length = ps.length)
    (hbody : ∀ (cdv : Value) (A : Around) (outer : List Env) (s : Shared) (H : Hp) (vs : List V) (Q : VK) (E : XK), pM k (A.deeper (envOfC qual (aC st) s.heap.objs.size f cdv)) → sp vs H Q E →
      ∃ t, PSs (HN CX0 P w K mg base N qual (aC st) f cdv A outer s H E).nox (mR st) t ∧ t { nx := fun _ H' => Q .non H', rt := Q } (start N vs) H) : bS P w K mg base CX0 (k + 1) f fd ps sp := by
  obtain ⟨oc, od, kV, doc, pm, an, cdv, ct, osl, rfl, lk, hcd⟩ := F.ex
  refine R9 lk hcd S len fun A outer s H vs Q E hr hsp => ?_
  obtain ⟨t, h, q⟩ := hbody cdv A outer s H vs Q E hr hsp
  exact ⟨t, h.nox, q⟩
theorem Fun.binds {x qual : Str} {st : Stmt} {f : Addr} {fd : FuncData} {ps : List Str} (F : Fun K x qual st f fd)
    (h : ∀ (kV doc pm : Value) (an : Option Addr) (cdv ct : Value) (us : List Value), us.length = ps.length → bindArgs (PySem.W.fnOf x qual (tE st) (mR st) (aC st) .none kV doc pm an cdv ct) ⟨us, []⟩ = pure (ps.zip us)) : Binds K fd ps [] := by
  obtain ⟨oc, od, kV, doc, pm, an, cdv, ct, osl, rfl, lk, hcd⟩ := F.ex
  exact .all (h kV doc pm an cdv ct)
theorem aZ {x qual : Str} {st : Stmt} {f : Addr} {oc : Value} {od an : Option Addr} {osl : Array (Option Value)} {kV doc pm cdv ct : Value} (l : K.lookup f = some ⟨oc, od, .func (PySem.W.fnOf x qual (tE st) (mR st) (aC st) .none kV doc pm an cdv ct), osl⟩)
    (c : PySem.W.codeIn K cdv qual = true) (k : PySem.W.keepIn K (.ref f) = true) : Fun K x qual st f (PySem.W.fnOf x qual (tE st) (mR st) (aC st) .none kV doc pm an cdv ct) := ⟨⟨oc, od, kV, doc, pm, an, cdv, ct, osl, rfl, l, c⟩, k⟩
end
theorem jL {n : Nat} (h : n ≤ 1000) : n < sizeLine := Nat.lt_of_le_of_lt h (by decide)
section
variable {X : Cx}
theorem pv (i : Nat) {x : Str} {pos : Pos} (hN : X.N[i]? = some x := by rfl) (hv : Vis X.env.scope x := by first | exact Or.inl rfl | exact Or.inr (Or.inl rfl) | exact Or.inr (Or.inr rfl)) (hd : (x == ("__debug__" : Str)) = false := by decide)
    (hcd : (x == ("__classdict__" : Str)) = false := by decide) : PE X (.Name x pos) (PJ i) := Md hN hv hd hcd
end
theorem BA {A B : Prop} (h : B) : if false = true then A else B := by
  rw [if_neg Bool.false_ne_true]
  exact h
theorem Bu {A B : Prop} (h : A) : if true = true then A else B := by
  rw [if_pos rfl]
  exact h
noncomputable def u9 (H H' : Hp) : Prop := ∀ b o, H b = some o → H' b = some o
theorem u9.refl (H : Hp) : u9 H H := fun _ _ h => h
theorem u9.trans {H H1 H2 : Hp} (a : u9 H H1) (b : u9 H1 H2) : u9 H H2 := fun c o h => b c o (a c o h)
theorem u9.free {H H' : Hp} (e : u9 H H') {l : Addr} (h : H' l = Option.none) : H l = Option.none := by
  cases q : H l with
  | none => rfl
  | some o =>
    rw [e l o q] at h
    cases h
end L2
set_option linter.all false
set_option maxRecDepth 100000
set_option maxHeartbeats 4000000
namespace NM
@[irreducible] def Sz (n : Nat) (i : Int) : Prop := i.natAbs < 2 ^ n
theorem Sz.mono {n m : Nat} {i : Int} (h : Sz n i) (l : n ≤ m) : Sz m i := by unfold Sz at *; exact Nat.lt_of_lt_of_le h (Nat.pow_le_pow_right (by decide) l)
theorem Sz.mul {n m : Nat} {i j : Int} (h : Sz n i) (g : Sz m j) : Sz (n + m) (i * j) := by
  unfold Sz at *
  rw [Int.natAbs_mul, Nat.pow_add]
  exact Nat.mul_lt_mul'' h g
theorem Sz.add {n : Nat} {i j : Int} (h : Sz n i) (g : Sz n j) : Sz (n + 1) (i + j) := by
  unfold Sz at *
  have := Int.natAbs_add_le i j
  rw [Nat.pow_succ]
  omega
theorem Sz.neg {n : Nat} {i : Int} (h : Sz n i) : Sz n (-i) := by unfold Sz at *; rw [Int.natAbs_neg]; exact h
theorem Sz.sub {n : Nat} {i j : Int} (h : Sz n i) (g : Sz n j) : Sz (n + 1) (i - j) := by rw [Int.sub_eq_add_neg]; exact h.add g.neg
theorem Sz.le {n : Nat} {i j : Int} (h : Sz n i) (g : j.natAbs ≤ i.natAbs) : Sz n j := by unfold Sz at *; exact Nat.lt_of_le_of_lt g h
theorem Sz.of {n : Nat} {i : Int} (h : i.natAbs < 2 ^ n) : Sz n i := by unfold Sz; exact h
theorem Sz.lt {n : Nat} {i : Int} (h : Sz n i) : i.natAbs < 2 ^ n := by unfold Sz at h; exact h
def g3 (a b c : Int) : Nat := Int.gcd (Int.gcd a b : Nat) c
theorem O7 (a b c : Int) : Int.gcd (Int.gcd c a : Nat) b = g3 a b c := by
  unfold g3
  simp only [Int.gcd, Int.natAbs_natCast]
  rw [Nat.gcd_assoc, Nat.gcd_comm]
theorem MP (a b c : Int) : ((g3 a b c : Nat) : Int) ∣ a ∧ ((g3 a b c : Nat) : Int) ∣ b ∧ ((g3 a b c : Nat) : Int) ∣ c := by
  have h : ((g3 a b c : Nat) : Int) ∣ ((Int.gcd a b : Nat) : Int) := Int.gcd_dvd_left ..
  exact ⟨Int.dvd_trans h (Int.gcd_dvd_left ..), Int.dvd_trans h (Int.gcd_dvd_right ..), Int.gcd_dvd_right ..⟩
theorem RA {a b c : Int} {k : Nat} (h1 : (k : Int) ∣ a) (h2 : (k : Int) ∣ b) (h3 : (k : Int) ∣ c) : k ∣ g3 a b c := by
  unfold g3
  exact Int.dvd_gcd (Int.natCast_dvd_natCast.mpr (Int.dvd_gcd h1 h2)) h3
theorem Ey {a b c : Int} (h : c ≠ 0) : 0 < g3 a b c := by
  unfold g3
  exact Int.gcd_pos_of_ne_zero_right _ h
theorem NA (a b c k : Int) : g3 (a * k) (b * k) (c * k) = g3 a b c * k.natAbs := by
  unfold g3
  simp only [Int.gcd, Int.natAbs_natCast, Int.natAbs_mul, Nat.gcd_mul_right]
theorem Fq (a b c : Int) : g3 a (-b) c = g3 a b c := by
  unfold g3
  rw [Int.gcd_neg]
theorem Nf (a b c : Int) : g3 (-a) b c = g3 a b c := by
  unfold g3
  rw [Int.neg_gcd]
structure N3 where
  a : Int
  b : Int
  c : Int
deriving DecidableEq
theorem N3.ext' {x y : N3} (h1 : x.a = y.a) (h2 : x.b = y.b) (h3 : x.c = y.c) : x = y := by cases x; cases y; simp_all
structure Ok (x : N3) : Prop where
  c : 0 < x.c
  g : g3 x.a x.b x.c = 1
def dv (a b c : Int) : Int := if c < 0 then -(g3 a b c : Nat) else (g3 a b c : Nat)
def low (a b c : Int) : N3 := ⟨a.fdiv (dv a b c), b.fdiv (dv a b c), c.fdiv (dv a b c)⟩
theorem EF {a k q : Int} (hk : k ≠ 0) (h : a = k * q) : a.fdiv k = q := by
  subst h
  exact Int.mul_fdiv_cancel_left q hk
theorem Sn {a b c : Int} (h : c ≠ 0) : dv a b c ≠ 0 := by
  have := Ey (a := a) (b := b) h
  unfold dv
  split <;> omega
theorem Qw (a b c : Int) : dv a b c ∣ a ∧ dv a b c ∣ b ∧ dv a b c ∣ c := by
  obtain ⟨h1, h2, h3⟩ := MP a b c
  unfold dv
  split
  · exact ⟨Int.neg_dvd.mpr h1, Int.neg_dvd.mpr h2, Int.neg_dvd.mpr h3⟩
  · exact ⟨h1, h2, h3⟩
theorem kr (a b : Int) {c : Int} (h : c ≠ 0) : ∃ k : Int, k ≠ 0 ∧ (0 < k ↔ 0 < c) ∧ a = k * (low a b c).a ∧ b = k * (low a b c).b ∧ c = k * (low a b c).c ∧ Ok (low a b c) := by
  have hk := Sn (a := a) (b := b) h
  obtain ⟨⟨p, hp⟩, ⟨q, hq⟩, ⟨r, hr⟩⟩ := Qw a b c
  have ep : (low a b c).a = p := EF hk hp
  have eq : (low a b c).b = q := EF hk hq
  have er : (low a b c).c = r := EF hk hr
  have hg := Ey (a := a) (b := b) h
  have hs : 0 < dv a b c ↔ 0 < c := by unfold dv; split <;> omega
  have hr0 : 0 < r := by
    have hr' : r ≠ 0 := fun z => h (by rw [hr, z, Int.mul_zero])
    rcases Int.lt_trichotomy 0 (dv a b c) with z | z | z
    · have := hs.mp z
      rw [hr] at this
      rw [Int.mul_comm] at this
      exact Int.pos_of_mul_pos_left this z |> fun t => t
    · exact absurd z.symm hk
    · have : c < 0 := by omega
      rcases Int.lt_trichotomy 0 r with w | w | w
      · exact w
      · exact absurd w.symm hr'
      · have := Int.mul_pos_of_neg_of_neg z w
        rw [← hr] at this
        omega
  refine ⟨dv a b c, hk, hs, by rw [ep]; exact hp, by rw [eq]; exact hq, by rw [er]; exact hr, by rw [er]; exact hr0, ?_⟩
  rw [ep, eq, er]
  have e := NA p q r (dv a b c)
  rw [Int.mul_comm p, Int.mul_comm q, Int.mul_comm r, ← hp, ← hq, ← hr] at e
  have e2 : (dv a b c).natAbs = g3 a b c := by unfold dv; split <;> simp
  rw [e2] at e
  have : g3 p q r * g3 a b c = 1 * g3 a b c := by omega
  exact Nat.eq_of_mul_eq_mul_right hg this
theorem iP (a b : Int) {c : Int} (h : c ≠ 0) : Ok (low a b c) := (kr a b h).choose_spec.2.2.2.2.2
theorem Ok.same {x y : N3} (hx : Ok x) (hy : Ok y) (h1 : x.a * y.c = y.a * x.c) (h2 : x.b * y.c = y.b * x.c) : x = y := by
  have key : ∀ {u v : N3}, Ok u → Ok v → u.a * v.c = v.a * u.c → u.b * v.c = v.b * u.c → u.c ∣ v.c := fun {u v} hu hv e1 e2 => by
    have hd : u.c.natAbs ∣ g3 (u.a * v.c) (u.b * v.c) (u.c * v.c) := RA
      (by rw [Int.natAbs_of_nonneg (Int.le_of_lt hu.c), e1]; exact Int.dvd_mul_left _ _) (by rw [Int.natAbs_of_nonneg (Int.le_of_lt hu.c), e2]; exact Int.dvd_mul_left _ _) (by rw [Int.natAbs_of_nonneg (Int.le_of_lt hu.c)]; exact Int.dvd_mul_right _ _)
    rw [NA, hu.g, Nat.one_mul] at hd
    exact Int.natAbs_dvd_natAbs.mp hd
  have hc : x.c = y.c := Int.dvd_antisymm (Int.le_of_lt hx.c) (Int.le_of_lt hy.c) (key hx hy h1 h2) (key hy hx h1.symm h2.symm)
  have hn : y.c ≠ 0 := by have := hy.c; omega
  rw [hc] at h1 h2
  exact N3.ext' (Int.eq_of_mul_eq_mul_right hn h1) (Int.eq_of_mul_eq_mul_right hn h2) hc
theorem Qy {a b c a' b' c' : Int} (h : c ≠ 0) (h' : c' ≠ 0) (e1 : a * c' = a' * c) (e2 : b * c' = b' * c) : low a b c = low a' b' c' := by
  obtain ⟨k, hk, _, p1, p2, p3, o⟩ := kr a b h
  obtain ⟨l, hl, _, q1, q2, q3, o'⟩ := kr a' b' h'
  generalize low a b c = x at *
  generalize low a' b' c' = y at *
  subst p1 p2 p3 q1 q2 q3
  have hkl : k * l ≠ 0 := Int.mul_ne_zero hk hl
  refine o.same o' (Int.eq_of_mul_eq_mul_left hkl (by grind)) (Int.eq_of_mul_eq_mul_left hkl (by grind))
theorem Ok.low {x : N3} (h : Ok x) : low x.a x.b x.c = x := by
  have hc : x.c ≠ 0 := by have := h.c; omega
  obtain ⟨k, hk, _, p1, p2, p3, o⟩ := kr x.a x.b hc
  refine o.same h ?_ ?_
  · exact Int.eq_of_mul_eq_mul_left hk (by grind)
  · exact Int.eq_of_mul_eq_mul_left hk (by grind)
theorem Ok.QB {x : N3} {a b c : Int} (h : Ok x) (hc : c ≠ 0) (e1 : x.a * c = a * x.c) (e2 : x.b * c = b * x.c) : x = NM.low a b c := by
  have q := Qy (by have := h.c; omega) hc e1 e2
  rw [h.low] at q
  exact q
theorem Ll (a b : Int) {c : Int} (h : c ≠ 0) : (low a b c).a.natAbs ≤ a.natAbs ∧ (low a b c).b.natAbs ≤ b.natAbs ∧ (low a b c).c.natAbs ≤ c.natAbs := by
  obtain ⟨k, hk, _, p1, p2, p3, _⟩ := kr a b h
  have hk' : 1 ≤ k.natAbs := by omega
  have le : ∀ {u v : Int}, u = k * v → v.natAbs ≤ u.natAbs := fun {u v} e => by
    rw [e, Int.natAbs_mul]
    exact Nat.le_mul_of_pos_left _ hk'
  exact ⟨le p1, le p2, le p3⟩
structure Bd (n : Nat) (x : N3) : Prop where
  a : Sz n x.a
  b : Sz n x.b
  c : Sz n x.c
theorem Bd.mono {n m : Nat} {x : N3} (h : Bd n x) (l : n ≤ m) : Bd m x := ⟨h.a.mono l, h.b.mono l, h.c.mono l⟩
theorem lR {a b c : Int} {n : Nat} (h : c ≠ 0) (ha : Sz n a) (hb : Sz n b) (hc : Sz n c) : Bd n (low a b c) := by
  obtain ⟨h1, h2, h3⟩ := Ll a b h
  exact ⟨ha.le h1, hb.le h2, hc.le h3⟩
def plus (x y : N3) : N3 := low (x.a * y.c + y.a * x.c) (x.b * y.c + y.b * x.c) (x.c * y.c)
def less (x y : N3) : N3 := low (x.a * y.c - y.a * x.c) (x.b * y.c - y.b * x.c) (x.c * y.c)
def times (d : Int) (x y : N3) : N3 := low (x.a * y.a + d * x.b * y.b) (x.a * y.b + x.b * y.a) (x.c * y.c)
def norm (d : Int) (x : N3) : Int := x.a * x.a - d * x.b * x.b
def ao (d : Int) (x : N3) : N3 := low (x.c * x.a) (-x.c * x.b) (norm d x)
def bH (x : N3) : N3 := ⟨x.a, -x.b, x.c⟩
def minus (x : N3) : N3 := ⟨-x.a, -x.b, x.c⟩
def aw : N3 := ⟨0, 0, 1⟩
def one : N3 := ⟨1, 0, 1⟩
theorem Ok.cn {x : N3} (h : Ok x) : x.c ≠ 0 := by have := h.c; omega
theorem uE {x y : N3} (h : Ok x) (g : Ok y) : x.c * y.c ≠ 0 := Int.mul_ne_zero h.cn g.cn
theorem aD {x : N3} (h : Ok x) : Ok (bH x) := ⟨h.c, by show g3 x.a (-x.b) x.c = 1; rw [Fq]; exact h.g⟩
theorem oN {x : N3} (h : Ok x) : Ok (minus x) := ⟨h.c, by show g3 (-x.a) (-x.b) x.c = 1; rw [Nf, Fq]; exact h.g⟩
theorem bM {x y : N3} (h : Ok x) (g : Ok y) : Ok (plus x y) := iP _ _ (uE h g)
theorem lH {x y : N3} (h : Ok x) (g : Ok y) : Ok (less x y) := iP _ _ (uE h g)
theorem ai {d : Int} {x y : N3} (h : Ok x) (g : Ok y) : Ok (times d x y) := iP _ _ (uE h g)
theorem g0 : Ok aw := ⟨by decide, by decide⟩
theorem kA : Ok one := ⟨by decide, by decide⟩
theorem dM {n : Nat} {x : N3} (h : Bd n x) : Bd n (bH x) := ⟨h.a, h.b.neg, h.c⟩
theorem wj {n : Nat} {x : N3} (h : Bd n x) : Bd n (minus x) := ⟨h.a.neg, h.b.neg, h.c⟩
theorem fj {n m : Nat} {x y : N3} (hx : Ok x) (hy : Ok y) (h : Bd n x) (g : Bd m y) : Bd (n + m + 1) (plus x y) :=
  lR (uE hx hy) ((h.a.mul g.c).add ((g.a.mul h.c).mono (by omega))) ((h.b.mul g.c).add ((g.b.mul h.c).mono (by omega))) ((h.c.mul g.c).mono (by omega))
theorem O4 {n m : Nat} {x y : N3} (hx : Ok x) (hy : Ok y) (h : Bd n x) (g : Bd m y) : Bd (n + m + 1) (less x y) :=
  lR (uE hx hy) ((h.a.mul g.c).sub ((g.a.mul h.c).mono (by omega))) ((h.b.mul g.c).sub ((g.b.mul h.c).mono (by omega))) ((h.c.mul g.c).mono (by omega))
theorem jt {d : Int} (h : 2 ≤ d) (h' : d ≤ 30) : Sz 5 d := by unfold Sz; omega
theorem aT {n m : Nat} {d : Int} {x y : N3} (hd : Sz 5 d) (hx : Ok x) (hy : Ok y) (h : Bd n x) (g : Bd m y) : Bd (n + m + 6) (times d x y) :=
  lR (uE hx hy) (((h.a.mul g.a).mono (by omega)).add (((hd.mul h.b).mul g.b).mono (by omega))) ((((h.a.mul g.b).mono (by omega : n + m ≤ n + m)).add ((h.b.mul g.a).mono (by omega))).mono (by omega)) ((h.c.mul g.c).mono (by omega))
theorem tm {n : Nat} {d : Int} {x : N3} (hd : Sz 5 d) (h : Bd n x) : Sz (2 * n + 6) (norm d x) := by
  have e1 := h.a.mul h.a
  have e2 := (hd.mul h.b).mul h.b
  exact ((e1.mono (by omega : n + n ≤ 5 + n + n)).sub e2).mono (by omega)
theorem bT {n : Nat} {d : Int} {x : N3} (hd : Sz 5 d) (hn : norm d x ≠ 0) (h : Bd n x) : Bd (2 * n + 6) (ao d x) :=
  lR hn ((h.c.mul h.a).mono (by omega)) ((h.c.neg.mul h.b).mono (by omega)) (tm hd h)
noncomputable def aA (d : Int) : Prop := 2 ≤ d ∧ d ≤ 30 ∧ d ≠ 4 ∧ d ≠ 9 ∧ d ≠ 16 ∧ d ≠ 25
theorem Km {d : Nat} (h : ∀ m : Nat, m * m ≠ d) : ∀ {a b : Nat}, a * a = d * (b * b) → b = 0 := fun {a b} e => by
  rcases Nat.eq_zero_or_pos b with hb | hb
  · exact hb
  exfalso
  obtain ⟨g, p, q, hg, hc, rfl, rfl⟩ := Nat.exists_coprime' (m := a) (n := b) (Nat.gcd_pos_of_pos_right _ hb)
  have e2 : (p * p) * (g * g) = (d * (q * q)) * (g * g) := by grind
  have e3 : p * p = d * (q * q) := Nat.eq_of_mul_eq_mul_right (Nat.mul_pos hg hg) e2
  have hq : q ∣ p * p := ⟨d * q, by rw [e3]; grind⟩
  have hq1 : q ∣ p := hc.symm.dvd_of_dvd_mul_left hq
  have hq2 : q = 1 := by
    have := Nat.dvd_gcd hq1 (Nat.dvd_refl q)
    rw [hc] at this
    exact Nat.dvd_one.mp this
  subst hq2
  exact h p (by rw [e3]; simp)
theorem aA.nat {d : Int} (h : aA d) : ∀ m : Nat, m * m ≠ d.toNat := fun m e => by
  obtain ⟨h1, h2, h3, h4, h5, h6⟩ := h
  have hm : m ≤ 5 := by
    rcases Nat.lt_or_ge 5 m with z | z
    · have := Nat.mul_le_mul z z; omega
    · exact z
  have : m = 0 ∨ m = 1 ∨ m = 2 ∨ m = 3 ∨ m = 4 ∨ m = 5 := by omega
  rcases this with rfl | rfl | rfl | rfl | rfl | rfl <;> omega
theorem aA.Iw {d a b : Int} (h : aA d) (e : a * a = d * b * b) : a = 0 ∧ b = 0 := by
  have hd : d = ((d.toNat : Nat) : Int) := by have := h.1; omega
  have e1 : a.natAbs * a.natAbs = d.toNat * (b.natAbs * b.natAbs) := by
    have e2 := congrArg Int.natAbs e
    rw [Int.natAbs_mul, Int.natAbs_mul, Int.natAbs_mul] at e2
    rw [e2, Nat.mul_assoc]
    congr 1
    omega
  have hb := Km h.nat e1
  have hb' : b = 0 := by omega
  subst hb'
  have : a * a = 0 := by rw [e]; simp
  exact ⟨by rcases Int.mul_eq_zero.mp this with z | z <;> exact z, rfl⟩
theorem aA.norm {d : Int} {x : N3} (h : aA d) (ok : Ok x) (hx : x ≠ aw) : norm d x ≠ 0 := fun e => by
  have e' : x.a * x.a = d * x.b * x.b := by unfold NM.norm at e; omega
  obtain ⟨h1, h2⟩ := h.Iw e'
  apply hx
  have hg := ok.g
  rw [h1, h2] at hg
  have hc := ok.c
  have : x.c = 1 := by
    unfold g3 at hg
    simp [Int.gcd] at hg
    omega
  exact N3.ext' h1 h2 this
theorem aB {d : Int} {x : N3} (h : NM.norm d x ≠ 0) : Ok (ao d x) := iP _ _ h
def sg (d a b : Int) : Int :=
  if a = 0 ∧ b = 0 then 0 else if 0 ≤ a ∧ 0 ≤ b then 1 else if a ≤ 0 ∧ b ≤ 0 then -1 else if (if d * b * b < a * a then a else b) > 0 then 1 else -1
theorem Ju {u v : Int} (hu : 0 ≤ u) (h : u * u ≤ v * v) (hv : 0 ≤ v) : u ≤ v := by
  rcases Int.lt_or_le v u with z | z
  · have := Int.mul_lt_mul_of_pos_left z (show 0 < u by omega)
    have := Int.mul_le_mul_of_nonneg_right (Int.le_of_lt z) hv
    omega
  · exact z
theorem sq_nonneg (u : Int) : 0 ≤ u * u := by
  rcases Int.le_total 0 u with h | h
  · exact Int.mul_nonneg h h
  · exact Int.mul_nonneg_of_nonpos_of_nonpos h h
theorem sq_pos {u : Int} (h : u ≠ 0) : 0 < u * u := by
  have := sq_nonneg u
  have : u * u ≠ 0 := Int.mul_ne_zero h h
  omega
noncomputable def P (d a b : Int) : Prop := (0 ≤ a ∧ 0 ≤ b ∧ ¬ (a = 0 ∧ b = 0)) ∨ (0 < a ∧ b < 0 ∧ d * b * b < a * a) ∨ (a < 0 ∧ 0 < b ∧ a * a < d * b * b)
theorem jH {d a b : Int} (h : aA d) : sg d a b = 1 ↔ P d a b := by
  unfold sg P
  have key : a * a = d * b * b → a = 0 ∧ b = 0 := h.Iw
  by_cases c1 : d * b * b < a * a
  · simp only [c1, if_true]; split <;> (try split) <;> (try split) <;> (try split) <;> simp <;> omega
  · simp only [c1, if_false]; split <;> (try split) <;> (try split) <;> (try split) <;> simp <;> omega
theorem C4 {d a b : Int} (h : aA d) : sg d (-a) (-b) = - sg d a b := by
  unfold sg
  have key : a * a = d * b * b → a = 0 ∧ b = 0 := h.Iw
  have e1 : d * -b * -b = d * b * b := by grind
  have e2 : -a * -a = a * a := by grind
  rw [e1, e2]
  by_cases c1 : d * b * b < a * a
  · simp only [c1, if_true]; split <;> split <;> (try split) <;> (try split) <;> (try split) <;> (try split) <;> (try split) <;> (try split) <;> omega
  · simp only [c1, if_false]; split <;> split <;> (try split) <;> (try split) <;> (try split) <;> (try split) <;> (try split) <;> (try split) <;> omega
theorem fk {d a b : Int} : sg d a b = 0 ↔ a = 0 ∧ b = 0 := by
  unfold sg; split <;> (try split) <;> (try split) <;> (try split) <;> omega
theorem jv (d a b : Int) : sg d a b = 0 ∨ sg d a b = 1 ∨ sg d a b = -1 := by
  unfold sg; split <;> (try split) <;> (try split) <;> (try split) <;> omega
theorem SD {d a b : Int} (h : aA d) : (a = 0 ∧ b = 0) ∨ P d a b ∨ P d (-a) (-b) := by
  rcases jv d a b with e | e | e
  · exact .inl (fk.mp e)
  · exact .inr (.inl ((jH h).mp e))
  · exact .inr (.inr ((jH h).mp (by rw [C4 h, e]; rfl)))
theorem ni {d a b : Int} (h : aA d) (n : d * b * b < a * a) : P d a b ↔ 0 < a := by
  unfold P
  have := sq_nonneg b
  have h0 : 0 ≤ d * b * b := by rw [Int.mul_assoc]; exact Int.mul_nonneg (by have := h.1; omega) this
  have ha : a ≠ 0 := fun z => by subst z; simp at n; omega
  omega
theorem ko {d a b : Int} (h : aA d) (n : a * a < d * b * b) : P d a b ↔ 0 < b := by
  unfold P
  have h0 := sq_nonneg a
  have hb : b ≠ 0 := fun z => by subst z; simp at n; omega
  omega
theorem wC {u v : Int} (h : v * v < u * u) : 0 < u + v ↔ 0 < u := by
  have hu : u ≠ 0 := fun z => by subst z; have := sq_nonneg v; simp at h; omega
  have l : v.natAbs < u.natAbs := by
    rcases Nat.lt_or_ge v.natAbs u.natAbs with z | z
    · exact z
    · have := Nat.mul_le_mul z z
      have e1 : ((u.natAbs * u.natAbs : Nat) : Int) = u * u := Int.natAbs_mul_self
      have e2 : ((v.natAbs * v.natAbs : Nat) : Int) = v * v := Int.natAbs_mul_self
      omega
  omega
theorem mul_pos_iff {u v : Int} (hu : u ≠ 0) (hv : v ≠ 0) : 0 < u * v ↔ (0 < u ↔ 0 < v) := by
  rcases Int.lt_or_gt_of_ne hu with h | h <;> rcases Int.lt_or_gt_of_ne hv with g | g
  · have := Int.mul_pos_of_neg_of_neg h g; omega
  · have := Int.mul_neg_of_neg_of_pos h g; omega
  · have := Int.mul_neg_of_pos_of_neg h g; omega
  · have := Int.mul_pos h g; omega
theorem zq {u v s t : Int} (hu : 0 ≤ u) (h : u < v) (hs : 0 ≤ s) (g : s < t) : u * s < v * t := by
  have e1 : u * s ≤ v * s := Int.mul_le_mul_of_nonneg_right (Int.le_of_lt h) hs
  have e2 : v * s < v * t := Int.mul_lt_mul_of_pos_left g (by omega)
  omega
theorem dsq {d b : Int} (hd : 0 < d) : 0 ≤ d * b * b := by rw [Int.mul_assoc]; exact Int.mul_nonneg (Int.le_of_lt hd) (sq_nonneg b)
theorem R4 {d a b p q : Int} (h : aA d) (h1 : ¬ (a = 0 ∧ b = 0)) (h2 : ¬ (p = 0 ∧ q = 0)) : P d (a * p + d * b * q) (a * q + b * p) ↔ (P d a b ↔ P d p q) := by
  have hd : 0 < d := by have := h.1; omega
  have n1 : a * a ≠ d * b * b := fun e => h1 (h.Iw e)
  have n2 : p * p ≠ d * q * q := fun e => h2 (h.Iw e)
  have pz : ∀ {u v : Int}, d * v * v < u * u → u ≠ 0 := fun {u v} e z => by subst z; have := dsq (b := v) hd; simp at e; omega
  have qz : ∀ {u v : Int}, u * u < d * v * v → v ≠ 0 := fun {u v} e z => by subst z; have := sq_nonneg u; simp at e; omega
  have id1 : (a * p + d * b * q) * (a * p + d * b * q) - d * (a * q + b * p) * (a * q + b * p) = (a * a - d * b * b) * (p * p - d * q * q) := by grind
  rcases Int.lt_or_gt_of_ne n1 with c1 | c1 <;> rcases Int.lt_or_gt_of_ne n2 with c2 | c2
  · have pp := Int.mul_pos_of_neg_of_neg (show a * a - d * b * b < 0 by omega) (show p * p - d * q * q < 0 by omega)
    rw [ni h (by omega), ko h c1, ko h c2]
    have sq : (a * p) * (a * p) < (d * b * q) * (d * b * q) := by
      have e2 := zq (sq_nonneg a) c1 (sq_nonneg p) c2
      grind
    rw [Int.add_comm, wC sq, Int.mul_assoc, mul_pos_iff (by omega) (Int.mul_ne_zero (qz c1) (qz c2)), mul_pos_iff (qz c1) (qz c2)]
    omega
  · have pp := Int.mul_neg_of_neg_of_pos (show a * a - d * b * b < 0 by omega) (show 0 < p * p - d * q * q by omega)
    rw [ko h (by omega), ko h c1, ni h c2]
    have sq : (a * q) * (a * q) < (b * p) * (b * p) := by
      have e2 := zq (sq_nonneg a) c1 (dsq (b := q) hd) c2
      have e3 : d * ((a * q) * (a * q)) < d * ((b * p) * (b * p)) := by grind
      exact Int.lt_of_mul_lt_mul_left e3 (Int.le_of_lt hd)
    rw [Int.add_comm, wC sq, mul_pos_iff (qz c1) (pz c2)]
  · have pp := Int.mul_neg_of_pos_of_neg (show 0 < a * a - d * b * b by omega) (show p * p - d * q * q < 0 by omega)
    rw [ko h (by omega), ni h c1, ko h c2]
    have sq : (b * p) * (b * p) < (a * q) * (a * q) := by
      have e2 := zq (dsq (b := b) hd) c1 (sq_nonneg p) c2
      have e3 : d * ((b * p) * (b * p)) < d * ((a * q) * (a * q)) := by grind
      exact Int.lt_of_mul_lt_mul_left e3 (Int.le_of_lt hd)
    rw [wC sq, mul_pos_iff (pz c1) (qz c2)]
  · have pp := Int.mul_pos (show 0 < a * a - d * b * b by omega) (show 0 < p * p - d * q * q by omega)
    rw [ni h (by omega), ni h c1, ni h c2]
    have sq : (d * b * q) * (d * b * q) < (a * p) * (a * p) := by
      have e2 := zq (dsq (b := b) hd) c1 (dsq (b := q) hd) c2
      grind
    rw [wC sq, mul_pos_iff (pz c1) (pz c2)]
theorem JR {d A x B y : Int} (hd : 0 < d) (hA : 0 ≤ A) (hx : 0 ≤ x) (hB : 0 ≤ B) (hy : 0 ≤ y) (h1 : A * A ≤ d * B * B) (h2 : x * x ≤ d * y * y) : A * x ≤ d * (B * y) := by
  refine Ju (Int.mul_nonneg hA hx) ?_ (Int.mul_nonneg (Int.le_of_lt hd) (Int.mul_nonneg hB hy))
  have := Int.mul_le_mul h1 h2 (sq_nonneg x) (dsq hd)
  grind
theorem T1 {d A x B y : Int} (hd : 0 < d) (hA : 0 ≤ A) (hx : 0 ≤ x) (hB : 0 ≤ B) (hy : 0 ≤ y) (h1 : A * A < d * B * B) (h2 : x * x < d * y * y) : (A + x) * (A + x) < d * (B + y) * (B + y) := by
  have := JR hd hA hx hB hy (Int.le_of_lt h1) (Int.le_of_lt h2)
  grind
theorem T2 {d A x B y : Int} (hd : 0 < d) (hA : 0 ≤ A) (hx : 0 ≤ x) (hB : 0 ≤ B) (hy : 0 ≤ y) (h1 : d * B * B < A * A) (h2 : d * y * y < x * x) : d * (B + y) * (B + y) < (A + x) * (A + x) := by
  have : d * (B * y) ≤ A * x := by
    refine Ju (Int.mul_nonneg (Int.le_of_lt hd) (Int.mul_nonneg hB hy)) ?_ (Int.mul_nonneg hA hx)
    have := zq (dsq (b := B) hd) h1 (dsq (b := y) hd) h2
    grind
  grind
theorem Z1 {d x1 y1 x2 y2 : Int} (hd : 0 < d) (h1 : x1 * x1 < d * y1 * y1) (h2 : d * y2 * y2 < x2 * x2) (a1 : 0 ≤ x2) (a2 : x2 ≤ x1) (a3 : 0 ≤ y1) (a4 : y1 ≤ y2) : False := by
  have e1 := Int.mul_le_mul a2 a2 a1 (Int.le_trans a1 a2)
  have e2 := Int.mul_le_mul_of_nonneg_left (Int.mul_le_mul a4 a4 a3 (Int.le_trans a3 a4)) (Int.le_of_lt hd)
  grind
theorem Z2 {d x1 y1 x2 y2 x3 y3 : Int} (hd : 0 < d) (h1 : x1 * x1 < d * y1 * y1) (h2 : d * y2 * y2 < x2 * x2) (h3 : d * y3 * y3 < x3 * x3) (a1 : 0 ≤ x2) (a2 : 0 ≤ y2) (a3 : 0 ≤ x3) (a4 : 0 ≤ y3) (e1 : x1 = x2 + x3) (e2 : y1 = y2 + y3) : False := by
  subst e1 e2
  have := T2 hd a1 a3 a2 a4 h2 h3
  omega
theorem Z3 {d x1 y1 x2 y2 x3 y3 : Int} (hd : 0 < d) (h1 : d * y1 * y1 < x1 * x1) (h2 : x2 * x2 < d * y2 * y2) (h3 : x3 * x3 < d * y3 * y3) (a1 : 0 ≤ x2) (a2 : 0 ≤ y2) (a3 : 0 ≤ x3) (a4 : 0 ≤ y3) (e1 : x1 = x2 + x3) (e2 : y1 = y2 + y3) : False := by
  subst e1 e2
  have := T1 hd a1 a3 a2 a4 h2 h3
  omega
theorem SR {d a b p q u v : Int} (h : aA d) (h1 : P d a b) (h2 : P d p q) (h3 : P d u v) (e1 : a + p + u = 0) (e2 : b + q + v = 0) : False := by
  have hd : 0 < d := by have := h.1; omega
  unfold P at h1 h2 h3
  have x1 : ∀ {u c : Int}, u * u < c → -u * -u < c := fun {u c} e => by grind
  have x2 : ∀ {u c : Int}, c < u * u → c < -u * -u := fun {u c} e => by grind
  have x3 : ∀ {u c : Int}, c < d * u * u → c < d * -u * -u := fun {u c} e => by grind
  have x4 : ∀ {u c : Int}, d * u * u < c → d * -u * -u < c := fun {u c} e => by grind
  rcases h1 with ⟨u1, u2, u3⟩ | ⟨u1, u2, u3⟩ | ⟨u1, u2, u3⟩ <;> rcases h2 with ⟨v1, v2, v3⟩ | ⟨v1, v2, v3⟩ | ⟨v1, v2, v3⟩ <;> rcases h3 with ⟨w1, w2, w3⟩ | ⟨w1, w2, w3⟩ | ⟨w1, w2, w3⟩ <;> (try omega)
  all_goals first
    | exact Z1 hd (x1 u3) (x4 v3) (by omega) (by omega) (by omega) (by omega)
    | exact Z1 hd (x1 v3) (x4 u3) (by omega) (by omega) (by omega) (by omega)
    | exact Z1 hd (x1 u3) (x4 w3) (by omega) (by omega) (by omega) (by omega)
    | exact Z1 hd (x1 w3) (x4 u3) (by omega) (by omega) (by omega) (by omega)
    | exact Z1 hd (x1 v3) (x4 w3) (by omega) (by omega) (by omega) (by omega)
    | exact Z1 hd (x1 w3) (x4 v3) (by omega) (by omega) (by omega) (by omega)
    | exact Z2 hd (x1 u3) (x4 v3) (x4 w3) (by omega) (by omega) (by omega) (by omega) (by omega) (by omega)
    | exact Z2 hd (x1 v3) (x4 u3) (x4 w3) (by omega) (by omega) (by omega) (by omega) (by omega) (by omega)
    | exact Z2 hd (x1 w3) (x4 u3) (x4 v3) (by omega) (by omega) (by omega) (by omega) (by omega) (by omega)
    | exact Z3 hd (x4 u3) (x1 v3) (x1 w3) (by omega) (by omega) (by omega) (by omega) (by omega) (by omega)
    | exact Z3 hd (x4 v3) (x1 u3) (x1 w3) (by omega) (by omega) (by omega) (by omega) (by omega) (by omega)
    | exact Z3 hd (x4 w3) (x1 u3) (x1 v3) (by omega) (by omega) (by omega) (by omega) (by omega) (by omega)
theorem Td {d a b p q : Int} (h : aA d) (h1 : P d a b) (h2 : P d p q) : P d (a + p) (b + q) := by
  rcases SD (a := a + p) (b := b + q) h with ⟨e1, e2⟩ | e | e
  · have ea : p = -a := by omega
    have eb : q = -b := by omega
    subst ea eb
    have s1 := (jH h).mpr h1
    have s2 := (jH h).mpr h2
    rw [C4 h, s1] at s2
    omega
  · exact e
  · exact (SR h h1 h2 e (by omega) (by omega)).elim
theorem ED {d a b p q : Int} (h : aA d) : sg d (a * p + d * b * q) (a * q + b * p) = sg d a b * sg d p q := by
  by_cases h1 : a = 0 ∧ b = 0
  · obtain ⟨rfl, rfl⟩ := h1
    have e : sg d (0 : Int) 0 = 0 := fk.mpr ⟨rfl, rfl⟩
    rw [e]; simp [fk]
  by_cases h2 : p = 0 ∧ q = 0
  · obtain ⟨rfl, rfl⟩ := h2
    have e : sg d (0 : Int) 0 = 0 := fk.mpr ⟨rfl, rfl⟩
    rw [e]; simp [fk]
  have k := R4 h h1 h2
  have h3 : ¬ (a * p + d * b * q = 0 ∧ a * q + b * p = 0) := fun ⟨e1, e2⟩ => by
    have id1 : (a * p + d * b * q) * (a * p + d * b * q) - d * (a * q + b * p) * (a * q + b * p) = (a * a - d * b * b) * (p * p - d * q * q) := by grind
    rw [e1, e2] at id1
    simp only [Int.mul_zero, Int.sub_self] at id1
    rcases Int.mul_eq_zero.mp id1.symm with z | z
    · exact h1 (h.Iw (by omega))
    · exact h2 (h.Iw (by omega))
  rw [← jH h, ← jH h, ← jH h] at k
  have t1 := jv d a b
  have t2 := jv d p q
  have t3 := jv d (a * p + d * b * q) (a * q + b * p)
  have z1 : sg d a b ≠ 0 := fun z => h1 (fk.mp z)
  have z2 : sg d p q ≠ 0 := fun z => h2 (fk.mp z)
  have z3 : sg d (a * p + d * b * q) (a * q + b * p) ≠ 0 := fun z => h3 (fk.mp z)
  rcases t1 with e | e | e <;> rcases t2 with f | f | f <;> rcases t3 with g | g | g <;> simp_all
theorem nX {d a b k : Int} (h : aA d) (hk : 0 < k) : sg d (k * a) (k * b) = sg d a b := by
  have e := ED (a := k) (b := 0) (p := a) (q := b) h
  have e1 : sg d k 0 = 1 := by unfold sg; rw [if_neg (by omega), if_pos (by omega)]
  rw [e1] at e
  simpa using e
end NM
set_option linter.all false
set_option maxRecDepth 100000
set_option maxHeartbeats 4000000
namespace NM
structure Rep (x : N3) (A B C : Int) : Prop where
  c : C ≠ 0
  a : x.a * C = A * x.c
  b : x.b * C = B * x.c
section
variable {x y : N3} {A B C A' B' C' d : Int}
theorem aq (h : Ok x) : Rep x x.a x.b x.c := ⟨h.cn, rfl, rfl⟩
theorem jh {a b c : Int} (h : c ≠ 0) : Rep (low a b c) a b c := by
  obtain ⟨k, hk, _, p1, p2, p3, _⟩ := kr a b h
  generalize low a b c = z at *
  exact ⟨h, by grind, by grind⟩
theorem Rep.eq (ox : Ok x) (oy : Ok y) (h : Rep x A B C) (g : Rep y A' B' C') (e1 : A * C' = A' * C) (e2 : B * C' = B' * C) : x = y := by
  have hc : C * C' ≠ 0 := Int.mul_ne_zero h.c g.c
  obtain ⟨_, h1, h2⟩ := h
  obtain ⟨_, g1, g2⟩ := g
  exact ox.same oy (Int.eq_of_mul_eq_mul_right hc (by grind)) (Int.eq_of_mul_eq_mul_right hc (by grind))
theorem Rep.bH (h : Rep x A B C) : Rep (bH x) A (-B) C := ⟨h.c, h.a, by show -x.b * C = -B * x.c; have := h.b; grind⟩
theorem Rep.minus (h : Rep x A B C) : Rep (minus x) (-A) (-B) C := ⟨h.c, by show -x.a * C = -A * x.c; have := h.a; grind, by show -x.b * C = -B * x.c; have := h.b; grind⟩
theorem Rep.plus (ox : Ok x) (oy : Ok y) (h : Rep x A B C) (g : Rep y A' B' C') : Rep (plus x y) (A * C' + A' * C) (B * C' + B' * C) (C * C') := by
  have hc := uE ox oy
  obtain ⟨_, q1, q2⟩ := jh (a := x.a * y.c + y.a * x.c) (b := x.b * y.c + y.b * x.c) hc
  obtain ⟨hc1, h1, h2⟩ := h
  obtain ⟨hc2, g1, g2⟩ := g
  change (NM.plus x y).a * (x.c * y.c) = _ * (NM.plus x y).c at q1
  change (NM.plus x y).b * (x.c * y.c) = _ * (NM.plus x y).c at q2
  generalize NM.plus x y = z at *
  exact ⟨Int.mul_ne_zero hc1 hc2, Int.eq_of_mul_eq_mul_right hc (by grind), Int.eq_of_mul_eq_mul_right hc (by grind)⟩
theorem Rep.less (ox : Ok x) (oy : Ok y) (h : Rep x A B C) (g : Rep y A' B' C') : Rep (less x y) (A * C' - A' * C) (B * C' - B' * C) (C * C') := by
  have hc := uE ox oy
  obtain ⟨_, q1, q2⟩ := jh (a := x.a * y.c - y.a * x.c) (b := x.b * y.c - y.b * x.c) hc
  obtain ⟨hc1, h1, h2⟩ := h
  obtain ⟨hc2, g1, g2⟩ := g
  change (NM.less x y).a * (x.c * y.c) = _ * (NM.less x y).c at q1
  change (NM.less x y).b * (x.c * y.c) = _ * (NM.less x y).c at q2
  generalize NM.less x y = z at *
  exact ⟨Int.mul_ne_zero hc1 hc2, Int.eq_of_mul_eq_mul_right hc (by grind), Int.eq_of_mul_eq_mul_right hc (by grind)⟩
theorem Rep.times (ox : Ok x) (oy : Ok y) (h : Rep x A B C) (g : Rep y A' B' C') : Rep (times d x y) (A * A' + d * B * B') (A * B' + B * A') (C * C') := by
  have hc := uE ox oy
  obtain ⟨_, q1, q2⟩ := jh (a := x.a * y.a + d * x.b * y.b) (b := x.a * y.b + x.b * y.a) hc
  obtain ⟨hc1, h1, h2⟩ := h
  obtain ⟨hc2, g1, g2⟩ := g
  change (NM.times d x y).a * (x.c * y.c) = _ * (NM.times d x y).c at q1
  change (NM.times d x y).b * (x.c * y.c) = _ * (NM.times d x y).c at q2
  generalize NM.times d x y = z at *
  exact ⟨Int.mul_ne_zero hc1 hc2, Int.eq_of_mul_eq_mul_right hc (by grind), Int.eq_of_mul_eq_mul_right hc (by grind)⟩
theorem Rep.norm (h : Rep x A B C) : NM.norm d x * (C * C) = (A * A - d * B * B) * (x.c * x.c) := by
  obtain ⟨_, h1, h2⟩ := h
  unfold NM.norm
  have e1 : x.a * x.a * (C * C) = A * A * (x.c * x.c) := by
    have : (x.a * C) * (x.a * C) = (A * x.c) * (A * x.c) := by rw [h1]
    grind
  have e2 : x.b * x.b * (C * C) = B * B * (x.c * x.c) := by
    have : (x.b * C) * (x.b * C) = (B * x.c) * (B * x.c) := by rw [h2]
    grind
  grind
theorem Rep.ao (ox : Ok x) (hn : NM.norm d x ≠ 0) (h : Rep x A B C) : Rep (ao d x) (C * A) (-C * B) (A * A - d * B * B) := by
  have hN := h.norm (d := d)
  have hcc : x.c * x.c ≠ 0 := Int.mul_ne_zero ox.cn ox.cn
  have hN0 : A * A - d * B * B ≠ 0 := fun z => by
    rw [z, Int.zero_mul] at hN
    rcases Int.mul_eq_zero.mp hN with w | w
    · exact hn w
    · rcases Int.mul_eq_zero.mp w with w | w <;> exact h.c w
  obtain ⟨_, q1, q2⟩ := jh (a := x.c * x.a) (b := -x.c * x.b) hn
  change (NM.ao d x).a * NM.norm d x = _ * (NM.ao d x).c at q1
  change (NM.ao d x).b * NM.norm d x = _ * (NM.ao d x).c at q2
  obtain ⟨hc1, h1, h2⟩ := h
  generalize NM.ao d x = z at *
  generalize NM.norm d x = n at *
  generalize A * A - d * B * B = m at *
  refine ⟨hN0, ?_, ?_⟩
  · have e : z.a * m * (x.c * x.c) = C * A * z.c * (x.c * x.c) := by grind
    exact Int.eq_of_mul_eq_mul_right hcc e
  · have e : z.b * m * (x.c * x.c) = -C * B * z.c * (x.c * x.c) := by grind
    exact Int.eq_of_mul_eq_mul_right hcc e
theorem Rep.sg (hd : aA d) (ox : Ok x) (h : Rep x A B C) (hC : 0 < C) : sg d x.a x.b = NM.sg d A B := by
  have e1 := nX (a := x.a) (b := x.b) hd hC
  have e2 := nX (a := A) (b := B) hd ox.c
  rw [show C * x.a = x.c * A by have := h.a; grind, show C * x.b = x.c * B by have := h.b; grind] at e1
  rw [← e1, e2]
end
end NM
set_option linter.all false
set_option maxRecDepth 100000
set_option maxHeartbeats 4000000
namespace NM
def lean (d : Int) (x : N3) : N3 := times d (bH x) (ao d x)
def bA (d : Int) (x : N3) : N3 := times d (times d (plus x (bH x)) (plus x (bH x))) (ao d (times d x (bH x)))
section
variable {d : Int} {x y z : N3}
theorem Rep.div {A B C k : Int} (hk : k ≠ 0) (h : Rep x (k * A) (k * B) (k * C)) : Rep x A B C := by
  obtain ⟨c, e1, e2⟩ := h
  exact ⟨fun z => c (by rw [z, Int.mul_zero]), Int.eq_of_mul_eq_mul_left hk (by grind), Int.eq_of_mul_eq_mul_left hk (by grind)⟩
theorem JW {a b c : Int} (h : aA d) (hc : 0 < c) : sg d (low a b c).a (low a b c).b = sg d a b := (jh (show c ≠ 0 by omega)).sg h (iP _ _ (by omega)) hc
theorem cb (h : aA d) (ox : Ok x) (oy : Ok y) : sg d (times d x y).a (times d x y).b = sg d x.a x.b * sg d y.a y.b := by
  unfold times
  rw [JW h (Int.mul_pos ox.c oy.c), ED h]
theorem y6 : sg d one.a one.b = 1 := by
  unfold one sg
  rw [if_neg (by simp), if_pos (by simp)]
theorem aK (h : aA d) (ox : Ok x) (hx : sg d x.a x.b = 1) : norm d x ≠ 0 := h.norm ox (fun e => by subst e; have : sg d aw.a aw.b = 0 := fk.mpr ⟨rfl, rfl⟩; omega)
theorem gB (ox : Ok x) (hn : norm d x ≠ 0) : times d x (ao d x) = one := by
  have oc := aB hn
  exact ((aq ox).times ox oc ((aq ox).ao ox hn)).eq (ai ox oc) kA (aq kA) (by simp only [one]; grind) (by simp only [one]; grind)
theorem dX (h : aA d) (ox : Ok x) (hx : sg d x.a x.b = 1) : sg d (ao d x).a (ao d x).b = 1 := by
  have hn := aK h ox hx
  have e := cb h ox (aB hn)
  rw [gB ox hn, y6, hx] at e
  omega
theorem Cs : norm d (bH y) = norm d y := by unfold norm bH; grind
theorem oZ (h : aA d) (ox : Ok x) (hn : norm d x ≠ 0) : norm d (times d x (bH x)) ≠ 0 := by
  refine h.norm (ai ox (aD ox)) (fun e => ?_)
  have r := (aq ox).times (d := d) ox (aD ox) (aq ox).bH
  rw [e] at r
  have := r.a
  simp only [aw, Int.zero_mul, Int.mul_one] at this
  apply hn
  unfold norm
  grind
theorem eV (h : aA d) (hn : norm d x ≠ 0) (ox : Ok x) : Ok (bA d x) := by
  have op := bM ox (aD ox)
  exact ai (ai op op) (aB (oZ h ox hn))
theorem C0 (h : aA d) (ox : Ok x) (hx : sg d x.a x.b = 1) : sg d x.a (-x.b) = sg d (norm d x) 0 := by
  have e := ED (a := x.a) (b := x.b) (p := x.a) (q := -x.b) h
  rw [hx, Int.one_mul] at e
  rw [← e]
  unfold norm
  congr 1 <;> grind
theorem kG {n : Int} : sg d n 0 = if n = 0 then 0 else if 0 < n then 1 else -1 := by
  unfold sg
  by_cases h : n = 0
  · simp [h]
  · rcases Int.lt_or_gt_of_ne h with z | z
    · rw [if_neg (by omega), if_neg (by omega), if_pos (by omega), if_neg h, if_neg (by omega)]
    · rw [if_neg (by omega), if_pos (by omega), if_neg h, if_pos (by omega)]
theorem EB {n : Int} : sg d 0 n = if n = 0 then 0 else if 0 < n then 1 else -1 := by
  unfold sg
  by_cases h : n = 0
  · simp [h]
  · rcases Int.lt_or_gt_of_ne h with z | z
    · rw [if_neg (by omega), if_neg (by omega), if_pos (by omega), if_neg h, if_neg (by omega)]
    · rw [if_neg (by omega), if_pos (by omega), if_neg h, if_pos (by omega)]
def W (x y : N3) : Int := x.b * y.a - x.a * y.b
def Pd (d : Int) (x y : N3) : Int := sg d (x.a * y.c - y.a * x.c) (x.b * y.c - y.b * x.c)
theorem Rep.congr {A B C A' B' C' : Int} (h : Rep x A B C) (e1 : A = A') (e2 : B = B') (e3 : C = C') : Rep x A' B' C' := by subst e1 e2 e3; exact h
theorem Rep.neg {A B C : Int} (h : Rep x A B C) : Rep x (-A) (-B) (-C) := ⟨by have := h.c; omega, by rw [Int.mul_neg, Int.neg_mul, h.a], by rw [Int.mul_neg, Int.neg_mul, h.b]⟩
theorem lf1 (a c : Int) : a * c + a * c = c * (2 * a) := by grind
theorem lf2 (b c : Int) : b * c + -b * c = c * 0 := by grind
theorem lf3 (a b d : Int) : a * a + d * b * -b = a * a - d * b * b := by grind
theorem lf4 (a b : Int) : a * -b + b * a = 0 := by grind
theorem lf5 (a c n d : Int) : (2 * a * (2 * a) + d * 0 * 0) * (c * c * n) + d * (2 * a * 0 + 0 * (2 * a)) * (-(c * c) * 0) = c * c * n * (4 * (a * a)) := by grind
theorem lf6 (a c n d : Int) : (2 * a * (2 * a) + d * 0 * 0) * (-(c * c) * 0) + (2 * a * 0 + 0 * (2 * a)) * (c * c * n) = c * c * n * 0 := by grind
theorem lf7 (c n d : Int) : c * c * (n * n - d * 0 * 0) = c * c * n * n := by grind
structure OB (z x y : N3) : Prop where
  ex : ∃ p q C : Int, 0 < p ∧ 0 < q ∧ 0 < C ∧ Rep z (p * x.a + q * y.a) (p * x.b + q * y.b) C
theorem KP (ox : Ok x) (oy : Ok y) : OB (plus x y) x y :=
  ⟨y.c, x.c, x.c * y.c, oy.c, ox.c, Int.mul_pos ox.c oy.c, by
    have r := (aq ox).plus ox oy (aq oy)
    exact ⟨r.c, by have := r.a; grind, by have := r.b; grind⟩⟩
theorem OB.pos (hd : aA d) (oz : Ok z) (h : OB z x y) (hx : sg d x.a x.b = 1) (hy : sg d y.a y.b = 1) : sg d z.a z.b = 1 := by
  obtain ⟨p, q, C, hp, hq, hC, r⟩ := h.ex
  rw [r.sg hd oz hC, jH hd]
  refine Td hd ?_ ?_
  · rw [← jH hd, nX hd hp]; exact hx
  · rw [← jH hd, nX hd hq]; exact hy
theorem oW (hd : aA d) (ox : Ok x) (hn : norm d x ≠ 0) : Rep (bA d x) (4 * (x.a * x.a)) 0 (norm d x) := by
  have op := bM ox (aD ox)
  have ot := ai (d := d) ox (aD ox)
  have np := oZ hd ox hn
  have r1 := (aq ox).plus ox (aD ox) (aq ox).bH
  have r1' : Rep (plus x (bH x)) (2 * x.a) 0 x.c := Rep.div (k := x.c) ox.cn (r1.congr (lf1 ..) (lf2 ..) rfl)
  have r2 := (aq ox).times (d := d) ox (aD ox) (aq ox).bH
  have r2' : Rep (times d x (bH x)) (norm d x) 0 (x.c * x.c) := r2.congr (lf3 ..) (lf4 ..) rfl
  have r3 := (r1'.times (d := d) op op r1').times (d := d) (ai op op) (aB np) (r2'.ao ot np)
  have hk : x.c * x.c * norm d x ≠ 0 := Int.mul_ne_zero (uE ox ox) hn
  exact Rep.div hk (r3.congr (lf5 ..) (lf6 ..) (lf7 ..))
end
end NM
set_option Elab.async false
set_option linter.all false
set_option maxRecDepth 100000
set_option maxHeartbeats 4000000
namespace L2.DL
open PySem PySem.Spec PyProof.Rows
abbrev Mu := Addr → Option (List PyData)
abbrev PQ := PySem.W.Frag → V → Mu → Hp → Prop
inductive D where
  | v (x : PyData)
  | m (a : Addr)
  | s (ns : List Int)
  /-- an object that is handed on -/
  | o (a : Addr)
  /-- a thing of which something is known that stays -/
  | q (P : PQ)
abbrev Rho := List (Option D)
def bD (μ : Mu) (a : Addr) (ds : List PyData) : Mu := fun b => if b = a then some ds else μ b
theorem bL {μ : Mu} {a : Addr} {ds} : bD μ a ds a = some ds := by unfold bD; rw [if_pos rfl]
theorem bV {μ : Mu} {a b : Addr} {ds} (h : b ≠ a) : bD μ a ds b = μ b := by unfold bD; rw [if_neg h]
theorem xg {μ : Mu} {a : Addr} {ds es} : bD (bD μ a ds) a es = bD μ a es := by
  funext b; unfold bD; split <;> rfl
mutual
inductive Rp (K : PySem.W.Frag) (μ : Mu) (H : Hp) : PyData → V → Prop
  | none : Rp K μ H .none .non
  | bool (b : Bool) : Rp K μ H (.bool b) (.bl b)
  | int (i : Int) : Rp K μ H (.int i) (.int i)
  | str (x : Str) : Rp K μ H (.str x) (.str x)
  | list {a : Addr} {xs : List V} {ds : List PyData} : H a = some (.lst xs) → μ a = Option.none → RpL K μ H ds xs → Rp K μ H (.list ds) (.ref a)
  | tuple {a : Addr} {xs : List V} {ds : List PyData} : SqT K H a xs → RpL K μ H ds xs → Rp K μ H (.tuple ds) (.ref a)
inductive RpL (K : PySem.W.Frag) (μ : Mu) (H : Hp) : List PyData → List V → Prop
  | nil : RpL K μ H [] []
  | cons {d : PyData} {v : V} {ds : List PyData} {vs : List V} : Rp K μ H d v → RpL K μ H ds vs → RpL K μ H (d :: ds) (v :: vs)
end
def NT : HO → Prop
  | .tbl _ => False
  | _ => True
structure Ext (K : PySem.W.Frag) (μ : Mu) (H : Hp) (μ' : Mu) (H' : Hp) : Prop where
  keep : ∀ b o, H b = some o → μ b = none → NT o → H' b = some o
  tb : ∀ b ps, H b = some (.tbl ps) → μ b = none → ∃ ps', H' b = some (.tbl ps')
  dom : ∀ b ds, μ b = some ds → ∃ es, μ' b = some es
  fresh : ∀ b, μ b = none → (H b ≠ none ∨ K.lookup b ≠ none) → μ' b = none
def RpD (K : PySem.W.Frag) (μ : Mu) (H : Hp) : D → V → Prop
  | .v x, u => Rp K μ H x u
  | .m a, u => u = .ref a ∧ ∃ ds, μ a = some ds
  | .s ns, u => ∃ a, u = .ref a ∧ SqL K H a (ns.map V.int) ∧ μ a = none
  | .o a, u => u = .ref a
  | .q P, u => ∀ μ' H', Ext K μ H μ' H' → P K u μ' H'
noncomputable def codeAt (c : Addr) (q : Str) (h : Heap) : Prop := ∃ o vs t, h.get? c = some o ∧ o.data = .fields vs ∧ vs[1]? = some (.str q t)
abbrev OI (q : Str) : Str := (q ++ ".<locals>.") ++ "<lambda>"
noncomputable def Ug (H : Hp) (P : Addr) (q : Str) : Prop := ∃ ps : Array Value, H P = some (.tbl ps) ∧ TriplesOk ps.toList ∧ ∀ pos cv, codeAmong pos ps.toList = some cv → ∃ c, cv = .ref c ∧ H c = some (.ext (codeAt c (OI q)))
noncomputable def Fc (K : PySem.W.Frag) (H : Hp) : Prop := ∀ c o P q, K.lookup c = some o → fq o = some (P, q) → Ug H P q
structure eT (K : PySem.W.Frag) (μ : Mu) (H : Hp) : Prop where
  lst : ∀ a ds, μ a = some ds → ∃ xs, H a = some (.lst xs) ∧ RpL K μ H ds xs
  tab : Fc K H
instance {K : PySem.W.Frag} {μ : Mu} {H : Hp} : CoeFun (eT K μ H) fun _ => ∀ a ds, μ a = some ds → ∃ xs, H a = some (.lst xs) ∧ RpL K μ H ds xs := ⟨eT.lst⟩
theorem Fc.of {K : PySem.W.Frag} {H H1 : Hp} (t : Fc K H) (s : ∀ b o, H b = some o → (∀ xs, o ≠ .lst xs) → H1 b = some o) : Fc K H1 := fun c o P q h1 h2 => by
  obtain ⟨ps, a1, a2, a3⟩ := t c o P q h1 h2
  exact ⟨ps, s _ _ a1 (fun _ z => nomatch z), a2, fun pos cv e => let ⟨c, q1, q2⟩ := a3 pos cv e; ⟨c, q1, s _ _ q2 (fun _ z => nomatch z)⟩⟩
noncomputable def kT (K : PySem.W.Frag) (μ : Mu) (H : Hp) (ρ : Rho) (σ : St) : Prop :=
  ρ.length = σ.length ∧ ∀ (i : Nat) (d : D), ρ[i]? = some (some d) → ∃ u, σ[i]? = some (some u) ∧ RpD K μ H d u
structure St0 (K : PySem.W.Frag) (H : Hp) (ρ : Rho) (μ : Mu) (σ : St) : Prop where
  mu : eT K μ H
  rho : kT K μ H ρ σ
section
variable {K : PySem.W.Frag} {μ μ1 μ2 : Mu} {H H1 H2 : Hp}
theorem Ext.refl : Ext K μ H μ H := ⟨fun _ _ h _ _ => h, fun _ ps h _ => ⟨ps, h⟩, fun _ ds h => ⟨ds, h⟩, fun _ h _ => h⟩
theorem Ext.trans (a : Ext K μ H μ1 H1) (b : Ext K μ1 H1 μ2 H2) : Ext K μ H μ2 H2 where
  keep := fun c o h n t => b.keep c o (a.keep c o h n t) (a.fresh c n (.inl (by rw [h]; exact fun z => nomatch z))) t
  tb := fun c ps h n => by
    obtain ⟨ps1, h1⟩ := a.tb c ps h n
    exact b.tb c ps1 h1 (a.fresh c n (.inl (by rw [h]; exact fun z => nomatch z)))
  dom := fun c ds h => let ⟨es, q⟩ := a.dom c ds h; b.dom c es q
  fresh := fun c n h => by
    refine b.fresh c (a.fresh c n h) ?_
    rcases h with h | h
    · cases q : H c with
      | none => exact absurd q h
      | some o =>
        by_cases t : NT o
        · exact .inl (by rw [a.keep c o q n t]; exact fun z => nomatch z)
        · cases o with
          | tbl ps =>
            obtain ⟨ps1, h1⟩ := a.tb c ps q n
            exact .inl (by rw [h1]; exact fun z => nomatch z)
          | _ => exact absurd trivial t
    · exact .inr h
theorem Ext.of_same (s : u9 H H1) : Ext K μ H μ H1 := ⟨fun b o h _ _ => s b o h, fun b ps h _ => ⟨ps, s b _ h⟩, fun _ ds h => ⟨ds, h⟩, fun _ h _ => h⟩
theorem eT.not {a : Addr} {o : HO} (ok : eT K μ H) (h : H a = some o) (n : ∀ xs, o ≠ .lst xs) : μ a = none := by
  cases q : μ a with
  | none => rfl
  | some ds =>
    obtain ⟨ys, e, _⟩ := ok a ds q
    rw [h] at e
    exact absurd (Option.some.inj e) (n ys)
theorem eT.free {a : Addr} (ok : eT K μ H) (h : H a = none) : μ a = none := by
  cases q : μ a with
  | none => rfl
  | some ds =>
    obtain ⟨ys, e, _⟩ := ok a ds q
    rw [h] at e; cases e
theorem D2 {a : Addr} {xs : List V} (ok : eT K μ H) (e : Ext K μ H μ1 H1) (h : SqT K H a xs) : SqT K H1 a xs := by
  rcases h with (h | ⟨o, h⟩) | h
  · exact .inl (.inl (e.keep _ _ h (ok.not h fun _ z => nomatch z) trivial))
  · exact .inl (.inr ⟨o, e.keep _ _ h (ok.not h fun _ z => nomatch z) trivial⟩)
  · exact .inr h
theorem JC {a : Addr} {xs : List V} (e : Ext K μ H μ1 H1) (h : SqL K H a xs) (n : μ a = none) : SqL K H1 a xs ∧ μ1 a = none := by
  rcases h with (h | ⟨o, h⟩) | h
  · exact ⟨.inl (.inl (e.keep _ _ h n trivial)), e.fresh _ n (.inl (by rw [h]; exact fun z => nomatch z))⟩
  · exact ⟨.inl (.inr ⟨o, e.keep _ _ h n trivial⟩), e.fresh _ n (.inl (by rw [h]; exact fun z => nomatch z))⟩
  · obtain ⟨o, its, k, hk, r⟩ := id h
    exact ⟨.inr h, e.fresh _ n (.inr (by rw [hk]; exact fun z => nomatch z))⟩
mutual
theorem Rp.ext {d : PyData} {u : V} (ok : eT K μ H) (e : Ext K μ H μ1 H1) : Rp K μ H d u → Rp K μ1 H1 d u
  | .none => .none
  | .bool b => .bool b
  | .int i => .int i
  | .str x => .str x
  | .list h n r => .list (e.keep _ _ h n trivial) (e.fresh _ n (.inl (by rw [h]; exact fun z => nomatch z))) (RpL.ext ok e r)
  | .tuple h r => .tuple (D2 ok e h) (RpL.ext ok e r)
theorem RpL.ext {ds : List PyData} {us : List V} (ok : eT K μ H) (e : Ext K μ H μ1 H1) : RpL K μ H ds us → RpL K μ1 H1 ds us
  | .nil => .nil
  | .cons h r => .cons (Rp.ext ok e h) (RpL.ext ok e r)
end
theorem RpD.ext {d : D} {u : V} (ok : eT K μ H) (e : Ext K μ H μ1 H1) (r : RpD K μ H d u) : RpD K μ1 H1 d u := by
  cases d with
  | v x => exact Rp.ext ok e r
  | m a => obtain ⟨h, ds, q⟩ := r; exact ⟨h, e.dom a ds q⟩
  | s ns => obtain ⟨a, h, q, n⟩ := r; exact ⟨a, h, (JC e q n).1, (JC e q n).2⟩
  | o a => exact r
  | q P => exact fun μ' H' e' => r μ' H' (e.trans e')
theorem kT.ext {ρ : Rho} {σ : St} (ok : eT K μ H) (e : Ext K μ H μ1 H1) (r : kT K μ H ρ σ) : kT K μ1 H1 ρ σ :=
  ⟨r.1, fun i d h => let ⟨u, h1, h2⟩ := r.2 i d h; ⟨u, h1, h2.ext ok e⟩⟩
theorem RpL.length {ds : List PyData} {us : List V} : RpL K μ H ds us → ds.length = us.length
  | .nil => rfl
  | .cons _ r => congrArg (· + 1) (RpL.length r)
theorem RpL.get {ds : List PyData} {us : List V} : ∀ {i : Nat} {d : PyData}, RpL K μ H ds us → ds[i]? = some d → ∃ u, us[i]? = some u ∧ Rp K μ H d u
  | _, _, .nil, h => by simp at h
  | 0, _, .cons r _, h => by simp at h; subst h; exact ⟨_, rfl, r⟩
  | i + 1, d, .cons _ t, h => by
    obtain ⟨u, h1, h2⟩ := RpL.get (i := i) (d := d) t (by simpa using h)
    exact ⟨u, by simpa using h1, h2⟩
theorem RpL.append {ds es : List PyData} {us ws : List V} : RpL K μ H ds us → RpL K μ H es ws → RpL K μ H (ds ++ es) (us ++ ws)
  | .nil, s => s
  | .cons r t, s => .cons r (RpL.append t s)
theorem RpL.take {ds : List PyData} {us : List V} : ∀ (n : Nat), RpL K μ H ds us → RpL K μ H (ds.take n) (us.take n)
  | 0, _ => by simp; exact .nil
  | _ + 1, .nil => by simp; exact .nil
  | n + 1, .cons r t => .cons r (RpL.take n t)
theorem RpL.drop {ds : List PyData} {us : List V} : ∀ (n : Nat), RpL K μ H ds us → RpL K μ H (ds.drop n) (us.drop n)
  | 0, r => r
  | _ + 1, .nil => by simp; exact .nil
  | n + 1, .cons _ t => RpL.drop n t
theorem RpL.reverse {ds : List PyData} {us : List V} : RpL K μ H ds us → RpL K μ H ds.reverse us.reverse
  | .nil => .nil
  | .cons r t => by rw [List.reverse_cons, List.reverse_cons]; exact (RpL.reverse t).append (.cons r .nil)
theorem RpL.set {ds : List PyData} {us : List V} {d : PyData} {u : V} (q : Rp K μ H d u) : ∀ (i : Nat), RpL K μ H ds us → RpL K μ H (ds.set i d) (us.set i u)
  | _, .nil => .nil
  | 0, .cons _ t => .cons q t
  | i + 1, .cons r t => .cons r (RpL.set q i t)
theorem GV {ds : List PyData} {us : List V} {i : Int} {d : PyData} (r : RpL K μ H ds us) (h : atI ds i = some d) : ∃ u, atI us i = some u ∧ Rp K μ H d u := by
  unfold atI at h ⊢
  rw [← r.length]
  cases q : ixN ds.length i with
  | none => rw [q] at h; cases h
  | some j =>
    rw [q] at h
    exact r.get h
abbrev DK := D → Mu → Prop
abbrev DTE := Rho → Mu → DK → Prop
abbrev DTT := Rho → Mu → (Bool → Mu → Prop) → Prop
abbrev DTA := Rho → Mu → (List D → Mu → Prop) → Prop
structure Jw where
  nx : Rho → Mu → Prop
  rt : DK
  bk : Rho → Mu → Prop := fun _ _ => False
  ct : Rho → Mu → Prop := fun _ _ => False
abbrev DTS := Jw → Rho → Mu → Prop
inductive nT (K : PySem.W.Frag) (μ : Mu) (H : Hp) : List D → List V → Prop
  | nil : nT K μ H [] []
  | cons {d : D} {u : V} {ds : List D} {us : List V} : RpD K μ H d u → nT K μ H ds us → nT K μ H (d :: ds) (u :: us)
theorem nT.ext {ds : List D} {us : List V} (ok : eT K μ H) (e : Ext K μ H μ1 H1) : nT K μ H ds us → nT K μ1 H1 ds us
  | .nil => .nil
  | .cons h r => .cons (h.ext ok e) (nT.ext ok e r)
theorem nT.length {ds : List D} {us : List V} : nT K μ H ds us → ds.length = us.length
  | .nil => rfl
  | .cons _ r => congrArg (· + 1) (nT.length r)
end
noncomputable def vy (K : PySem.W.Frag) (t : TE) (td : DTE) : Prop := ∀ (σ : St) (H : Hp) (ρ : Rho) (μ : Mu) (Qd : DK) (Q : VK), St0 K H ρ μ σ → td ρ μ Qd →
  (∀ d u μ' H', Ext K μ H μ' H' → St0 K H' ρ μ' σ → RpD K μ' H' d u → Qd d μ' → Q u H') → t σ H Q
noncomputable def LL (K : PySem.W.Frag) (t : TT) (td : DTT) : Prop := ∀ (σ : St) (H : Hp) (ρ : Rho) (μ : Mu) (Qd : Bool → Mu → Prop) (Q : Bool → Hp → Prop), St0 K H ρ μ σ → td ρ μ Qd →
  (∀ b μ' H', Ext K μ H μ' H' → St0 K H' ρ μ' σ → Qd b μ' → Q b H') → t σ H Q
noncomputable def Pr (K : PySem.W.Frag) (n : Nat) (t : TA) (td : DTA) : Prop := ∀ (σ : St) (H : Hp) (ρ : Rho) (μ : Mu) (Qd : List D → Mu → Prop) (Q : List V → Hp → Prop), St0 K H ρ μ σ → td ρ μ Qd →
  (∀ ds us μ' H', Ext K μ H μ' H' → St0 K H' ρ μ' σ → nT K μ' H' ds us → ds.length = n → Qd ds μ' → Q us H') → t σ H Q
noncomputable def Cg (K : PySem.W.Frag) (t : TS) (td : DTS) : Prop := ∀ (σ : St) (H : Hp) (ρ : Rho) (μ : Mu) (Dd : Jw) (De : Ends), St0 K H ρ μ σ → td Dd ρ μ →
  (∀ σ' ρ' μ' H', Ext K μ H μ' H' → St0 K H' ρ' μ' σ' → Dd.nx ρ' μ' → De.nx σ' H') →
  (∀ d u μ' H', Ext K μ H μ' H' → eT K μ' H' → RpD K μ' H' d u → Dd.rt d μ' → De.rt u H') →
  (∀ σ' ρ' μ' H', Ext K μ H μ' H' → St0 K H' ρ' μ' σ' → Dd.bk ρ' μ' → De.bk σ' H') →
  (∀ σ' ρ' μ' H', Ext K μ H μ' H' → St0 K H' ρ' μ' σ' → Dd.ct ρ' μ' → De.ct σ' H') → t De σ H
noncomputable def DE (X : Cx) (e : Expr) (td : DTE) : Prop := ∃ t, PE X e t ∧ vy X.K t td
noncomputable def DT (X : Cx) (e : Expr) (td : DTT) : Prop := ∃ t, PT X e t ∧ LL X.K t td
noncomputable def DA (X : Cx) (es : List Expr) (td : DTA) : Prop := ∃ t, PA X es t ∧ Pr X.K es.length t td
noncomputable def DS (X : Cx) (st : Stmt) (td : DTS) : Prop := ∃ t, PS X st t ∧ Cg X.K t td
noncomputable def DSs (X : Cx) (st : List Stmt) (td : DTS) : Prop := ∃ t, PSs X st t ∧ Cg X.K t td
section
variable {X : Cx} {a b c : Expr} {ta tb tc : DTE} {pos : Pos}
noncomputable def af (i : Nat) : DTE := fun ρ μ Q => match ρ[i]? with
  | some (some d) => Q d μ
  | _ => False
noncomputable def dC (x : PyData) : DTE := fun _ μ Q => Q (.v x) μ
theorem LV {K : PySem.W.Frag} (i : Nat) : vy K (PJ i) (af i) := by
  intro σ H ρ μ Qd Q S h k
  unfold af at h
  split at h
  · rename_i d e
    obtain ⟨u, h1, h2⟩ := S.rho.2 i d e
    exact ⟨u, h1, k d u μ H .refl S h2 h⟩
  · exact h.elim
theorem dv (i : Nat) {x : Str} {pos : Pos} (hN : X.N[i]? = some x := by rfl) (hv : Vis X.env.scope x := by first | exact Or.inl rfl | exact Or.inr (Or.inl rfl) | exact Or.inr (Or.inr rfl)) (hd : (x == ("__debug__" : Str)) = false := by decide)
    (hcd : (x == ("__classdict__" : Str)) = false := by decide) : DE X (.Name x pos) (af i) := ⟨_, Md hN hv hd hcd, LV i⟩
theorem Ad {K : PySem.W.Frag} {x : PyData} {u : V} (h : ∀ μ H, eT K μ H → Rp K μ H x u) : vy K (tC u) (dC x) := fun σ H ρ μ Qd Q S q k => k (.v x) u μ H .refl S (h μ H S.mu) q
theorem ae {i j pos} : DE X (.Constant (.int i) j pos) (dC (.int i)) := ⟨_, Mq, Ad fun _ _ _ => .int i⟩
theorem kR {i j pos} : DE X (.Constant (.bool i) j pos) (dC (.bool i)) := ⟨_, RV, Ad fun _ _ _ => .bool i⟩
theorem MU {j pos} : DE X (.Constant .none j pos) (dC .none) := ⟨_, Qi, Ad fun _ _ _ => .none⟩
theorem di {x j pos} : DE X (.Constant (.str x) j pos) (dC (.str x)) := ⟨_, Ri, Ad fun _ _ _ => .str x⟩
theorem JK {x : Str} {d : PyData} {u : V} {w : Value} {pos : Pos} (hg : Gl X x) (hm : X.mg x = some w) (r : RelV u w) (h : ∀ μ H, eT X.K μ H → Rp X.K μ H d u) (hd : (x == ("__debug__" : Str)) = false := by decide) : DE X (.Name x pos) (dC d) :=
  ⟨_, Ox hg hm r hd, Ad h⟩
noncomputable def jI (K : PySem.W.Frag) (rr : R2) (r : D → D → Mu → DK → Prop) : Prop := ∀ (x y : D) (ux uy : V) (H : Hp) (μ : Mu) (Qd : DK) (Q : VK), eT K μ H → RpD K μ H x ux → RpD K μ H y uy → r x y μ Qd →
  (∀ d u μ' H', Ext K μ H μ' H' → eT K μ' H' → RpD K μ' H' d u → Qd d μ' → Q u H') → rr ux uy H Q
noncomputable def dOp (r : D → D → Mu → DK → Prop) (ta tb : DTE) : DTE := fun ρ μ Q => ta ρ μ fun x μ1 => tb ρ μ1 fun y μ2 => r x y μ2 Q
theorem yZ {K : PySem.W.Frag} {rr : R2} {r} {t1 t2 : TE} (lo : jI K rr r) (la : vy K t1 ta) (lb : vy K t2 tb) : vy K (tOp rr t1 t2) (dOp r ta tb) := by
  intro σ H ρ μ Qd Q S h k
  refine la σ H ρ μ _ _ S h fun x ux μ1 H1 e1 S1 rx h1 => ?_
  refine lb σ H1 ρ μ1 _ _ S1 h1 fun y uy μ2 H2 e2 S2 ry h2 => ?_
  exact lo x y ux uy H2 μ2 _ _ S2.mu (rx.ext S1.mu e2) ry h2 fun d u μ' H' e3 ok r q => k d u μ' H' (e1.trans (e2.trans e3)) ⟨ok, S2.rho.ext S2.mu e3⟩ r q
theorem Av {op : Operator} {rr : R2} {r} (ho : OpR X (binaryOp op) rr) (lo : jI X.K rr r) (ha : DE X a ta) (hb : DE X b tb) : DE X (.BinOp a op b pos) (dOp r ta tb) := by
  obtain ⟨t1, p1, l1⟩ := ha
  obtain ⟨t2, p2, l2⟩ := hb
  exact ⟨_, So ho p1 p2, yZ lo l1 l2⟩
theorem fP {op : CmpOp} {rr : R2} {r} (ho : OpR X (compareOp op) rr) (lo : jI X.K rr r) (ha : DE X a ta) (hb : DE X b tb) (hm : behindInMarks op b = false) : DE X (.Compare a [op] [b] pos) (dOp r ta tb) := by
  obtain ⟨t1, p1, l1⟩ := ha
  obtain ⟨t2, p2, l2⟩ := hb
  exact ⟨_, Oa ho p1 p2 hm, yZ lo l1 l2⟩
noncomputable def dB (t : DTE) : DTT := fun ρ μ Q => t ρ μ fun d μ1 => match d with
  | .v (.bool k) => Q k μ1
  | _ => False
theorem wX {K : PySem.W.Frag} {t : TE} {td : DTE} (l : vy K t td) : LL K (LB t) (dB td) := by
  intro σ H ρ μ Qd Q S h k
  refine l σ H ρ μ _ _ S h fun d u μ1 H1 e1 S1 r q => ?_
  split at q
  · rename_i b
    cases r
    exact ⟨b, rfl, k b μ1 H1 e1 S1 q⟩
  · exact q.elim
theorem aV {op : CmpOp} {rr : R2} {r} (ho : OpR X (compareOp op) rr) (lo : jI X.K rr r) (ha : DE X a ta) (hb : DE X b tb) (hm : behindInMarks op b = false) : DT X (.Compare a [op] [b] pos) (dB (dOp r ta tb)) := by
  obtain ⟨t1, p1, l1⟩ := ha
  obtain ⟨t2, p2, l2⟩ := hb
  exact ⟨_, OM ho p1 p2 hm, wX (yZ lo l1 l2)⟩
theorem cG {e : Expr} {td : DTE} (h : DE X e td) (he : ∀ whole, isTrue e X.env whole = (do let v ← whole; standAt e.pos; holding [v] (truthy v)) := by intro _; rfl) : DT X e (dB td) := by
  obtain ⟨t, p, l⟩ := h
  exact ⟨_, PU p he, wX l⟩
def rII (C : Int → Int → Prop) (g : Int → Int → PyData) : D → D → Mu → DK → Prop := fun x y μ Q => match x, y with
  | .v (.int i), .v (.int j) => C i j ∧ Q (.v (g i j)) μ
  | _, _ => False
theorem NR {K : PySem.W.Frag} {C : Int → Int → Prop} {g : Int → Int → V} {gd : Int → Int → PyData} (hg : ∀ μ H i j, Rp K μ H (gd i j) (g i j)) : jI K (rI C g) (rII C gd) := by
  intro x y ux uy H μ Qd Q ok rx ry h k
  unfold rII at h
  split at h
  · rename_i i j
    cases rx; cases ry
    exact ⟨i, j, rfl, rfl, h.1, k (.v _) _ μ H .refl ok (hg μ H i j) h.2⟩
  · exact h.elim
def A8 (g : Int → Int → PyData) : D → D → Mu → DK → Prop := fun x y μ Q => match x, y with
  | .v (.int i), .v (.int j) => Q (.v (g i j)) μ
  | _, _ => False
theorem JD {K : PySem.W.Frag} {g : Int → Int → V} {gd : Int → Int → PyData} (hg : ∀ μ H i j, Rp K μ H (gd i j) (g i j)) : jI K (rI0 g) (A8 gd) := by
  intro x y ux uy H μ Qd Q ok rx ry h k
  unfold A8 at h
  split at h
  · rename_i i j
    cases rx; cases ry
    exact ⟨i, j, rfl, rfl, k (.v _) _ μ H .refl ok (hg μ H i j) h⟩
  · exact h.elim
noncomputable abbrev mD (ta tb : DTE) : DTE := dOp (A8 fun i j => .int (i + j)) ta tb
noncomputable abbrev qV (ta tb : DTE) : DTE := dOp (A8 fun i j => .int (i - j)) ta tb
noncomputable abbrev MulOk (i j : Int) : Prop := IntMulOk i j
noncomputable abbrev cM (ta tb : DTE) : DTE := dOp (rII MulOk fun i j => .int (i * j)) ta tb
noncomputable abbrev yN (ta tb : DTE) : DTE := dOp (rII (fun _ j => j ≠ 0) fun i j => .int (i.fmod j)) ta tb
noncomputable abbrev xU (i j : Int) : Prop := j ≠ 0 ∧ Builtin.divisionGoesByPylong i j = false
noncomputable abbrev AJ (ta tb : DTE) : DTE := dOp (rII xU fun i j => .int (i.fdiv j)) ta tb
noncomputable abbrev AK (ta tb : DTE) : DTE := dOp (rII Kf fun i j => .int (i ^ j.toNat)) ta tb
theorem Oc : OpR X (binaryOp .Mult) (rI MulOk fun i j => .int (i * j)) := opI fun _ _ _ _ _ _ _ hc q => mul_int q hc
theorem N7 : OpR X (binaryOp .FloorDiv) (rI xU fun i j => .int (i.fdiv j)) := opI fun _ _ _ _ _ _ _ hc q => floordiv_int hc.1 q (.inl hc.2)
theorem eD (ha : DE X a ta) (hb : DE X b tb) : DE X (.BinOp a .Add b pos) (mD ta tb) := Av Mw (JD fun _ _ _ _ => .int _) ha hb
theorem gy (ha : DE X a ta) (hb : DE X b tb) : DE X (.BinOp a .Sub b pos) (qV ta tb) := Av P1 (JD fun _ _ _ _ => .int _) ha hb
theorem bB (ha : DE X a ta) (hb : DE X b tb) : DE X (.BinOp a .Mult b pos) (cM ta tb) := Av Oc (NR fun _ _ _ _ => .int _) ha hb
theorem lZ (ha : DE X a ta) (hb : DE X b tb) : DE X (.BinOp a .Mod b pos) (yN ta tb) := Av Oi (NR fun _ _ _ _ => .int _) ha hb
theorem nQ (ha : DE X a ta) (hb : DE X b tb) : DE X (.BinOp a .FloorDiv b pos) (AJ ta tb) := Av N7 (NR fun _ _ _ _ => .int _) ha hb
theorem nq (ha : DE X a ta) (hb : DE X b tb) : DE X (.BinOp a .Pow b pos) (AK ta tb) := Av P8 (NR fun _ _ _ _ => .int _) ha hb
abbrev rLt := A8 fun i j => .bool (decide (i < j))
abbrev rLe := A8 fun i j => .bool (decide (i ≤ j))
abbrev rGt := A8 fun i j => .bool (decide (j < i))
abbrev rGe := A8 fun i j => .bool (decide (j ≤ i))
theorem d7 {K : PySem.W.Frag} {p : Int → Int → Bool} : jI K (rI0 fun i j => .bl (p i j)) (A8 fun i j => .bool (p i j)) := JD fun _ _ _ _ => .bool _
noncomputable def yL (ta : DTE) : DTE := fun ρ μ Q => ta ρ μ fun x μ1 => match x with
  | .v (.int i) => Q (.v (.int (-i))) μ1
  | _ => False
theorem nL (ha : DE X a ta) : DE X (.UnaryOp .USub a pos) (yL ta) := by
  obtain ⟨t1, p1, l1⟩ := ha
  refine ⟨_, Pu MB p1, fun σ H ρ μ Qd Q S h k => ?_⟩
  refine l1 σ H ρ μ _ _ S h fun x ux μ1 H1 e1 S1 rx h1 => ?_
  split at h1
  · rename_i i
    cases rx
    exact ⟨i, rfl, k (.v _) _ μ1 H1 e1 S1 (Rp.int _) h1⟩
  · exact h1.elim
noncomputable def rj (t u : DTT) : DTT := fun ρ μ Q => t ρ μ fun c μ1 => if c = true then u ρ μ1 Q else Q false μ1
noncomputable def jX (t u : DTT) : DTT := fun ρ μ Q => t ρ μ fun c μ1 => if c = true then Q true μ1 else u ρ μ1 Q
noncomputable def eZ (t : DTT) : DTT := fun ρ μ Q => t ρ μ fun c μ1 => Q (!c) μ1
noncomputable def DW (X : Cx) (e : Expr) (td : DTT) : Prop := ∃ t, PW X e t ∧ LL X.K t td
theorem DW.dt {e : Expr} {td : DTT} (h : DW X e td) : DT X e td := let ⟨t, p, l⟩ := h; ⟨t, p.pt, l⟩
variable {tA tB' : DTT} {rest : List Expr}
theorem pR (ha : DT X a tA) : DW X (.BoolOp .And [a] pos) tA := let ⟨t, p, l⟩ := ha; ⟨t, pw_and1 p, l⟩
theorem jg (ha : DT X a tA) : DW X (.BoolOp .Or [a] pos) tA := let ⟨t, p, l⟩ := ha; ⟨t, pw_or1 p, l⟩
theorem pP (ha : DT X a tA) (hb : DW X (.BoolOp .And (b :: rest) pos) tB') : DW X (.BoolOp .And (a :: b :: rest) pos) (rj tA tB') := by
  obtain ⟨t1, p1, l1⟩ := ha
  obtain ⟨t2, p2, l2⟩ := hb
  refine ⟨_, pw_and p1 p2, fun σ H ρ μ Qd Q S h k => ?_⟩
  refine l1 σ H ρ μ _ _ S h fun c μ1 H1 e1 S1 h1 => ?_
  cases c with
  | true =>
    refine Bu (l2 σ H1 ρ μ1 _ _ S1 (by simpa using h1) fun c μ2 H2 e2 S2 h2 => k c μ2 H2 (e1.trans e2) S2 h2)
  | false => exact BA (k false μ1 H1 e1 S1 (by simpa using h1))
theorem fS (ha : DT X a tA) (hb : DW X (.BoolOp .Or (b :: rest) pos) tB') : DW X (.BoolOp .Or (a :: b :: rest) pos) (jX tA tB') := by
  obtain ⟨t1, p1, l1⟩ := ha
  obtain ⟨t2, p2, l2⟩ := hb
  refine ⟨_, pw_or p1 p2, fun σ H ρ μ Qd Q S h k => ?_⟩
  refine l1 σ H ρ μ _ _ S h fun c μ1 H1 e1 S1 h1 => ?_
  cases c with
  | true => exact Bu (k true μ1 H1 e1 S1 (by simpa using h1))
  | false =>
    refine BA (l2 σ H1 ρ μ1 _ _ S1 (by simpa using h1) fun c μ2 H2 e2 S2 h2 => k c μ2 H2 (e1.trans e2) S2 h2)
theorem dc (ha : DT X a tA) : DT X (.UnaryOp .Not a pos) (eZ tA) := by
  obtain ⟨t1, p1, l1⟩ := ha
  refine ⟨_, QZ p1, fun σ H ρ μ Qd Q S h k => ?_⟩
  exact l1 σ H ρ μ _ _ S h fun c μ1 H1 e1 S1 h1 => k _ μ1 H1 e1 S1 h1
noncomputable def ui (ta tb : DTE) : DTE := fun ρ μ Q => ta ρ μ fun x μ1 => match x with
  | .v (.bool c) => if c = true then tb ρ μ1 Q else Q (.v (.bool false)) μ1
  | _ => False
noncomputable def Ut (ta tb : DTE) : DTE := fun ρ μ Q => ta ρ μ fun x μ1 => match x with
  | .v (.bool c) => if c = true then Q (.v (.bool true)) μ1 else tb ρ μ1 Q
  | _ => False
noncomputable def Ce (ta : DTE) : DTE := fun ρ μ Q => ta ρ μ fun x μ1 => match x with
  | .v (.bool c) => Q (.v (.bool (!c))) μ1
  | _ => False
theorem rq {op} (h : DE X a ta) : DE X (.BoolOp op [a] pos) ta := let ⟨t, p, l⟩ := h; ⟨t, RC p, l⟩
theorem pC (ha : DE X a ta) (hb : DE X (.BoolOp .And (b :: rest) pos) tb) : DE X (.BoolOp .And (a :: b :: rest) pos) (ui ta tb) := by
  obtain ⟨t1, p1, l1⟩ := ha
  obtain ⟨t2, p2, l2⟩ := hb
  refine ⟨_, Qp p1 p2, fun σ H ρ μ Qd Q S h k => ?_⟩
  refine l1 σ H ρ μ _ _ S h fun x ux μ1 H1 e1 S1 rx h1 => ?_
  split at h1
  · rename_i c
    cases rx
    refine ⟨c, rfl, ?_⟩
    cases c with
    | true => exact Bu (l2 σ H1 ρ μ1 _ _ S1 (by simpa using h1) fun d u μ2 H2 e2 S2 r2 h2 => k d u μ2 H2 (e1.trans e2) S2 r2 h2)
    | false => exact BA (k (.v _) _ μ1 H1 e1 S1 (Rp.bool false) (by simpa using h1))
  · exact h1.elim
theorem Aa (ha : DE X a ta) : DE X (.UnaryOp .Not a pos) (Ce ta) := by
  obtain ⟨t1, p1, l1⟩ := ha
  refine ⟨_, Qs p1, fun σ H ρ μ Qd Q S h k => ?_⟩
  refine l1 σ H ρ μ _ _ S h fun x ux μ1 H1 e1 S1 rx h1 => ?_
  split at h1
  · rename_i c
    cases rx
    exact ⟨c, rfl, k (.v _) _ μ1 H1 e1 S1 (Rp.bool _) h1⟩
  · exact h1.elim
noncomputable def dIf (t : DTT) (ta tb : DTE) : DTE := fun ρ μ Q => t ρ μ fun c μ1 => if c = true then ta ρ μ1 Q else tb ρ μ1 Q
theorem oH {c : Expr} (hc : DT X c tA) (ha : DE X a ta) (hb : DE X b tb) : DE X (.IfExp c a b pos) (dIf tA ta tb) := by
  obtain ⟨t0, p0, l0⟩ := hc
  obtain ⟨t1, p1, l1⟩ := ha
  obtain ⟨t2, p2, l2⟩ := hb
  refine ⟨_, L8 p0 p1 p2, fun σ H ρ μ Qd Q S h k => ?_⟩
  refine l0 σ H ρ μ _ _ S h fun c μ1 H1 e1 S1 h1 => ?_
  cases c with
  | true => exact Bu (l1 σ H1 ρ μ1 _ _ S1 (by simpa using h1) fun d u μ2 H2 e2 S2 r2 h2 => k d u μ2 H2 (e1.trans e2) S2 r2 h2)
  | false => exact BA (l2 σ H1 ρ μ1 _ _ S1 (by simpa using h1) fun d u μ2 H2 e2 S2 r2 h2 => k d u μ2 H2 (e1.trans e2) S2 r2 h2)
end
open PySem PySem.Spec PyProof.Rows
section
variable {K : PySem.W.Frag} {μ μ1 : Mu} {H H1 : Hp} {p : Addr}
theorem eP {o : HO} (h : H p = none) : Ext K μ H μ (upd H p o) :=
  ⟨fun b u e _ _ => by rw [cW (en e h)]; exact e, fun b ps e _ => ⟨ps, by rw [cW (en e h)]; exact e⟩, fun _ ds q => ⟨ds, q⟩, fun _ q _ => q⟩
theorem eT.N0 (ok : eT K μ H) (e : Ext K μ H μ H1) (s : u9 H H1) : eT K μ H1 := ⟨fun a ds q => by
  obtain ⟨xs, h1, h2⟩ := ok a ds q
  exact ⟨xs, s _ _ h1, h2.ext ok e⟩, ok.tab.of fun b o h _ => s b o h⟩
theorem Ln {o : HO} (h : H p = none) : u9 H (upd H p o) := fun b u q => by rw [cW (en q h)]; exact q
theorem eT.new {o : HO} (ok : eT K μ H) (h : H p = none) : eT K μ (upd H p o) := ok.N0 (eP h) (Ln h)
theorem St0.new {o : HO} {ρ : Rho} {σ : St} (S : St0 K H ρ μ σ) (h : H p = none) : St0 K (upd H p o) ρ μ σ := ⟨S.mu.new h, S.rho.ext S.mu (eP h)⟩
theorem jU {us : List V} {ds : List PyData} (ok : eT K μ H) (r : RpL K μ H ds us) (h : H p = none) : Rp K μ (upd H p (.tup us)) (.tuple ds) (.ref p) :=
  .tuple (SqT.of kq) (r.ext ok (eP h))
theorem jR {us : List V} {ds : List PyData} (ok : eT K μ H) (r : RpL K μ H ds us) (h : H p = none) : Rp K μ (upd H p (.lst us)) (.list ds) (.ref p) :=
  .list kq (ok.free h) (r.ext ok (eP h))
theorem sQ {o : HO} {ds : List PyData} (ok : eT K μ H) (h : H p = none) (hk : K.lookup p = none) : Ext K μ H (bD μ p ds) (upd H p o) where
  keep := fun b u e _ _ => by rw [cW (en e h)]; exact e
  tb := fun b ps e _ => ⟨ps, by rw [cW (en e h)]; exact e⟩
  dom := fun b es q => by
    have : b ≠ p := fun z => by rw [z, ok.free h] at q; cases q
    exact ⟨es, by rw [bV this]; exact q⟩
  fresh := fun b n q => by
    have : b ≠ p := fun z => by
      rcases q with q | q
      · exact q (by rw [z]; exact h)
      · exact q (by rw [z]; exact hk)
    rw [bV this]; exact n
theorem eT.mut {us : List V} {ds : List PyData} (ok : eT K μ H) (r : RpL K μ H ds us) (h : H p = none) (hk : K.lookup p = none) : eT K (bD μ p ds) (upd H p (.lst us)) := ⟨fun a es q => by
  have e := sQ (o := .lst us) (ds := ds) ok h hk
  by_cases ha : a = p
  · subst ha
    rw [bL] at q
    cases q
    exact ⟨us, kq, r.ext ok e⟩
  · rw [bV ha] at q
    obtain ⟨xs, h1, h2⟩ := ok a es q
    exact ⟨xs, by rw [cW ha]; exact h1, h2.ext ok e⟩, ok.tab.of fun b o e _ => by rw [cW (en e h)]; exact e⟩
theorem wI {o : HO} {ds es : List PyData} (h : μ p = some ds) : Ext K μ H (bD μ p es) (upd H p o) where
  keep := fun b u e n _ => by
    have : b ≠ p := fun z => by rw [z, h] at n; cases n
    rw [cW this]; exact e
  tb := fun b ps e n => by
    have : b ≠ p := fun z => by rw [z, h] at n; cases n
    exact ⟨ps, by rw [cW this]; exact e⟩
  dom := fun b fs q => by
    by_cases hb : b = p
    · subst hb; exact ⟨es, bL⟩
    · exact ⟨fs, by rw [bV hb]; exact q⟩
  fresh := fun b n q => by
    have : b ≠ p := fun z => by rw [z, h] at n; cases n
    rw [bV this]; exact n
theorem eT.set {us : List V} {ds es : List PyData} (ok : eT K μ H) (h : μ p = some ds) (r : RpL K μ H es us) : eT K (bD μ p es) (upd H p (.lst us)) := ⟨fun a fs q => by
  have e : Ext K μ H (bD μ p es) (upd H p (.lst us)) := wI h
  by_cases ha : a = p
  · subst ha
    rw [bL] at q
    cases q
    exact ⟨us, kq, r.ext ok e⟩
  · rw [bV ha] at q
    obtain ⟨xs, h1, h2⟩ := ok a fs q
    exact ⟨xs, by rw [cW ha]; exact h1, h2.ext ok e⟩, by
  obtain ⟨ys, hy, _⟩ := ok p ds h
  exact ok.tab.of fun b o e n => by
    have : b ≠ p := fun z => by rw [z, hy] at e; exact n ys (Option.some.inj e).symm
    rw [cW this]; exact e⟩
end
def dO : List D → Option (List PyData)
  | [] => some []
  | .v x :: r => (dO r).map (x :: ·)
  | _ :: _ => none
theorem nT.data {K : PySem.W.Frag} {μ : Mu} {H : Hp} : ∀ {ds : List D} {us : List V} {xs : List PyData}, nT K μ H ds us → dO ds = some xs → RpL K μ H xs us
  | _, _, _, .nil, e => by cases e; exact .nil
  | .v x :: r, _, xs, .cons h t, e => by
    simp only [dO] at e
    cases q : dO r with
    | none => rw [q] at e; cases e
    | some ys => rw [q] at e; cases e; exact .cons h (nT.data t q)
  | .m _ :: _, _, _, .cons _ _, e => by simp [dO] at e
  | .s _ :: _, _, _, .cons _ _, e => by simp [dO] at e
  | .o _ :: _, _, _, .cons _ _, e => by simp [dO] at e
section
variable {X : Cx} {e : Expr} {es : List Expr} {te : DTE} {t : DTA} {pos : Pos}
noncomputable def ar : DTA := fun _ μ Q => Q [] μ
noncomputable def ab (ta : DTE) (tr : DTA) : DTA := fun ρ μ Q => ta ρ μ fun x μ1 => tr ρ μ1 fun xs μ2 => Q (x :: xs) μ2
theorem ag : DA X [] ar := ⟨_, xH, fun σ H ρ μ Qd Q S h k => k [] [] μ H .refl S .nil rfl h⟩
theorem aa (ha : DE X e te) (hr : DA X es t) (hs : starEach (e :: es) X.env = (false, eval e X.env) :: starEach es X.env := by rfl) : DA X (e :: es) (ab te t) := by
  obtain ⟨t1, p1, l1⟩ := ha
  obtain ⟨t2, p2, l2⟩ := hr
  refine ⟨_, ql p1 p2 hs, fun σ H ρ μ Qd Q S h k => ?_⟩
  refine l1 σ H ρ μ _ _ S h fun x ux μ1 H1 e1 S1 rx h1 => ?_
  refine l2 σ H1 ρ μ1 _ _ S1 h1 fun xs us μ2 H2 e2 S2 rs len h2 => ?_
  exact k (x :: xs) (ux :: us) μ2 H2 (e1.trans e2) S2 (.cons (rx.ext S1.mu e2) rs) (by rw [List.length_cons, List.length_cons, len]) h2
noncomputable def eC (t : DTA) : DTE := fun ρ μ Q => t ρ μ fun ds μ1 => match dO ds with
  | some xs => Q (.v (.tuple xs)) μ1
  | none => False
noncomputable def qS (t : DTA) : DTE := fun ρ μ Q => t ρ μ fun ds μ1 => match dO ds with
  | some xs => Q (.v (.list xs)) μ1
  | none => False
noncomputable def B6 (t : DTA) : DTE := fun ρ μ Q => t ρ μ fun ds μ1 => match dO ds with
  | some xs => ∀ p, μ1 p = none → Q (.m p) (bD μ1 p xs)
  | none => False
theorem bR {x1} (h : DA X es t) (hl : es.length ≤ 1000 := by decide) : DE X (.Tuple es x1 pos) (eC t) := by
  obtain ⟨t1, p1, l1⟩ := h
  refine ⟨_, Q1 p1, fun σ H ρ μ Qd Q S h k => ?_⟩
  refine l1 σ H ρ μ _ _ S h fun ds us μ1 H1 e1 S1 rs len h1 => ?_
  cases q : dO ds with
  | none => rw [q] at h1; exact h1.elim
  | some xs =>
    rw [q] at h1
    refine ⟨Nat.le_of_lt (jL (by rw [← rs.length, len]; exact hl)), fun p hp => ?_⟩
    exact k (.v (.tuple xs)) _ μ1 _ (e1.trans (eP hp)) (S1.new hp) (jU S1.mu (rs.data q) hp) h1
theorem ib (h : DA X es t) (hl : es.length ≤ 1000 := by decide) : DE X (.List es pos) (qS t) := by
  obtain ⟨t1, p1, l1⟩ := h
  refine ⟨_, Q8 p1, fun σ H ρ μ Qd Q S h k => ?_⟩
  refine l1 σ H ρ μ _ _ S h fun ds us μ1 H1 e1 S1 rs len h1 => ?_
  cases q : dO ds with
  | none => rw [q] at h1; exact h1.elim
  | some xs =>
    rw [q] at h1
    refine ⟨Nat.le_of_lt (jL (by rw [← rs.length, len]; exact hl)), fun p hp => ?_⟩
    exact k (.v (.list xs)) _ μ1 _ (e1.trans (eP hp)) (S1.new hp) (jR S1.mu (rs.data q) hp) h1
noncomputable def RP (K : PySem.W.Frag) (t : TA) : TE := fun σ H Q => t σ H fun xs H1 => xs.length ≤ sizeLine ∧ ∀ p, H1 p = none → K.lookup p = none → Q (.ref p) (upd H1 p (.lst xs))
theorem Og {t : TA} (h : PA X es t) : PE X (.List es pos) (RP X.K t) := by
  intro pins s σ H Q I hq
  refine wpAny_List_spliced (thn (h pos pins s σ H _ I hq) fun us s1 ⟨xs, H1, I1, r, z, q⟩ => ⟨by rw [← r.length]; exact z, ?_⟩)
  have hf : H1 s1.heap.objs.size = none := I1.hok.fresh (Nat.le_refl _)
  have hk : X.K.lookup s1.heap.objs.size = none := by
    cases c : X.K.lookup s1.heap.objs.size with
    | none => rfl
    | some o => exact absurd (Heap.lt_size (I1.kIn _ _ c)) (Nat.lt_irrefl _)
  refine ⟨.ref s1.heap.objs.size, upd H1 s1.heap.objs.size (.lst xs), I1.laid (t' := s1.toks) (fun b u e => Heap.get?_push_of_some _ e) (Nat.le_refl _) ?_, rfl, q _ hf hk⟩
  exact ⟨z, us, 0, r, Heap.get?_push_size _ rfl⟩
theorem y4 (h : DA X es t) (hl : es.length ≤ 1000 := by decide) : DE X (.List es pos) (B6 t) := by
  obtain ⟨t1, p1, l1⟩ := h
  refine ⟨_, Og p1, fun σ H ρ μ Qd Q S h k => ?_⟩
  refine l1 σ H ρ μ _ _ S h fun ds us μ1 H1 e1 S1 rs len h1 => ?_
  cases q : dO ds with
  | none => rw [q] at h1; exact h1.elim
  | some xs =>
    rw [q] at h1
    refine ⟨Nat.le_of_lt (jL (by rw [← rs.length, len]; exact hl)), fun p hp hk => ?_⟩
    have ex := sQ (o := .lst us) (ds := xs) S1.mu hp hk
    exact k (.m p) _ (bD μ1 p xs) _ (e1.trans ex) ⟨S1.mu.mut (rs.data q) hp hk, S1.rho.ext S1.mu ex⟩ ⟨rfl, xs, bL⟩ (h1 p (S1.mu.free hp))
end
section
variable {X : Cx} {pins : List (Addr × Obj)} {σ : St} {H : Hp} {s : Shared} {μ : Mu}
mutual
theorem jj (I : Inv X pins σ H s) : ∀ {d : PyData} {x : V} {u : Value}, Rp X.K μ H d x → RelV x u → ∃ as, Reads s.heap u d as
  | _, _, _, .none, r => by cases r; exact ⟨_, .none⟩
  | _, _, _, .bool b, r => by cases r; exact ⟨_, .bool b⟩
  | _, _, _, .int i, r => by obtain ⟨t, rfl⟩ := r; exact ⟨_, .int i t⟩
  | _, _, _, .str y, r => by obtain ⟨t, rfl⟩ := r; exact ⟨_, .str y t⟩
  | _, _, _, .list h _ q, r => by
    cases r
    obtain ⟨its, rv, ⟨o, n, ho, hc, _, hd⟩, _⟩ := I.list (SqL.of h)
    obtain ⟨as, ra⟩ := rQ I q rv
    exact ⟨_, .list ho hc hd (by simpa using ra)⟩
  | _, _, _, .tuple h q, r => by
    cases r
    obtain ⟨its, rv, ⟨o, ho, hc, n, hd⟩, _⟩ := I.tuple h
    obtain ⟨as, ra⟩ := rQ I q rv
    exact ⟨_, .tuple ho hc hd (by simpa using ra)⟩
theorem rQ (I : Inv X pins σ H s) : ∀ {ds : List PyData} {xs : List V} {us : List Value}, RpL X.K μ H ds xs → Vals xs us → ∃ as, ReadsAll s.heap us ds as
  | _, _, _, .nil, .nil => ⟨_, .nil⟩
  | _, _, _, .cons h t, .cons r q => by
    obtain ⟨as, ra⟩ := jj I h r
    obtain ⟨bs, rb⟩ := rQ I t q
    exact ⟨_, .cons ra rb⟩
end
end
section
variable {X : Cx}
noncomputable def Qj (K : PySem.W.Frag) (neg : Bool) : R2 := fun x y H Q => ∃ μ a b, Rp K μ H a x ∧ Rp K μ H b y ∧ SeqAt.shaped a = true ∧ SeqAt.shaped b = true ∧ Q (.bl (neg ^^ PyData.eqv a b)) H
theorem dj (hu : X.A.units + 64 < cLine) : OpR X (compareOp .Eq) (Qj X.K false) := by
  intro pins s σ H x y v u Q I rx ry h
  obtain ⟨μ, a, b, ha, hb, sa, sb, q⟩ := h
  obtain ⟨as, ra⟩ := jj I ha rx
  obtain ⟨bs, rb⟩ := jj I hb ry
  exact eq_dataH ra rb sa sb hu ⟨.bl (PyData.eqv a b), H, I, rfl, by simpa using q⟩
theorem iW (hu : X.A.units + 64 < cLine) : OpR X (compareOp .NotEq) (Qj X.K true) := by
  intro pins s σ H x y v u Q I rx ry h
  obtain ⟨μ, a, b, ha, hb, sa, sb, q⟩ := h
  obtain ⟨as, ra⟩ := jj I ha rx
  obtain ⟨bs, rb⟩ := jj I hb ry
  exact ne_dataH ra rb sa sb hu ⟨.bl (!PyData.eqv a b), H, I, rfl, by simpa using q⟩
def dD (neg : Bool) : D → D → Mu → DK → Prop := fun x y μ Q => match x, y with
  | .v a, .v b => SeqAt.shaped a = true ∧ SeqAt.shaped b = true ∧ Q (.v (.bool (neg ^^ PyData.eqv a b))) μ
  | _, _ => False
theorem bW {K : PySem.W.Frag} {neg : Bool} : jI K (Qj K neg) (dD neg) := by
  intro x y ux uy H μ Qd Q ok rx ry h k
  unfold dD at h
  split at h
  · rename_i a b
    exact ⟨μ, a, b, rx, ry, h.1, h.2.1, k (.v _) _ μ H .refl ok (Rp.bool _) h.2.2⟩
  · exact h.elim
noncomputable def Rz (K : PySem.W.Frag) (neg : Bool) : R2 := fun x y H Q => ∃ μ a bs, Rp K μ H a x ∧ Rp K μ H (.list bs) y ∧ PyData.canLayAll0 bs = true ∧ a.canLay0 = true ∧ PyData.depth a ≤ 60 ∧ Q (.bl (neg ^^ bs.any fun b => PyData.eqv b a)) H
theorem Ng (hu : X.A.units + 64 < cLine) : OpR X (compareOp .In) (Rz X.K false) := by
  intro pins s σ H x y v u Q I rx ry h
  obtain ⟨μ, a, b, ha, hb, sb, sa, dp, q⟩ := h
  obtain ⟨as, ra⟩ := jj I ha rx
  obtain ⟨bs, rb⟩ := jj I hb ry
  refine SeqAt.in_list_reads rb ra sb sa (by omega) ⟨.bl (b.any fun z => PyData.eqv z a), H, I, rfl, by simpa using q⟩
theorem xB (hu : X.A.units + 64 < cLine) : OpR X (compareOp .NotIn) (Rz X.K true) := by
  intro pins s σ H x y v u Q I rx ry h
  obtain ⟨μ, a, b, ha, hb, sb, sa, dp, q⟩ := h
  obtain ⟨as, ra⟩ := jj I ha rx
  obtain ⟨bs, rb⟩ := jj I hb ry
  refine SeqAt.notIn_list_reads rb ra sb sa (by omega) ⟨.bl (!b.any fun z => PyData.eqv z a), H, I, rfl, by simpa using q⟩
def Gi (neg : Bool) : D → D → Mu → DK → Prop := fun x y μ Q => match x, y with
  | .v a, .v (.list bs) => PyData.canLayAll0 bs = true ∧ a.canLay0 = true ∧ PyData.depth a ≤ 60 ∧ Q (.v (.bool (neg ^^ bs.any fun b => PyData.eqv b a))) μ
  | _, _ => False
theorem ze {K : PySem.W.Frag} {neg : Bool} : jI K (Rz K neg) (Gi neg) := by
  intro x y ux uy H μ Qd Q ok rx ry h k
  unfold Gi at h
  split at h
  · rename_i a b
    exact ⟨μ, a, b, rx, ry, h.1, h.2.1, h.2.2.1, k (.v _) _ μ H .refl ok (Rp.bool _) h.2.2.2⟩
  · exact h.elim
end
open PySem PySem.Spec PyProof.Rows
section
variable {X : Cx} {a b e : Expr} {es : List Expr} {ta tb te : DTE} {t : DTA} {p pos : Pos}
def aF : D → D → Mu → DK → Prop := fun x y μ Q => match x, y with
  | .v (.list xs), .v (.int i) => (match atI xs i with | some d => Q (.v d) μ | none => False)
  | .v (.tuple xs), .v (.int i) => (match atI xs i with | some d => Q (.v d) μ | none => False)
  | .m l, .v (.int i) => (match μ l with
    | some xs => (match atI xs i with | some d => Q (.v d) μ | none => False)
    | none => False)
  | .s ns, .v (.int i) => (match atI ns i with | some d => Q (.v (.int d)) μ | none => False)
  | _, _ => False
theorem Sh {K : PySem.W.Frag} : jI K (rIx K) aF := by
  intro x y ux uy H μ Qd Q ok rx ry h k
  unfold aF at h
  split at h
  · rename_i xs i
    cases ry
    cases q : atI xs i with
    | none => rw [q] at h; exact h.elim
    | some d =>
      rw [q] at h
      cases rx with
      | list hs hn r =>
        obtain ⟨u, e1, e2⟩ := GV r q
        exact .inl ⟨_, _, i, u, rfl, rfl, SqL.of hs, e1, k (.v d) u μ H .refl ok e2 h⟩
  · rename_i xs i
    cases ry
    cases q : atI xs i with
    | none => rw [q] at h; exact h.elim
    | some d =>
      rw [q] at h
      cases rx with
      | tuple hs r =>
        obtain ⟨u, e1, e2⟩ := GV r q
        exact .inr (.inl ⟨_, _, i, u, rfl, rfl, hs, e1, k (.v d) u μ H .refl ok e2 h⟩)
  · rename_i l i
    cases ry
    obtain ⟨rfl, ds, hm⟩ := rx
    rw [hm] at h
    simp only at h
    cases q : atI ds i with
    | none => rw [q] at h; exact h.elim
    | some d =>
      rw [q] at h
      obtain ⟨us, hl, r⟩ := ok l ds hm
      obtain ⟨u, e1, e2⟩ := GV r q
      exact .inl ⟨_, _, i, u, rfl, rfl, SqL.of hl, e1, k (.v d) u μ H .refl ok e2 h⟩
  · rename_i ns i
    cases ry
    obtain ⟨a, rfl, hs, hn⟩ := rx
    cases q : atI ns i with
    | none => rw [q] at h; exact h.elim
    | some d =>
      rw [q] at h
      have e1 : atI (ns.map V.int) i = some (.int d) := by
        unfold atI at q ⊢
        rw [List.length_map]
        cases z : ixN ns.length i with
        | none => rw [z] at q; cases q
        | some j =>
          rw [z] at q
          simp only [Option.bind_some, List.getElem?_map] at q ⊢
          rw [q] <;> rfl
      exact .inl ⟨_, _, i, _, rfl, rfl, hs, e1, k (.v (.int d)) _ μ H .refl ok (Rp.int d) h⟩
  · exact h.elim
theorem ax (ha : DE X a ta) (hb : DE X b tb) (hs : J2 b) : DE X (.Subscript a b pos) (dOp aF ta tb) := by
  obtain ⟨t1, p1, l1⟩ := ha
  obtain ⟨t2, p2, l2⟩ := hb
  exact ⟨_, Sa PV p1 p2 hs, yZ Sh l1 l2⟩
theorem NC {prog : Program} {w : World} {A : Around} {E : Value → Shared → Prop} {s : Shared} {t b : Addr} {ws : List Value} {Q : Value → Shared → Prop} (ht : IsTup s.heap t #[]) (hb : IsTup s.heap b ws.toArray)
    (h1 : Q (.ref b) s) : wpAny (model prog w) A (binaryOp .Add (.ref t) (.ref b)) Q E s := by
  obtain ⟨⟨cls, dd, data, sl⟩, ho, hc, n, hd⟩ := id ht
  obtain ⟨⟨cls2, dd2, data2, sl2⟩, ho2, hc2, n2, hd2⟩ := id hb
  simp only at hc hd hc2 hd2
  subst hc hd hc2 hd2
  exact concat_meets ⟨_, ho, rfl⟩ ⟨_, ho2, rfl⟩ noFill_tuple_add seq_tuple_add PySem.F.slot_tuple_add PySem.F.entry_tuple_add (PySem.F.args_tuple_add_2 _ _)
    (tuple_addW0 t b #[] ws.toArray n n2 dd dd2 sl sl2 rfl) ⟨ho, ho2, h1⟩
def wu (μ : Mu) : D → Option (List PyData)
  | .v (.list xs) => some xs
  | .m l => μ l
  | _ => none
theorem E5 {K : PySem.W.Frag} {μ : Mu} {H : Hp} {x : D} {u : V} {xs : List PyData} (ok : eT K μ H) (r : RpD K μ H x u) (h : wu μ x = some xs) : ∃ a us, u = .ref a ∧ H a = some (.lst us) ∧ RpL K μ H xs us := by
  cases x with
  | v d =>
    cases d <;> simp only [wu] at h <;> try cases h
    cases r with
    | list hs _ q => exact ⟨_, _, rfl, hs, q⟩
  | m l =>
    obtain ⟨rfl, ds, hm⟩ := r
    obtain ⟨us, hl, q⟩ := ok l xs h
    exact ⟨l, us, rfl, hl, q⟩
  | s ns => cases h
  | o a => cases h
  | q P => cases h
def Fn : D → D → Mu → DK → Prop := fun x y μ Q => match wu μ x, wu μ y with
  | some xs, some ys => xs.length + ys.length ≤ 1000 ∧ Q (.v (.list (xs ++ ys))) μ
  | _, _ => False
theorem Ji {n : Nat} (h : n ≤ 1000) : n ≤ sizeLine := Nat.le_of_lt (jL h)
theorem Qv {K : PySem.W.Frag} : jI K Q2 Fn := by
  intro x y ux uy H μ Qd Q ok rx ry h k
  unfold Fn at h
  split at h
  · rename_i xs ys hx hy
    obtain ⟨a, us, rfl, ha, ra⟩ := E5 ok rx hx
    obtain ⟨b, ws, rfl, hb, rb⟩ := E5 ok ry hy
    refine ⟨a, b, us, ws, rfl, rfl, ha, hb, Ji (by rw [← ra.length, ← rb.length]; exact h.1), fun p hp => ?_⟩
    exact k (.v _) _ μ _ (eP hp) (ok.new hp) (jR ok (ra.append rb) hp) h.2
  · exact h.elim
noncomputable def Hg (K : PySem.W.Frag) : R2 := fun x y H Q => ∃ a b xs ys, x = .ref a ∧ y = .ref b ∧ SqT K H a xs ∧ SqT K H b ys ∧ xs.length + ys.length ≤ sizeLine ∧
  (xs = [] → Q (.ref b) H) ∧ (ys = [] → Q (.ref a) H) ∧ (∀ p, H p = none → Q (.ref p) (upd H p (.tup (xs ++ ys))))
theorem Np : OpR X (binaryOp .Add) (Hg X.K) := by
  intro pins s σ H x y v u Q I rx ry h
  obtain ⟨a, b, xs, ys, rfl, rfl, ha, hb, hz, q0, q1, q2⟩ := h
  by_cases hx : xs = []
  · subst hx
    cases rx
    cases ry
    obtain ⟨its, r1, p1, _⟩ := I.tuple ha
    obtain ⟨its2, r2, p2, _⟩ := I.tuple hb
    cases r1
    exact NC p1 p2 ⟨.ref b, H, I, rfl, q0 rfl⟩
  · exact Oo pins s σ H _ _ v u Q I rx ry ⟨a, b, xs, ys, rfl, rfl, ha, hb, hx, hz, q1, fun _ => q2⟩
def HA : D → D → Mu → DK → Prop := fun x y μ Q => match x, y with
  | .v (.tuple xs), .v (.tuple ys) => xs.length + ys.length ≤ 1000 ∧ Q (.v (.tuple (xs ++ ys))) μ
  | _, _ => False
theorem OP {K : PySem.W.Frag} : jI K (Hg K) HA := by
  intro x y ux uy H μ Qd Q ok rx ry h k
  unfold HA at h
  split at h
  · rename_i xs ys
    cases id rx with
    | @tuple a us _ ha ra =>
      cases id ry with
      | @tuple b ws _ hb rb =>
        refine ⟨a, b, us, ws, rfl, rfl, ha, hb, Ji (by rw [← ra.length, ← rb.length]; exact h.1), fun z => ?_, fun z => ?_, fun p hp => ?_⟩
        · subst z
          cases ra
          exact k (.v _) _ μ H .refl ok ry (by simpa using h.2)
        · subst z
          cases rb
          exact k (.v _) _ μ H .refl ok rx (by simpa using h.2)
        · exact k (.v _) _ μ _ (eP hp) (ok.new hp) (jU ok (ra.append rb) hp) h.2
  · exact h.elim
end
end L2.DL
set_option Elab.async false
set_option linter.all false
set_option maxRecDepth 100000
set_option maxHeartbeats 4000000
namespace HT
open PySem PyProof.Rows
section
variable {prog : Program} {w : World} {A : Around} {E : Value → Shared → Prop} {s : Shared}
theorem wo {t sl : Addr} {items : Array Value} {vl vu : Value} {lo hi : Option Int} {Q : Value → Shared → Prop} (ht : IsTup s.heap t items) (hs : s.heap.IsSliceOf sl vl vu .none) (pl : IsPart vl lo) (pu : IsPart vu hi)
    (hw : sIx items.size 0 lo = 0 ∧ sIx items.size items.size hi = items.size) (h : Q (.ref t) s) : wpAny (model prog w) A (getItem (.ref t) (.ref sl)) Q E s := by
  obtain ⟨os, hos, hcs, hds⟩ := id hs
  have hTs : s.TypeIs (.ref sl) "slice" := ⟨os, hos, hcs⟩
  unfold getItem
  try with_reducible refine wpAny_holding ?_
  first | refine wpAny_bind (wpAny_pure ?_) | skip
  refine wpAny_bind (wpAny_sequenceKey ht.typeIs (by decide) ?_)
  refine wpAny_bind (wpAny_callSpecial?_slot (name := Str.ofString "__getitem__") ht.typeIs PyProof.Rows.slot_tuple_getitem
    (wpAny_call_entry PyProof.Rows.slot_tuple_getitem ht.typeIs entry_tuple_getitem ?_ (args_tuple_getitem _ _)))
  show wpAny _ _ (Builtin.Tuple.tupleItemsOf (.ref t) >>= _) _ _ s
  refine wpAny_bind (tupleItemsOf_ ht ?_)
  refine wpAny_bind (wpAny_typeOf hTs ?_)
  rw [if_pos (by decide)]
  refine wpAny_bind (oQ hs pl pu ?_)
  have hno : ((((sIx items.size 0 lo : Nat) : Int) == 0 && (1 : Int) == 1 && (sIx items.size items.size hi - sIx items.size 0 lo) == items.size) = true) := by
    rw [hw.1, hw.2]
    simp
  show wpAny _ _ (if (((sIx items.size 0 lo : Nat) : Int) == 0 && (1 : Int) == 1 && (sIx items.size items.size hi - sIx items.size 0 lo) == items.size) = true then _ else _) _ _ s
  rw [if_pos hno]
  refine wpAny_bind ?_
  unfold Builtin.Tuple.tupleIsExact
  refine wpAny_bind (wpAny_typeOf ht.typeIs (wpAny_pure ?_))
  rw [if_pos (by decide)]
  refine wpAny_bind (wpAny_rule ?_)
  exact wpAny_pure ⟨_, rfl, wpAny_pure h⟩
theorem G2 (n : Nat) : Builtin.Slice.sliceAdjust none none (-1) (n : Int) = ((n : Int) - 1, -1) := by
  unfold Builtin.Slice.sliceAdjust
  simp
theorem IG (n : Nat) : Builtin.Slice.slicePlaces ((n : Int) - 1) (-1) (-1) = n := by
  unfold Builtin.Slice.slicePlaces
  simp
  omega
theorem wZ {sl : Addr} {t : Tok} {n : Nat} {Q : Int × Int × Nat → Shared → Prop} (hs : s.heap.IsSliceOf sl .none .none (.int (-1) t))
    (h : Q ((n : Int) - 1, -1, n) s) : wpAny (model prog w) A (Builtin.Slice.sliceApplied (.ref sl) (pure (n : Int))) Q E s := by
  obtain ⟨os, hos, hcs, hds⟩ := id hs
  unfold Builtin.Slice.sliceApplied Builtin.Slice.sliceFields
  refine wpAny_bind (wpAny_bind (wpAny_field hos hds (x := .none) rfl (wpAny_bind (wpAny_field hos hds (x := .none) rfl (wpAny_bind (wpAny_field hos hds (x := .int (-1) t) rfl (wpAny_pure ?_)))))))
  refine wpAny_bind (slicePart_int ?_)
  show wpAny _ _ (if ((-1 : Int) == 0) = true then _ else _) _ _ s
  rw [if_neg (by decide)]
  refine wpAny_bind (slicePart_none (wpAny_bind (slicePart_none (wpAny_bind (wpAny_pure ?_)))))
  show wpAny _ _ (match Builtin.Slice.sliceAdjust none none (-1) (n : Int) with | (lo, hi) => pure (lo, (-1 : Int), Builtin.Slice.slicePlaces lo hi (-1))) _ _ s
  rw [G2]
  show wpAny _ _ (pure ((n : Int) - 1, (-1 : Int), Builtin.Slice.slicePlaces ((n : Int) - 1) (-1) (-1))) _ _ s
  rw [IG]
  exact wpAny_pure h
theorem GA {α β : Type} {f g : α → Option β} : ∀ {l : List α}, (∀ x ∈ l, f x = g x) → l.filterMap f = l.filterMap g
  | [], _ => rfl
  | x :: r, h => by rw [List.filterMap_cons, List.filterMap_cons, h x List.mem_cons_self, GA fun y hy => h y (List.mem_cons_of_mem _ hy)]
theorem Lj (xs : Array Value) : ((List.range xs.size).filterMap fun (m : Nat) => xs[(((xs.size : Int) - 1) + (m : Int) * (-1)).toNat]?).toArray = xs.toList.reverse.toArray := by
  have h := PySem.W.krv_pick xs
  unfold slicePick at h
  rw [PySem.W.krv_bounds] at h
  have h' : ((sliceRange ((xs.size : Int) - 1) (-1) (-1)).filterMap (xs[·]?)).toArray = xs.toList.reverse.toArray := h
  rw [PySem.W.krv_sliceRange, List.filterMap_map] at h'
  rw [← h']
  congr 1
  refine GA fun k hk => ?_
  have := List.mem_range.mp hk
  simp only [Function.comp]
  congr 1
  omega
theorem vL {t sl : Addr} {items : Array Value} {tk : Tok} {Q : Value → Shared → Prop} (ht : IsTup s.heap t items) (hs : s.heap.IsSliceOf sl .none .none (.int (-1) tk))
    (h : Q (.ref s.heap.objs.size) { s with heap := s.heap.push { cls := .type "tuple", data := .seq items.toList.reverse.toArray } })
    (hsz : items.size ≤ sizeLine) : wpAny (model prog w) A (getItem (.ref t) (.ref sl)) Q E s := by
  have htake : sizeOk (.seq items.toList.reverse.toArray) := by
    show items.toList.reverse.toArray.size ≤ sizeLine
    rw [List.size_toArray, List.length_reverse, Array.length_toList]
    omega
  obtain ⟨os, hos, hcs, hds⟩ := id hs
  have hTs : s.TypeIs (.ref sl) "slice" := ⟨os, hos, hcs⟩
  unfold getItem
  try with_reducible refine wpAny_holding ?_
  first | refine wpAny_bind (wpAny_pure ?_) | skip
  refine wpAny_bind (wpAny_sequenceKey ht.typeIs (by decide) ?_)
  refine wpAny_bind (wpAny_callSpecial?_slot (name := Str.ofString "__getitem__") ht.typeIs PyProof.Rows.slot_tuple_getitem
    (wpAny_call_entry PyProof.Rows.slot_tuple_getitem ht.typeIs entry_tuple_getitem ?_ (args_tuple_getitem _ _)))
  show wpAny _ _ (Builtin.Tuple.tupleItemsOf (.ref t) >>= _) _ _ s
  refine wpAny_bind (tupleItemsOf_ ht ?_)
  refine wpAny_bind (wpAny_typeOf hTs ?_)
  rw [if_pos (by decide)]
  refine wpAny_bind (wZ hs ?_)
  have hno : ¬ ((((items.size : Int) - 1) == 0 && (-1 : Int) == 1 && items.size == items.size) = true) := by simp
  show wpAny _ _ (if (((items.size : Int) - 1) == 0 && (-1 : Int) == 1 && items.size == items.size) = true then _ else _) _ _ s
  rw [if_neg hno, Lj]
  first
    | exact wpAny_bind (m := Builtin.Tuple.tupleExact _) (wpAny_newObj_type (wpAny_pure ⟨_, rfl, wpAny_pure h⟩) htake)
    | exact wpAny_bind (m := Builtin.Tuple.tupleExact _) (wpAny_newObj_type (wpAny_bind (wpAny_pure (wpAny_pure ⟨_, rfl, wpAny_pure h⟩))) htake)
    | exact wpAny_bind (wpAny_bind (m := Builtin.Tuple.tupleExact _) (wpAny_newObj_type (wpAny_pure (wpAny_pure ⟨_, rfl, wpAny_pure h⟩)) htake))
    | exact wpAny_bind (wpAny_bind (m := Builtin.Tuple.tupleExact _) (wpAny_newObj_type (wpAny_pure ⟨_, rfl, wpAny_pure h⟩) htake))
end
end HT
namespace L2.DL
open PySem PySem.Spec PyProof.Rows
section
variable {X : Cx} {a b e : Expr} {lo hi : Option Expr} {ta tb te : DTE} {pos p2 : Pos}
def tK {α : Type} (xs : List α) (lo hi : Option Int) : List α := (xs.drop (HT.sIx xs.length 0 lo)).take (HT.sIx xs.length xs.length hi - HT.sIx xs.length 0 lo)
theorem RpL.cut {K : PySem.W.Frag} {μ : Mu} {H : Hp} {ds : List PyData} {us : List V} {lo hi : Option Int} (r : RpL K μ H ds us) : RpL K μ H (tK ds lo hi) (ER us lo hi) := by
  unfold tK ER
  rw [r.length]
  exact (r.drop _).take _
theorem Ou {α : Type} {xs : List α} {lo hi : Option Int} (h : HT.sIx xs.length 0 lo = 0 ∧ HT.sIx xs.length xs.length hi = xs.length) : tK xs lo hi = xs := by
  unfold tK
  rw [h.1, h.2]
  simp
def Ta (K : PySem.W.Frag) : V → Option Int → Option Int → Hp → VK → Prop := fun x lo hi H Q => ∃ a xs, x = .ref a ∧ SqT K H a xs ∧
  (HT.sIx xs.length 0 lo = 0 ∧ HT.sIx xs.length xs.length hi = xs.length → Q (.ref a) H) ∧ ∀ p, H p = none → Q (.ref p) (upd H p (.tup (ER xs lo hi)))
theorem O0 : SlR X (Ta X.K) := by
  intro pins s σ H x v vl vu lo hi sl Q I rx hs pl pu h
  obtain ⟨a, xs, rfl, hx, q1, q⟩ := h
  by_cases hw : HT.sIx xs.length 0 lo = 0 ∧ HT.sIx xs.length xs.length hi = xs.length
  · cases rx
    obtain ⟨its, r, ht, hz⟩ := I.tuple hx
    have hlen : its.toArray.size = xs.length := by rw [List.size_toArray]; exact r.length.symm
    refine ⟨"tuple", _, PyProof.Rows.slot_tuple_getitem.lookup, ht.typeIs, ?_⟩
    exact HT.wo ht hs pl pu (by rw [hlen]; exact hw) ⟨.ref a, H, I, rfl, q1 hw⟩
  · exact RI pins s σ H _ v vl vu lo hi sl Q I rx hs pl pu ⟨a, xs, rfl, hx, hw, q⟩
abbrev DTO := Rho → Mu → (Option Int → Mu → Prop) → Prop
noncomputable def Sk (K : PySem.W.Frag) (t : TO) (td : DTO) : Prop := ∀ (σ : St) (H : Hp) (ρ : Rho) (μ : Mu) (Qd : Option Int → Mu → Prop) (Q : Option Int → Hp → Prop), St0 K H ρ μ σ → td ρ μ Qd →
  (∀ o μ' H', Ext K μ H μ' H' → St0 K H' ρ μ' σ → Qd o μ' → Q o H') → t σ H Q
noncomputable def DO (X : Cx) (e : Option Expr) (td : DTO) : Prop := ∃ t, PO X e t ∧ Sk X.K t td
noncomputable def vR : DTO := fun _ μ Q => Q none μ
noncomputable def FD (t : DTE) : DTO := fun ρ μ Q => t ρ μ fun x μ1 => match x with
  | .v (.int i) => Q (some i) μ1
  | _ => False
theorem CP : DO X none vR := ⟨_, O6, fun σ H ρ μ Qd Q S h k => k none μ H .refl S h⟩
theorem Du (h : DE X e te) : DO X (some e) (FD te) := by
  obtain ⟨t1, p1, l1⟩ := h
  refine ⟨_, Pb p1, fun σ H ρ μ Qd Q S h k => ?_⟩
  refine l1 σ H ρ μ _ _ S h fun x ux μ1 H1 e1 S1 rx h1 => ?_
  split at h1
  · cases rx
    exact ⟨_, rfl, k _ μ1 H1 e1 S1 h1⟩
  · exact h1.elim
noncomputable def KD (x : D) (lo hi : Option Int) (μ : Mu) (Q : DK) : Prop := match x with
  | .v (.tuple xs) => Q (.v (.tuple (tK xs lo hi))) μ
  | .v (.list xs) => Q (.v (.list (tK xs lo hi))) μ
  | .m l => (match μ l with | some xs => Q (.v (.list (tK xs lo hi))) μ | none => False)
  | _ => False
noncomputable def dSl (te : DTE) (tl th : DTO) : DTE := fun ρ μ Q => te ρ μ fun x μ1 => tl ρ μ1 fun l μ2 => th ρ μ2 fun u μ3 => KD x l u μ3 Q
theorem Az {tl th : DTO} (he : DE X e te) (hl : DO X lo tl) (hu : DO X hi th) : DE X (.Subscript e (.Slice lo hi none p2) pos) (dSl te tl th) := by
  obtain ⟨t1, p1, l1⟩ := he
  obtain ⟨t2, p2, l2⟩ := hl
  obtain ⟨t3, p3, l3⟩ := hu
  refine ⟨_, NH (O9.or O0) p1 p2 p3, fun σ H ρ μ Qd Q S h k => ?_⟩
  refine l1 σ H ρ μ _ _ S h fun x ux μ1 H1 e1 S1 rx h1 => ?_
  refine l2 σ H1 ρ μ1 _ _ S1 h1 fun l μ2 H2 e2 S2 h2 => ?_
  refine l3 σ H2 ρ μ2 _ _ S2 h2 fun u μ3 H3 e3 S3 h3 => ?_
  have rx3 := (rx.ext S1.mu e2).ext S2.mu e3
  have ee := e1.trans (e2.trans e3)
  unfold KD at h3
  split at h3
  · rename_i xs
    cases id rx3 with
    | @tuple a us _ ha ra =>
      refine .inr ⟨a, us, rfl, ha, fun hw => ?_, fun p hp => ?_⟩
      · refine k (.v _) _ μ3 H3 ee S3 (show Rp _ _ _ (.tuple (tK xs l u)) _ from ?_) h3
        rw [Ou (by rw [ra.length]; exact hw)]
        exact rx3
      · exact k (.v _) _ μ3 _ (ee.trans (eP hp)) (S3.new hp) (jU S3.mu ra.cut hp) h3
  · rename_i xs
    cases id rx3 with
    | @list a us _ ha hn ra => exact .inl ⟨a, us, rfl, SqL.of ha, fun p hp => k (.v _) _ μ3 _ (ee.trans (eP hp)) (S3.new hp) (jR S3.mu ra.cut hp) h3⟩
  · rename_i a
    obtain ⟨rfl, ds, hm⟩ := rx3
    rw [hm] at h3
    obtain ⟨us, ha, ra⟩ := S3.mu a ds hm
    exact .inl ⟨a, us, rfl, SqL.of ha, fun p hp => k (.v _) _ μ3 _ (ee.trans (eP hp)) (S3.new hp) (jR S3.mu ra.cut hp) h3⟩
  · exact h3.elim
noncomputable def T5 (K : PySem.W.Frag) (te : TE) : TE := fun σ H Q => te σ H fun x H1 => ∃ a xs, x = .ref a ∧ ((SqL K H1 a xs ∧ ∀ p, H1 p = none → Q (.ref p) (upd H1 p (.lst xs.reverse))) ∨ (SqT K H1 a xs ∧ ∀ p, H1 p = none → Q (.ref p) (upd H1 p (.tup xs.reverse))))
theorem Vals.rev {xs : List V} {us : List Value} (h : Vals xs us) : Vals xs.reverse us.reverse := Vals.reverse h
theorem Qa {te : TE} {j : Nat} {pz q2 : Pos} (he : PE X e te) : PE X (.Subscript e (.Slice none none (some (.UnaryOp .USub (.Constant (.int 1) j pz) q2)) p2) pos) (T5 X.K te) := by
  intro pins s σ H Q I h
  refine Subscript_ (thn (he pins s σ H _ I h) fun v s1 ⟨x, H1, I1, r1, q1⟩ => ?_)
  refine wpAny_Slice ?_
  rw [evalPart_none, evalPart_some]
  refine wpAny_pure (wpAny_pure ?_)
  refine thn ((Pu MB (Mq (X := X) (i := 1) (j := j) (pos := pz))) pins s1 σ H1 (fun u H2 => u = .int (-1) ∧ H2 = H1) I1 ⟨1, rfl, rfl, rfl⟩) fun st s2 ⟨z, H2, I2, r2, e2, e3⟩ => ?_
  subst e2 e3
  obtain ⟨tk, rfl⟩ := r2
  have I4 : Inv X pins σ H2 { s2 with heap := s2.heap.push { cls := .type "slice", data := .fields #[.none, .none, .int (-1) tk] } } := I2.kept (t' := s2.toks) fun b ob q => Heap.get?_push_of_some _ q
  obtain ⟨a, xs, rfl, q1⟩ := q1
  cases r1
  have hsl : ({ s2 with heap := s2.heap.push { cls := .type "slice", data := .fields #[.none, .none, .int (-1) tk] } } : Shared).heap.IsSliceOf s2.heap.objs.size .none .none (.int (-1) tk) := Heap.IsSliceOf.new ..
  rcases q1 with ⟨hx, q⟩ | ⟨hx, q⟩
  · obtain ⟨its, r, ht, hz⟩ := I4.list hx
    have hlen := r.length
    refine tail_any (ops := [.ref a, .ref s2.heap.objs.size]) ht.isList.typeIs slot_list_getitem.lookup ?_ (by with_unfolding_all rfl)
    refine wpAny_getItem_list_slice ht.isList hsl .none .none (.int (-1) tk) (by decide) ?_ (by rw [List.size_toArray] <;> omega)
    rw [PySem.W.krv_pick]
    refine ⟨.ref _, _, I4.laid (t' := s2.toks) (o := .lst xs.reverse) (fun b ob q => Heap.get?_push_of_some _ q) (Nat.le_refl _) ?_, rfl, q _ (I4.hok.fresh (Nat.le_refl _))⟩
    exact ⟨by rw [List.length_reverse]; exact hz, _, 0, Vals.rev r, Heap.get?_push_size _ rfl⟩
  · obtain ⟨its, r, ht, hz⟩ := I4.tuple hx
    have hlen := r.length
    refine tail_any (ops := [.ref a, .ref s2.heap.objs.size]) ht.typeIs PyProof.Rows.slot_tuple_getitem.lookup ?_ (by with_unfolding_all rfl)
    refine HT.vL ht hsl ?_ (by rw [List.size_toArray] <;> omega)
    refine ⟨.ref _, _, I4.laid (t' := s2.toks) (o := .tup xs.reverse) (fun b ob q => Heap.get?_push_of_some _ q) (Nat.le_refl _) ?_, rfl, q _ (I4.hok.fresh (Nat.le_refl _))⟩
    exact ⟨by rw [List.length_reverse]; exact hz, _, Vals.rev r, IsTup.new _ _⟩
noncomputable def QE (te : DTE) : DTE := fun ρ μ Q => te ρ μ fun x μ1 => match x with
  | .v (.tuple xs) => Q (.v (.tuple xs.reverse)) μ1
  | .v (.list xs) => Q (.v (.list xs.reverse)) μ1
  | .m l => (match μ1 l with | some xs => Q (.v (.list xs.reverse)) μ1 | none => False)
  | _ => False
theorem Q3 {j : Nat} {pz q2 : Pos} (he : DE X e te) : DE X (.Subscript e (.Slice none none (some (.UnaryOp .USub (.Constant (.int 1) j pz) q2)) p2) pos) (QE te) := by
  obtain ⟨t1, p1, l1⟩ := he
  refine ⟨_, Qa p1, fun σ H ρ μ Qd Q S h k => ?_⟩
  refine l1 σ H ρ μ _ _ S h fun x ux μ1 H1 e1 S1 rx h1 => ?_
  split at h1
  · cases rx with
    | @tuple a us _ ha ra => exact ⟨a, us, rfl, .inr ⟨ha, fun p hp => k (.v _) _ μ1 _ (e1.trans (eP hp)) (S1.new hp) (jU S1.mu ra.reverse hp) h1⟩⟩
  · cases rx with
    | @list a us _ ha hn ra => exact ⟨a, us, rfl, .inl ⟨SqL.of ha, fun p hp => k (.v _) _ μ1 _ (e1.trans (eP hp)) (S1.new hp) (jR S1.mu ra.reverse hp) h1⟩⟩
  · rename_i a
    obtain ⟨rfl, ds, hm⟩ := rx
    rw [hm] at h1
    obtain ⟨us, ha, ra⟩ := S1.mu a ds hm
    exact ⟨a, us, rfl, .inl ⟨SqL.of ha, fun p hp => k (.v _) _ μ1 _ (e1.trans (eP hp)) (S1.new hp) (jR S1.mu ra.reverse hp) h1⟩⟩
  · exact h1.elim
end
open PySem PySem.Spec PyProof.Rows
section
variable {X : Cx} {a b e : Expr} {es : List Expr} {ta tb te : DTE} {t : DTA} {p pos : Pos} {x : Str} {bid T : String}
noncomputable def rB (K : PySem.W.Frag) (r : List V → Hp → VK → Prop) (rd : List D → Mu → DK → Prop) : Prop := ∀ (xs : List D) (us : List V) (H : Hp) (μ : Mu) (Qd : DK) (Q : VK), eT K μ H → nT K μ H xs us → rd xs μ Qd →
  (∀ d u μ' H', Ext K μ H μ' H' → eT K μ' H' → RpD K μ' H' d u → Qd d μ' → Q u H') → r us H Q
noncomputable def dCB (rd : List D → Mu → DK → Prop) (t : DTA) : DTE := fun ρ μ Q => t ρ μ fun ds μ1 => rd ds μ1 Q
theorem Jo {K : PySem.W.Frag} {n : Nat} {r : List V → Hp → VK → Prop} {rd : List D → Mu → DK → Prop} {t1 : TA} (lc : rB K r rd) (l1 : Pr K n t1 t) : vy K (tCB r t1) (dCB rd t) := by
  intro σ H ρ μ Qd Q S h k
  refine l1 σ H ρ μ _ _ S h fun xs us μ1 H1 e1 S1 rs len h1 => ?_
  exact lc xs us H1 μ1 _ _ S1.mu rs h1 fun d u μ' H' e2 ok r q => k d u μ' H' (e1.trans e2) ⟨ok, S1.rho.ext S1.mu e2⟩ r q
theorem lX {r : List V → Hp → VK → Prop} {rd : List D → Mu → DK → Prop} (hc : jf X (.builtin bid) r) (lc : rB X.K r rd) (hg : Gl X x) (hm : X.mg x = none) (hv : bootBuiltins x = some (.builtin bid)) (ha : DA X (e :: es) t) (hn : x ≠ "__name__" := by decide) (hdb : (x == ("__debug__" : Str)) = false := by decide)
    (he : starEach (e :: es) X.env = (false, eval e X.env) :: starEach es X.env := by rfl) (hpl : (backTo pos (starEach es X.env)).any (·.1) = false := by rfl) : DE X (.Call (.Name x p) (e :: es) [] pos) (dCB rd t) := by
  obtain ⟨t1, p1, l1⟩ := ha
  exact ⟨_, Ab hc hg hm hv p1 hn hdb he hpl, Jo lc l1⟩
theorem BW {r : List V → Hp → VK → Prop} {rd : List D → Mu → DK → Prop} (hc : jf X (.type T) r) (lc : rB X.K r rd) (hg : Gl X x) (hm : X.mg x = none) (hv : bootBuiltins x = some (.type T)) (ha : DA X (e :: es) t) (hn : x ≠ "__name__" := by decide) (hdb : (x == ("__debug__" : Str)) = false := by decide)
    (he : starEach (e :: es) X.env = (false, eval e X.env) :: starEach es X.env := by rfl) (hpl : (backTo pos (starEach es X.env)).any (·.1) = false := by rfl) : DE X (.Call (.Name x p) (e :: es) [] pos) (dCB rd t) := by
  obtain ⟨t1, p1, l1⟩ := ha
  exact ⟨_, Ci hc hg hm hv p1 hn hdb he hpl, Jo lc l1⟩
def fE : List D → Mu → DK → Prop := fun xs μ Q => match xs with
  | [.v (.list ys)] => Q (.v (.int (ys.length : Nat))) μ
  | [.v (.tuple ys)] => Q (.v (.int (ys.length : Nat))) μ
  | [.m l] => (match μ l with | some ys => Q (.v (.int (ys.length : Nat))) μ | none => False)
  | [.s ns] => Q (.v (.int (ns.length : Nat))) μ
  | _ => False
theorem PK {K : PySem.W.Frag} : rB K (fun xs H Q => ∃ p ys, xs = [.ref p] ∧ (SqL K H p ys ∨ SqT K H p ys) ∧ Q (.int ys.length) H) fE := by
  intro xs us H μ Qd Q ok rs h k
  unfold fE at h
  split at h
  · cases rs with
    | cons r1 r2 =>
      cases r2
      cases r1 with
      | list hs hn r => exact ⟨_, _, rfl, .inl (SqL.of hs), k (.v _) _ μ H .refl ok (by rw [← r.length]; exact Rp.int _) h⟩
  · cases rs with
    | cons r1 r2 =>
      cases r2
      cases r1 with
      | tuple hs r => exact ⟨_, _, rfl, .inr hs, k (.v _) _ μ H .refl ok (by rw [← r.length]; exact Rp.int _) h⟩
  · cases rs with
    | cons r1 r2 =>
      cases r2
      obtain ⟨rfl, ds, hm⟩ := r1
      rw [hm] at h
      obtain ⟨us, hl, r⟩ := ok _ ds hm
      exact ⟨_, _, rfl, .inl (SqL.of hl), k (.v _) _ μ H .refl ok (by rw [← r.length]; exact Rp.int _) h⟩
  · cases rs with
    | cons r1 r2 =>
      cases r2
      obtain ⟨a, rfl, hs, hn⟩ := r1
      exact ⟨_, _, rfl, .inl hs, k (.v _) _ μ H .refl ok (by rw [List.length_map]; exact Rp.int _) h⟩
  · exact h.elim
theorem fN (hg : Gl X "len") (hm : X.mg "len" = none) (ha : DA X (e :: es) t)
    (he : starEach (e :: es) X.env = (false, eval e X.env) :: starEach es X.env := by rfl) (hpl : (backTo pos (starEach es X.env)).any (·.1) = false := by rfl) : DE X (.Call (.Name "len" p) (e :: es) [] pos) (dCB fE t) :=
  lX DB PK hg hm PySem.boot_len ha (by decide) (by decide) he hpl
def sG : List D → Mu → DK → Prop := fun xs μ Q => match xs with
  | [.v (.int i)] => Q (.v (.int (i.natAbs : Nat))) μ
  | _ => False
theorem PL {K : PySem.W.Frag} : rB K (fun xs H Q => ∃ i, xs = [.int i] ∧ Q (.int (if i < 0 then -i else i)) H) sG := by
  intro xs us H μ Qd Q ok rs h k
  unfold sG at h
  split at h
  · rename_i i
    cases rs with
    | cons r1 r2 =>
      cases r2
      cases r1
      refine ⟨i, rfl, k (.v (.int (i.natAbs : Nat))) _ μ H .refl ok ?_ h⟩
      have : (if i < 0 then -i else i) = ((i.natAbs : Nat) : Int) := by split <;> omega
      rw [this]
      exact Rp.int _
  · exact h.elim
theorem vc (hg : Gl X "abs") (hm : X.mg "abs" = none) (ha : DA X (e :: es) t)
    (he : starEach (e :: es) X.env = (false, eval e X.env) :: starEach es X.env := by rfl) (hpl : (backTo pos (starEach es X.env)).any (·.1) = false := by rfl) : DE X (.Call (.Name "abs" p) (e :: es) [] pos) (dCB sG t) :=
  lX NN PL hg hm PyProof.Rows.Boot.«abs» ha (by decide) (by decide) he hpl
def Jd (g : Int → Int → Int) : List D → Mu → DK → Prop := fun xs μ Q => match xs with
  | [.v (.int i), .v (.int j)] => Q (.v (.int (g i j))) μ
  | _ => False
theorem Px {K : PySem.W.Frag} {g g' : Int → Int → Int} (hg : ∀ i j, g i j = g' i j) : rB K (fun xs H Q => ∃ i j, xs = [.int i, .int j] ∧ Q (.int (g i j)) H) (Jd g') := by
  intro xs us H μ Qd Q ok rs h k
  unfold Jd at h
  split at h
  · rename_i i j
    cases rs with
    | cons r1 r2 =>
      cases r2 with
      | cons r2 r3 =>
        cases r3
        cases r1
        cases r2
        exact ⟨i, j, rfl, k (.v _) _ μ H .refl ok (by rw [hg]; exact Rp.int _) h⟩
  · exact h.elim
theorem QR (hc : X.calm = true) (hg : Gl X "max") (hm : X.mg "max" = none) (ha : DA X (e :: es) t)
    (he : starEach (e :: es) X.env = (false, eval e X.env) :: starEach es X.env := by rfl) (hpl : (backTo pos (starEach es X.env)).any (·.1) = false := by rfl) : DE X (.Call (.Name "max" p) (e :: es) [] pos) (dCB (Jd max) t) :=
  lX (Kq hc) (Px (fun i j => by show (if j > i then j else i) = max i j; simp only [Int.max_def]; split <;> split <;> omega)) hg hm PyProof.Rows.Boot.«max» ha (by decide) (by decide) he hpl
theorem Qe (hc : X.calm = true) (hg : Gl X "min") (hm : X.mg "min" = none) (ha : DA X (e :: es) t)
    (he : starEach (e :: es) X.env = (false, eval e X.env) :: starEach es X.env := by rfl) (hpl : (backTo pos (starEach es X.env)).any (·.1) = false := by rfl) : DE X (.Call (.Name "min" p) (e :: es) [] pos) (dCB (Jd min) t) :=
  lX (K7 hc) (Px (fun i j => by show (if j < i then j else i) = min i j; simp only [Int.min_def]; split <;> split <;> omega)) hg hm PyProof.Rows.Boot.«min» ha (by decide) (by decide) he hpl
def rH : List D → Mu → DK → Prop := fun xs μ Q => match xs with
  | [.v (.int i)] => Q (.v (.int i)) μ
  | [.v (.bool k)] => Q (.v (.int (if k then 1 else 0))) μ
  | _ => False
theorem PH {K : PySem.W.Frag} : rB K (fun xs H Q => (∃ i, xs = [.int i] ∧ Q (.int i) H) ∨ ∃ k, xs = [.bl k] ∧ Q (.int (if k then 1 else 0)) H) rH := by
  intro xs us H μ Qd Q ok rs h k
  unfold rH at h
  split at h
  · rename_i i
    cases rs with
    | cons r1 r2 => cases r2; cases r1; exact .inl ⟨i, rfl, k (.v _) _ μ H .refl ok (Rp.int _) h⟩
  · rename_i b
    cases rs with
    | cons r1 r2 => cases r2; cases r1; exact .inr ⟨b, rfl, k (.v _) _ μ H .refl ok (Rp.int _) h⟩
  · exact h.elim
theorem oK (hg : Gl X "int") (hm : X.mg "int" = none) (ha : DA X (e :: es) t)
    (he : starEach (e :: es) X.env = (false, eval e X.env) :: starEach es X.env := by rfl) (hpl : (backTo pos (starEach es X.env)).any (·.1) = false := by rfl) : DE X (.Call (.Name "int" p) (e :: es) [] pos) (dCB rH t) :=
  BW KN PH hg hm PyProof.Rows.Boot.«int» ha (by decide) (by decide) he hpl
def MG : List D → Mu → DK → Prop := fun xs μ Q => match xs with
  | [.v (.list ys)] => Q (.v (.list ys)) μ
  | [.v (.tuple ys)] => Q (.v (.list ys)) μ
  | _ => False
theorem zK : ∀ {bs : List Bool} {us : List Value}, Vals (bs.map V.bl) us → us = bs.map Value.bool
  | [], _, .nil => rfl
  | b :: r, _, .cons h t => by cases h; rw [zK t]; rfl
theorem K8 (hc : X.calm = true) : jf X (.builtin "all") (fun xs H Q => ∃ (p : Addr) (bs : List Bool), xs = [.ref p] ∧ H p = some (.lst (bs.map V.bl)) ∧ Q (.bl (bs.all id)) H) := by
  intro pins s σ H xs us Q I r h
  obtain ⟨l, bs, rfl, hl, q⟩ := h
  obtain ⟨u, rfl, rx⟩ := vals1 r
  cases rx
  obtain ⟨its, rv, pl, _⟩ := I.list (SqL.of hl)
  have eb := zK rv
  subst eb
  have hL := pl.isList
  have hlt := pl.lt
  refine call_all_walk (wpAny_pyIter_list hL ?_)
  refine ⟨s.heap.objs.size, [s.heap.objs.size, l], [s.heap.objs.size], (bs.map Value.bool).toArray.size, _, _, fun i => (bs[i]?).getD true, rfl, Walks.list (A := X.A.in1) (by exact I.ok.hd hc) _ l (Nat.ne_of_lt hlt) (bs.map Value.bool).toArray,
    ⟨⟨_, Heap.get?_push_size _ rfl, rfl, rfl⟩, hL.push _⟩, fun i v s' Q' E' hP hQ => ?_, fun h' tk hk => ?_⟩
  · have hP' : (bs.map Value.bool)[i]? = some v := by simpa using hP
    rw [List.getElem?_map] at hP'
    cases z : bs[i]? with
    | none => rw [z] at hP'; cases hP'
    | some b =>
      rw [z] at hP'
      cases hP'
      simp only [z, Option.getD_some] at hQ
      exact wpAny_truthy_bool hQ
  · have e : ((List.range (bs.map Value.bool).toArray.size).all fun i => (bs[i]?).getD true) = bs.all id := by
      rw [List.size_toArray, List.length_map]; exact PyProof.Rows.LSm.range_all bs
    rw [e]
    exact ⟨.bl (bs.all id), H, I.kept (PyProof.Rows.LSm.kept_iter hk), rfl, q⟩
def cL : List PyData → Option (List Bool)
  | [] => some []
  | .bool b :: r => (cL r).map (b :: ·)
  | _ :: _ => none
theorem uB {K : PySem.W.Frag} {μ : Mu} {H : Hp} : ∀ {xs : List PyData} {us : List V} {bs : List Bool}, RpL K μ H xs us → cL xs = some bs → us = bs.map V.bl
  | _, _, _, .nil, e => by cases e; rfl
  | .bool b :: r, _, bs, .cons h t, e => by
    simp only [cL] at e
    cases q : cL r with
    | none => rw [q] at e; cases e
    | some cs => rw [q] at e; cases e; cases h; rw [uB t q]; rfl
  | .none :: r, _, bs, .cons h t, e => by simp [cL] at e
  | .int _ :: r, _, bs, .cons h t, e => by simp [cL] at e
  | .str _ :: r, _, bs, .cons h t, e => by simp [cL] at e
  | .list _ :: r, _, bs, .cons h t, e => by simp [cL] at e
  | .tuple _ :: r, _, bs, .cons h t, e => by simp [cL] at e
  | .dict _ :: r, _, bs, .cons h t, e => by simp [cL] at e
def xW : List D → Mu → DK → Prop := fun xs μ Q => match xs with
  | [.v (.list ys)] => (match cL ys with | some bs => Q (.v (.bool (bs.all id))) μ | none => False)
  | _ => False
theorem Q9 {K : PySem.W.Frag} : rB K (fun xs H Q => ∃ (p : Addr) (bs : List Bool), xs = [.ref p] ∧ H p = some (.lst (bs.map V.bl)) ∧ Q (.bl (bs.all id)) H) xW := by
  intro xs us H μ Qd Q ok rs h k
  unfold xW at h
  split at h
  · rename_i ys
    cases q : cL ys with
    | none => rw [q] at h; exact h.elim
    | some bs =>
      rw [q] at h
      cases rs with
      | cons r1 r2 =>
        cases r2
        cases r1 with
        | list hs hn r => exact ⟨_, bs, rfl, by rw [hs, uB r q], k (.v _) _ μ H .refl ok (Rp.bool _) h⟩
  · exact h.elim
theorem CM (hc : X.calm = true) (hg : Gl X "all") (hm : X.mg "all" = none) (ha : DA X (e :: es) t)
    (he : starEach (e :: es) X.env = (false, eval e X.env) :: starEach es X.env := by rfl) (hpl : (backTo pos (starEach es X.env)).any (·.1) = false := by rfl) : DE X (.Call (.Name "all" p) (e :: es) [] pos) (dCB xW t) :=
  lX (K8 hc) Q9 hg hm PyProof.Rows.Boot.«all» ha (by decide) (by decide) he hpl
def tyD : PyData → String
  | .none => "NoneType"
  | .bool _ => "bool"
  | .int _ => "int"
  | .str _ => "str"
  | .list _ => "list"
  | .tuple _ => "tuple"
  | .dict _ => "dict"
def isT (T : String) (d : PyData) : Bool := tyD d == T || (T == "int" && tyD d == "bool")
theorem Ky {pins : List (Addr × Obj)} {σ : St} {H : Hp} {s : Shared} {μ : Mu} {d : PyData} {u : V} {v : Value} {k : Bool} {A : Around} {E : Value → Shared → Prop} {Q : Value → Shared → Prop} (I : Inv X pins σ H s) (r : Rp X.K μ H d u) (rx : RelV u v)
    (ek : PySem.W.kitOne X.K (.type (tyD d)) (.type T) = some k) (h : ∀ tk, Q (.bool k) { s with toks := tk }) : wpAny (model X.prog X.w) A (call (.builtin "isinstance") [v, .type T]) Q E s := by
  cases r with
  | none => cases rx; exact PySem.W.kia_one PySem.W.kitx_none I.kIn True.intro ek (fun z => nomatch z) h
  | bool b => cases rx; exact PySem.W.kia_one PySem.W.kitx_bool I.kIn True.intro ek (fun z => nomatch z) h
  | int i => obtain ⟨t, rfl⟩ := rx; exact PySem.W.kia_one PySem.W.kitx_int I.kIn True.intro ek (fun z => nomatch z) h
  | str y => obtain ⟨t, rfl⟩ := rx; exact PySem.W.kia_one PySem.W.kitx_str I.kIn True.intro ek (fun z => nomatch z) h
  | list hs hn q =>
    cases rx
    obtain ⟨its, rv, ⟨o, n, h1, h2, _⟩, _⟩ := I.list (SqL.of hs)
    exact PySem.W.kia_one PySem.W.kitx_list I.kIn ⟨o, h1, h2⟩ ek (fun z => nomatch z) h
  | tuple hs q =>
    cases rx
    obtain ⟨its, rv, ⟨o, h1, h2, _⟩, _⟩ := I.tuple hs
    exact PySem.W.kia_one PySem.W.kitx_tuple I.kIn ⟨o, h1, h2⟩ ek (fun z => nomatch z) h
theorem JU (K : PySem.W.Frag) (d : PyData) : PySem.W.kitOne K (.type (tyD d)) (.type "int") = some (isT "int" d) := by cases d <;> rfl
theorem E6 (K : PySem.W.Frag) (d : PyData) : PySem.W.kitOne K (.type (tyD d)) (.type "bool") = some (isT "bool" d) := by cases d <;> rfl
theorem kit_tuple (K : PySem.W.Frag) (d : PyData) : PySem.W.kitOne K (.type (tyD d)) (.type "tuple") = some (isT "tuple" d) := by cases d <;> rfl
theorem Oj (K : PySem.W.Frag) (d : PyData) : PySem.W.kitOne K (.type (tyD d)) (.type "str") = some (isT "str" d) := by cases d <;> rfl
theorem Gn (kt : ∀ d, PySem.W.kitOne X.K (.type (tyD d)) (.type T) = some (isT T d)) : jf X (.builtin "isinstance") (fun xs H Q => ∃ μ d u, xs = [u, .ty T] ∧ Rp X.K μ H d u ∧ Q (.bl (isT T d)) H) := by
  intro pins s σ H xs us Q I r h
  obtain ⟨μ, d, u, rfl, rd, q⟩ := h
  obtain ⟨v, w', rfl, r1, r2⟩ := vals2 r
  cases r2
  exact Ky I rd r1 (kt d) fun tk => ⟨.bl (isT T d), H, I.tok _, rfl, q⟩
noncomputable def vw (T : String) (te : DTE) : DTE := fun ρ μ Q => te ρ μ fun x μ1 => match x with
  | .v d => Q (.v (.bool (isT T d))) μ1
  | _ => False
theorem jC {y : Str} {py : Pos} (kt : ∀ d, PySem.W.kitOne X.K (.type (tyD d)) (.type T) = some (isT T d)) (hg : Gl X "isinstance") (hm : X.mg "isinstance" = none) (hgy : Gl X y) (hmy : X.mg y = none) (hvy : bootBuiltins y = some (.type T)) (ha : DE X e te)
    (hny : y ≠ "__name__" := by decide) (hdy : (y == ("__debug__" : Str)) = false := by decide)
    (he : starEach [e, .Name y py] X.env = (false, eval e X.env) :: starEach [.Name y py] X.env := by rfl) (he2 : starEach [.Name y py] X.env = [(false, eval (.Name y py) X.env)] := by rfl) (hpl : (backTo pos (starEach [.Name y py] X.env)).any (·.1) = false := by rfl) : DE X (.Call (.Name "isinstance" p) [e, .Name y py] [] pos) (vw T te) := by
  obtain ⟨t1, p1, l1⟩ := ha
  refine ⟨_, Ab (Gn kt) hg hm PyProof.Rows.Boot.«isinstance» (ql p1 (ql (OU (v := .ty T) hgy hmy hvy rfl hny hdy) xH he2) he) (by decide) (by decide) he hpl, fun σ H ρ μ Qd Q S h k => ?_⟩
  refine l1 σ H ρ μ _ _ S h fun x ux μ1 H1 e1 S1 rx h1 => ?_
  split at h1
  · exact ⟨μ1, _, ux, rfl, rx, k (.v _) _ μ1 H1 e1 S1 (Rp.bool _) h1⟩
  · exact h1.elim
def RT : D → D → Mu → DK → Prop := fun x y μ Q => match x, y with
  | .v (.bool i), .v (.bool j) => Q (.v (.bool (i == j))) μ
  | .v .none, .v .none => Q (.v (.bool true)) μ
  | _, _ => False
end
open PySem PySem.Spec PyProof.Rows
section
variable {X : Cx} {a b e : Expr} {es : List Expr} {ta tb te : DTE} {t : DTA} {p pos : Pos} {st : Stmt} {rest sts : List Stmt} {td ud : DTS} {tc : DTT}
noncomputable def bU : DTS := fun Dd ρ μ => Dd.nx ρ μ
noncomputable def aO (t u : DTS) : DTS := fun Dd ρ μ => t { Dd with nx := u Dd } ρ μ
noncomputable def bI (te : DTE) : DTS := fun Dd ρ μ => te ρ μ Dd.rt
noncomputable def qD (te : DTE) : DTS := fun Dd ρ μ => te ρ μ fun _ μ1 => Dd.nx ρ μ1
noncomputable def cV (c : DTT) (t u : DTS) : DTS := fun Dd ρ μ => c ρ μ fun b μ1 => if b = true then t Dd ρ μ1 else u Dd ρ μ1
theorem aY : DSs X [] bU := ⟨_, Ol, fun σ H ρ μ Dd De S h k1 k2 k3 k4 => k1 σ ρ μ H .refl S h⟩
theorem av (h : DS X st td) : DSs X [st] td := let ⟨t, p, l⟩ := h; ⟨t, OK p, l⟩
theorem lift_seq {K : PySem.W.Frag} {t u : TS} (l1 : Cg K t td) (l2 : Cg K u ud) : Cg K (SS t u) (aO td ud) := by
  intro σ H ρ μ Dd De S h k1 k2 k3 k4
  refine l1 σ H ρ μ _ _ S h (fun σ' ρ' μ' H' e' S' h' => ?_) k2 k3 k4
  exact l2 σ' H' ρ' μ' Dd De S' h' (fun a b c d e2 => k1 a b c d (e'.trans e2)) (fun a b c d e2 => k2 a b c d (e'.trans e2)) (fun a b c d e2 => k3 a b c d (e'.trans e2)) (fun a b c d e2 => k4 a b c d (e'.trans e2))
theorem aj (h1 : DS X st td) (h2 : DSs X rest ud) : DSs X (st :: rest) (aO td ud) := by
  obtain ⟨t1, p1, l1⟩ := h1
  obtain ⟨t2, p2, l2⟩ := h2
  exact ⟨_, MC p1 p2, lift_seq l1 l2⟩
theorem aE (he : DE X e te) : DS X (.Return (some e) pos) (bI te) := by
  obtain ⟨t1, p1, l1⟩ := he
  exact ⟨_, P4 p1, fun σ H ρ μ Dd De S h k1 k2 k3 k4 => l1 σ H ρ μ _ _ S h fun d u μ' H' e' S' r q => k2 d u μ' H' e' S'.mu r q⟩
theorem kj (he : DE X e te) (hs : swapsWith e none pos.line X.env = pure false := by rfl) : DS X (.Expr e pos) (qD te) := by
  obtain ⟨t1, p1, l1⟩ := he
  exact ⟨_, NX p1 hs, fun σ H ρ μ Dd De S h k1 k2 k3 k4 => l1 σ H ρ μ _ _ S h fun d u μ' H' e' S' r q => k1 σ ρ μ' H' e' S' q⟩
theorem bX {c : Expr} {x y : List Stmt} (hc : DT X c tc) (ha : DSs X x td) (hb : DSs X y ud) : DS X (.If c x y pos) (cV tc td ud) := by
  obtain ⟨t0, p0, l0⟩ := hc
  obtain ⟨t1, p1, l1⟩ := ha
  obtain ⟨t2, p2, l2⟩ := hb
  refine ⟨_, Ss p0 p1 p2, fun σ H ρ μ Dd De S h k1 k2 k3 k4 => ?_⟩
  refine l0 σ H ρ μ _ _ S h fun c μ1 H1 e1 S1 h1 => ?_
  cases c with
  | true => exact Bu (l1 σ H1 ρ μ1 Dd De S1 (by simpa using h1) (fun a b c d e2 => k1 a b c d (e1.trans e2)) (fun a b c d e2 => k2 a b c d (e1.trans e2)) (fun a b c d e2 => k3 a b c d (e1.trans e2)) (fun a b c d e2 => k4 a b c d (e1.trans e2)))
  | false => exact BA (l2 σ H1 ρ μ1 Dd De S1 (by simpa using h1) (fun a b c d e2 => k1 a b c d (e1.trans e2)) (fun a b c d e2 => k2 a b c d (e1.trans e2)) (fun a b c d e2 => k3 a b c d (e1.trans e2)) (fun a b c d e2 => k4 a b c d (e1.trans e2)))
abbrev DTG := D → Rho → Mu → (Rho → Mu → Prop) → Prop
abbrev yx := List PyData → Rho → Mu → (Rho → Mu → Prop) → Prop
noncomputable def Nw (K : PySem.W.Frag) (g : TG) (gd : DTG) : Prop := ∀ (σ : St) (H : Hp) (ρ : Rho) (μ : Mu) (d : D) (u : V) (Qd : Rho → Mu → Prop) (Q : St → Hp → Prop), St0 K H ρ μ σ → RpD K μ H d u → gd d ρ μ Qd →
  (∀ σ' ρ' μ' H', Ext K μ H μ' H' → St0 K H' ρ' μ' σ' → Qd ρ' μ' → Q σ' H') → g u σ H Q
noncomputable def QX (K : PySem.W.Frag) (g : TGs) (gd : yx) : Prop := ∀ (σ : St) (H : Hp) (ρ : Rho) (μ : Mu) (ds : List PyData) (us : List V) (Qd : Rho → Mu → Prop) (Q : St → Hp → Prop), St0 K H ρ μ σ → RpL K μ H ds us → gd ds ρ μ Qd →
  (∀ σ' ρ' μ' H', Ext K μ H μ' H' → St0 K H' ρ' μ' σ' → Qd ρ' μ' → Q σ' H') → g us σ H Q
noncomputable def DG (X : Cx) (tg : Expr) (gd : DTG) : Prop := ∃ g, PG X tg g ∧ Nw X.K g gd
noncomputable def DGs (X : Cx) (tg : List Expr) (gd : yx) : Prop := ∃ g, PGs X tg g ∧ QX X.K g gd
theorem kT.set {K : PySem.W.Frag} {μ : Mu} {H : Hp} {ρ : Rho} {σ : St} {i : Nat} {d : D} {u : V} (r : kT K μ H ρ σ) (h : RpD K μ H d u) : kT K μ H (ρ.set i (some d)) (σ.set i (some u)) := by
  refine ⟨by rw [List.length_set, List.length_set]; exact r.1, fun j d' e => ?_⟩
  by_cases hj : i = j
  · subst hj
    have hl : i < ρ.length := by
      have := (List.getElem?_eq_some_iff.mp e).1
      rw [List.length_set] at this
      exact this
    rw [List.getElem?_set_self hl] at e
    cases e
    exact ⟨u, List.getElem?_set_self (by rw [← r.1]; exact hl), h⟩
  · rw [List.getElem?_set_ne hj] at e
    obtain ⟨w, e1, e2⟩ := r.2 j d' e
    exact ⟨w, by rw [List.getElem?_set_ne hj]; exact e1, e2⟩
noncomputable def ay (i : Nat) : DTG := fun d ρ μ Q => Q (ρ.set i (some d)) μ
theorem AM {K : PySem.W.Frag} {i : Nat} : Nw K (NO i) (ay i) := fun σ H ρ μ d u Qd Q S r h k => k _ _ μ H .refl ⟨S.mu, S.rho.set r⟩ h
theorem bC {i : Nat} {x : Str} (hN : X.N.Nodup) (hi : X.N[i]? = some x) (hx : Loc X.env.scope x) (hf : X.fn x = true ∨ X.env.scope.names.lookup x = some .local := by first | exact .inl rfl | exact .inr rfl | assumption) : DG X (.Name x pos) (ay i) := ⟨_, OJ hN hi hx hf, AM⟩
def ug : yx := fun ds ρ μ Q => match ds with
  | [] => Q ρ μ
  | _ => False
def dF (g : DTG) (gs : yx) : yx := fun ds ρ μ Q => match ds with
  | d :: r => g (.v d) ρ μ fun ρ1 μ1 => gs r ρ1 μ1 Q
  | _ => False
theorem mJ : DGs X [] ug := ⟨_, O1, fun σ H ρ μ ds us Qd Q S r h k => by
  cases r with
  | nil => exact ⟨rfl, k σ ρ μ H .refl S h⟩
  | cons _ _ => exact h.elim⟩
theorem cg {g : DTG} {gs : yx} (h1 : DG X e g) (h2 : DGs X es gs) (hs : (assignEach (e :: es) X.env).map (·.2) = assign e X.env :: (assignEach es X.env).map (·.2) := by rfl) : DGs X (e :: es) (dF g gs) := by
  obtain ⟨t1, p1, l1⟩ := h1
  obtain ⟨t2, p2, l2⟩ := h2
  refine ⟨_, MN p1 p2 hs, fun σ H ρ μ ds us Qd Q S r h k => ?_⟩
  cases r with
  | nil => exact h.elim
  | @cons d u ds us r1 r2 =>
    refine ⟨u, us, rfl, l1 σ H ρ μ (.v d) u _ _ S r1 h fun σ' ρ' μ' H' e1 S' h1 => ?_⟩
    exact l2 σ' H' ρ' μ' ds us _ _ S' (r2.ext S.mu e1) h1 fun a b c d e2 => k a b c d (e1.trans e2)
noncomputable def sE (n : Nat) (gs : yx) : DTG := fun d ρ μ Q => match d with
  | .v (.tuple xs) => xs.length = n ∧ gs xs ρ μ Q
  | _ => False
theorem rm {k n : Nat} {gs : yx} (hc : X.calm = X.calm) (h : DGs X es gs)
    (hn : (assignEach es X.env).length = n := by rfl) (hst : (assignEach es X.env).findIdx? (·.1) = none := by rfl) : DG X (.Tuple es k pos) (sE n gs) := by
  obtain ⟨t1, p1, l1⟩ := h
  refine ⟨_, Q6 hc p1 hn hst, fun σ H ρ μ d u Qd Q S r h k => ?_⟩
  unfold sE at h
  split at h
  · cases r with
    | @tuple a us _ ha ra => exact ⟨a, us, rfl, ha, by rw [← ra.length]; exact h.1, l1 σ H ρ μ _ us _ _ S ra h.2 k⟩
  · exact h.elim
noncomputable def J5 (to ti : DTE) : DTG := fun d ρ μ Q => to ρ μ fun o μ1 => ti ρ μ1 fun i μ2 => match o, i, d with
  | .m l, .v (.int k), .v x => (match μ2 l with
    | some xs => (match ixN xs.length k with
      | some j => Q ρ (bD μ2 l (xs.set j x))
      | none => False)
    | none => False)
  | _, _, _ => False
theorem Ls {o i : Expr} {to ti : DTE} (ho : DE X o to) (hi : DE X i ti)
    (ha : ∀ v, assign (.Subscript o i pos) X.env v = (do
      let ov ← holding [v] (eval o X.env)
      let iv ← holding [v, ov] (eval i X.env)
      standAt pos
      holding [v, ov, iv] (setItem ov iv v)
      release [v, ov, iv] []) := by intro _; rfl) : DG X (.Subscript o i pos) (J5 to ti) := by
  obtain ⟨t1, p1, l1⟩ := ho
  obtain ⟨t2, p2, l2⟩ := hi
  refine ⟨_, PN p1 p2 set_list ha, fun σ H ρ μ d u Qd Q S r h k => ?_⟩
  refine l1 σ H ρ μ _ _ S h fun x ux μ1 H1 e1 S1 rx h1 => ?_
  refine l2 σ H1 ρ μ1 _ _ S1 h1 fun y uy μ2 H2 e2 S2 ry h2 => ?_
  have r2 := (r.ext S.mu e1).ext S1.mu e2
  have rx2 := rx.ext S1.mu e2
  split at h2
  · rename_i l kk xv
    obtain ⟨rfl, ds, hm⟩ := rx2
    cases ry
    rw [hm] at h2
    obtain ⟨us, hl, rl⟩ := S2.mu l ds hm
    simp only at h2
    cases q : ixN ds.length kk with
    | none => rw [q] at h2; exact h2.elim
    | some j =>
      rw [q] at h2
      refine ⟨l, us, kk, j, rfl, rfl, hl, by rw [← rl.length]; exact q, ?_⟩
      have ex : Ext X.K μ2 H2 (bD μ2 l (ds.set j xv)) (upd H2 l (.lst (us.set j u))) := wI hm
      exact k σ ρ _ _ (e1.trans (e2.trans ex)) ⟨S2.mu.set hm (rl.set r2 j), S2.rho.ext S2.mu ex⟩ h2
  · exact h2.elim
noncomputable def bJ (te : DTE) (g : DTG) : DTS := fun Dd ρ μ => te ρ μ fun d μ1 => g d ρ μ1 Dd.nx
theorem Gz {K : PySem.W.Frag} {t : TE} {g : TG} {gd : DTG} (l1 : vy K t te) (l2 : Nw K g gd) : Cg K (P6 t g) (bJ te gd) := by
  intro σ H ρ μ Dd De S h k1 k2 k3 k4
  refine l1 σ H ρ μ _ _ S h fun d u μ1 H1 e1 S1 r h1 => ?_
  exact l2 σ H1 ρ μ1 d u _ _ S1 r h1 fun a b c d e2 => k1 a b c d (e1.trans e2)
theorem nM {tg : Expr} {g : DTG} (he : DE X e te) (hg : DG X tg g) (hs : swapsWithSole [tg] e pos.line X.env = pure false := by rfl) (hw : swappedStores [tg] e X.env = pure none := by rfl)
    (h1 : (assignEach [tg] X.env).map (·.2) = [assign tg X.env] := by rfl) : DS X (.Assign [tg] e pos) (bJ te g) := by
  obtain ⟨t1, p1, l1⟩ := he
  obtain ⟨t2, p2, l2⟩ := hg
  exact ⟨_, Ro p1 p2 hs hw h1, Gz l1 l2⟩
theorem aM {i : Nat} {x : Str} {pos' : Pos} (hN : X.N.Nodup) (hi : X.N[i]? = some x) (hx : Loc X.env.scope x) (he : DE X e te) (hs : swapsWith e (some (.Name x pos')) pos.line X.env = pure false := by rfl) (hf : X.fn x = true ∨ X.env.scope.names.lookup x = some .local := by first | exact .inl rfl | exact .inr rfl | assumption) :
    DS X (.Assign [.Name x pos'] e pos) (bJ te (ay i)) := by
  obtain ⟨t1, p1, l1⟩ := he
  exact ⟨_, Rf hN hi hx p1 hs hf, Gz l1 AM⟩
noncomputable def AZ (i j : Nat) (t : DTA) : DTS := fun Dd ρ μ => t ρ μ fun ds μ1 => match ds with
  | [v, w] => Dd.nx ((ρ.set i (some v)).set j (some w)) μ1
  | _ => False
theorem rG {i j : Nat} {x y : Str} {a b : Expr} {t : DTA} {px py pt : Pos} {kt k2 pt2} (hc : X.calm = true) (hN : X.N.Nodup) (hi : X.N[i]? = some x) (hj : X.N[j]? = some y) (hij : i ≠ j)
    (hx : X.env.scope.names.lookup x = some .local) (hy : X.env.scope.names.lookup y = some .local) (ha : DA X [a, b] t)
    (hw : swappedStores [.Tuple [.Name x px, .Name y py] kt pt] (.Tuple [a, b] k2 pt2) X.env = pure (some [x, y]))
    (hs : swapsWithSole [.Tuple [.Name x px, .Name y py] kt pt] (.Tuple [a, b] k2 pt2) pos.line X.env = pure false := by rfl) :
    DS X (.Assign [.Tuple [.Name x px, .Name y py] kt pt] (.Tuple [a, b] k2 pt2) pos) (AZ i j t) := by
  obtain ⟨t1, p1, l1⟩ := ha
  refine ⟨_, Rn hc hN hi hj hij hx hy p1 hw hs, fun σ H ρ μ Dd De S h k1 k2 k3 k4 => ?_⟩
  refine l1 σ H ρ μ _ _ S h fun ds us μ1 H1 e1 S1 rs len h1 => ?_
  split at h1
  · cases rs with
    | cons r1 r2 =>
      cases r2 with
      | cons r2 r3 =>
        cases r3
        exact ⟨_, _, rfl, k1 _ _ μ1 H1 e1 ⟨S1.mu, (S1.rho.set r1).set r2⟩ h1⟩
  · exact h1.elim
noncomputable def IH (c : DTT) (tb : DTS) : DTS := fun Dd ρ μ => ∃ W : Nat → Rho → Mu → Prop, (∃ m, W m ρ μ) ∧ ∀ m ρ μ, W m ρ μ →
  c ρ μ fun b μ1 => if b = true then tb { Dd with nx := fun ρ' μ' => ∃ m', m' < m ∧ W m' ρ' μ', ct := fun ρ' μ' => ∃ m', m' < m ∧ W m' ρ' μ', bk := Dd.nx } ρ μ1 else Dd.nx ρ μ1
theorem GP {c : Expr} {body : List Stmt} (hp : PassesOwn (model X.prog X.w) X.A X.env X.xe) (hc : DT X c tc) (hb : DSs X body td) : DS X (.While c body [] pos) (IH tc td) := by
  obtain ⟨t0, p0, l0⟩ := hc
  obtain ⟨t1, p1, l1⟩ := hb
  refine ⟨_, LF hp p0 p1, fun σ H ρ μ Dd De S h k1 k2 k3 k4 => ?_⟩
  obtain ⟨W, ⟨m, w0⟩, turn⟩ := h
  refine ⟨fun m σ' H' => ∃ ρ' μ', Ext X.K μ H μ' H' ∧ St0 X.K H' ρ' μ' σ' ∧ W m ρ' μ', ⟨m, ρ, μ, .refl, S, w0⟩, ?_⟩
  rintro m σ1 H1 ⟨ρ1, μ1, e1, S1, w1⟩
  refine l0 σ1 H1 ρ1 μ1 _ _ S1 (turn m ρ1 μ1 w1) fun b μ2 H2 e2 S2 h2 => ?_
  cases b with
  | true =>
    refine Bu ⟨fun σ' H' => ∃ m', m' < m ∧ ∃ ρ' μ', Ext X.K μ H μ' H' ∧ St0 X.K H' ρ' μ' σ' ∧ W m' ρ' μ', fun σ' H' ⟨m', hm, q⟩ => ⟨m', hm, q⟩, ?_⟩
    have nxt : ∀ σ' ρ' μ' H', Ext X.K μ2 H2 μ' H' → St0 X.K H' ρ' μ' σ' → (∃ m', m' < m ∧ W m' ρ' μ') → ∃ m', m' < m ∧ ∃ ρ' μ', Ext X.K μ H μ' H' ∧ St0 X.K H' ρ' μ' σ' ∧ W m' ρ' μ' :=
      fun σ' ρ' μ' H' e3 S3 ⟨m', hm, q⟩ => ⟨m', hm, ρ', μ', e1.trans (e2.trans e3), S3, q⟩
    rw [if_pos rfl] at h2
    exact l1 σ1 H2 ρ1 μ2 _ _ S2 h2 nxt (fun a b c d e3 => k2 a b c d (e1.trans (e2.trans e3))) (fun a b c d e3 => k1 a b c d (e1.trans (e2.trans e3))) nxt
  | false => exact BA (k1 σ1 ρ1 μ2 H2 (e1.trans e2) S2 (by simpa using h2))
abbrev DTI := Rho → Mu → (List PyData → Mu → Prop) → Prop
noncomputable def N1 (K : PySem.W.Frag) (J : It) (xs : List PyData) (μ1 : Mu) (H1 : Hp) : Prop := ∀ μ2 H2, Ext K μ1 H1 μ2 H2 → eT K μ2 H2 → ∀ i, (i < xs.length → J.go i H2 ∧ ∀ x H', J.yld i H2 x H' → ∃ d, xs[i]? = some d ∧ u9 H2 H' ∧ Rp K μ2 H' d x) ∧ (i = xs.length → J.stop i H2)
noncomputable def Tn (K : PySem.W.Frag) (wi : TI) (src : DTI) : Prop := ∀ (σ : St) (H : Hp) (ρ : Rho) (μ : Mu) (Qd : List PyData → Mu → Prop) (R : It → Hp → Prop), St0 K H ρ μ σ → src ρ μ Qd →
  (∀ xs μ1 H1 J, Ext K μ H μ1 H1 → St0 K H1 ρ μ1 σ → N1 K J xs μ1 H1 → Qd xs μ1 → R J H1) → wi σ H R
noncomputable def DI (X : Cx) (tg iter : Expr) (src : DTI) : Prop := ∃ wi, PI X tg iter wi ∧ Tn X.K wi src
variable {tg : Expr}
noncomputable def xn (te : DTE) : DTI := fun ρ μ Q => te ρ μ fun d μ1 => match d with
  | .v (.list xs) => Q xs μ1
  | _ => False
noncomputable def oj (te : DTE) : DTI := fun ρ μ Q => te ρ μ fun d μ1 => match d with
  | .v (.tuple xs) => Q xs μ1
  | _ => False
theorem yW (h : DE X e te) : DI X tg e (xn te) := by
  obtain ⟨t1, p1, l1⟩ := h
  refine ⟨_, JE p1, fun σ H ρ μ Qd R S h k => ?_⟩
  refine l1 σ H ρ μ _ _ S h fun d u μ1 H1 e1 S1 r h1 => ?_
  split at h1
  · rename_i xs
    cases r with
    | @list a us _ ha hn ra =>
      refine ⟨a, rfl, ⟨us, SqL.of ha⟩, k xs μ1 H1 _ e1 S1 (fun μ2 H2 e2 ok2 i => ⟨fun hi => ?_, fun hi => ?_⟩) h1⟩
      · have ha2 := e2.keep _ _ ha hn trivial
        have hiu : i < us.length := by rw [← ra.length]; exact hi
        refine ⟨⟨us, us[i], SqL.of ha2, by simp [hiu]⟩, fun x H' ⟨eH, hx⟩ => ?_⟩
        subst eH
        obtain ⟨u', h1', h2'⟩ := ra.get (i := i) (d := xs[i]) (by simp [hi])
        have := hx us (SqL.of ha2)
        rw [h1'] at this
        cases this
        exact ⟨xs[i], by simp [hi], u9.refl _, h2'.ext S1.mu e2⟩
      · exact ⟨us, SqL.of (e2.keep _ _ ha hn trivial), by rw [← ra.length]; omega⟩
  · exact h1.elim
theorem mG (h : DE X e te) : DI X tg e (oj te) := by
  obtain ⟨t1, p1, l1⟩ := h
  refine ⟨_, QM p1, fun σ H ρ μ Qd R S h k => ?_⟩
  refine l1 σ H ρ μ _ _ S h fun d u μ1 H1 e1 S1 r h1 => ?_
  split at h1
  · rename_i xs
    cases r with
    | @tuple a us _ ha ra =>
      refine ⟨a, rfl, ⟨us, ha⟩, k xs μ1 H1 _ e1 S1 (fun μ2 H2 e2 ok2 i => ⟨fun hi => ?_, fun hi => ?_⟩) h1⟩
      · have ha2 := D2 S1.mu e2 ha
        have hiu : i < us.length := by rw [← ra.length]; exact hi
        refine ⟨⟨us, us[i], ha2, by simp [hiu]⟩, fun x H' ⟨eH, hx⟩ => ?_⟩
        subst eH
        obtain ⟨u', h1', h2'⟩ := ra.get (i := i) (d := xs[i]) (by simp [hi])
        have := hx us ha2
        rw [h1'] at this
        cases this
        exact ⟨xs[i], by simp [hi], u9.refl _, h2'.ext S1.mu e2⟩
      · exact ⟨us, D2 S1.mu e2 ha, by rw [← ra.length]; omega⟩
  · exact h1.elim
def sJ (lo : Int) (n : Nat) : List PyData := (List.range n).map fun (i : Nat) => PyData.int (lo + (i : Int))
theorem Lg {K : PySem.W.Frag} {lo : Int} {n : Nat} {μ : Mu} {H : Hp} : N1 K (Itr lo n) (sJ lo n) μ H := fun μ2 H2 e2 ok2 i => by
  have hl : (sJ lo n).length = n := by unfold sJ; simp
  refine ⟨fun hi => ?_, fun hi => ?_⟩
  · rw [hl] at hi
    refine ⟨hi, fun x H' ⟨eH, hx⟩ => ?_⟩
    subst eH hx
    exact ⟨.int (lo + i), by unfold sJ; simp [hi], u9.refl _, .int _⟩
  · show n ≤ i
    omega
noncomputable def uq (t : DTA) : DTI := fun ρ μ Q => t ρ μ fun ds μ1 => match ds with
  | [.v (.int j)] => (-(2 ^ 62) ≤ j ∧ j < 2 ^ 62) ∧ Q (sJ 0 j.toNat) μ1
  | _ => False
noncomputable def zu (t : DTA) : DTI := fun ρ μ Q => t ρ μ fun ds μ1 => match ds with
  | [.v (.int i), .v (.int j)] => (-(2 ^ 62) ≤ i ∧ i < 2 ^ 62 ∧ -(2 ^ 62) ≤ j ∧ j < 2 ^ 62) ∧ Q (sJ i (j - i).toNat) μ1
  | _ => False
theorem vA {a : Expr} {t : DTA} {p pos : Pos} (hg : Gl X "range") (hm : X.mg "range" = none) (ha : DA X [a] t) (hs : starEach [a] X.env = [(false, eval a X.env)] := by rfl) (hc : X.calm = true := by rfl) : DI X tg (.Call (.Name "range" p) [a] [] pos) (uq t) := by
  obtain ⟨t1, p1, l1⟩ := ha
  refine ⟨_, KA hc hg hm p1 hs, fun σ H ρ μ Qd R S h k => ?_⟩
  refine l1 σ H ρ μ _ _ S h fun ds us μ1 H1 e1 S1 rs len h1 => ?_
  split at h1
  · rename_i j
    cases rs with
    | cons r1 r2 => cases r2; cases r1; exact ⟨j, rfl, h1.1.1, h1.1.2, k _ μ1 H1 _ e1 S1 Lg h1.2⟩
  · exact h1.elim
theorem Jk {a b : Expr} {t : DTA} {p pos : Pos} (hg : Gl X "range") (hm : X.mg "range" = none) (ha : DA X [a, b] t) (hs : starEach [a, b] X.env = [(false, eval a X.env), (false, eval b X.env)] := by rfl) (hs2 : starEach [b] X.env = [(false, eval b X.env)] := by rfl) (hc : X.calm = true := by rfl) : DI X tg (.Call (.Name "range" p) [a, b] [] pos) (zu t) := by
  obtain ⟨t1, p1, l1⟩ := ha
  refine ⟨_, Kz hc hg hm p1 hs hs2, fun σ H ρ μ Qd R S h k => ?_⟩
  refine l1 σ H ρ μ _ _ S h fun ds us μ1 H1 e1 S1 rs len h1 => ?_
  split at h1
  · rename_i i j
    cases rs with
    | cons r1 r2 =>
      cases r2 with
      | cons r2 r3 => cases r3; cases r1; cases r2; exact ⟨i, j, rfl, h1.1, k _ μ1 H1 _ e1 S1 Lg h1.2⟩
  · exact h1.elim
noncomputable def vG (src : DTI) (g : DTG) (tb : DTS) : DTS := fun Dd ρ μ => src ρ μ fun xs μ1 => ∃ Pv : Nat → Rho → Mu → Prop, Pv 0 ρ μ1 ∧
  (∀ i x ρ' μ', xs[i]? = some x → Pv i ρ' μ' → g (.v x) ρ' μ' fun ρ2 μ2 => tb { Dd with nx := Pv (i + 1), ct := Pv (i + 1), bk := Dd.nx } ρ2 μ2) ∧ (∀ ρ' μ', Pv xs.length ρ' μ' → Dd.nx ρ' μ')
theorem lY {iter : Expr} {body : List Stmt} {src : DTI} {g : DTG} (hp : PassesOwn (model X.prog X.w) X.A X.env X.xe) (hc : X.calm = true) (hi : DI X tg iter src) (hg : DG X tg g) (hb : DSs X body td)
    (hs : ∀ x, foldedSetIterable iter X.env x = pure x := by intro _; rfl) : DS X (.For tg iter body [] pos) (vG src g td) := by
  obtain ⟨t0, p0, l0⟩ := hi
  obtain ⟨t1, p1, l1⟩ := hg
  obtain ⟨t2, p2, l2⟩ := hb
  refine ⟨_, L0 hp hc p0 p1 p2 hs, fun σ H ρ μ Dd De S h k1 k2 k3 k4 => ?_⟩
  refine l0 σ H ρ μ _ _ S h fun xs μ1 H1 J e1 S1 it h1 => ?_
  obtain ⟨Pv, pv0, turn, fin⟩ := h1
  refine ⟨fun i m σ' H' => m = xs.length - i ∧ i ≤ xs.length ∧ ∃ ρ' μ', Ext X.K μ1 H1 μ' H' ∧ St0 X.K H' ρ' μ' σ' ∧ Pv i ρ' μ', ⟨xs.length, by simp, Nat.zero_le _, ρ, μ1, .refl, S1, pv0⟩, ?_⟩
  rintro i m σ' H' ⟨rfl, hi, ρ', μ', e2, S2, pv⟩
  obtain ⟨go, stop⟩ := it μ' H' e2 S2.mu i
  by_cases hlt : i < xs.length
  · obtain ⟨g1, y1⟩ := go hlt
    refine .inr ⟨g1, fun σ2 H2 => ∃ ρ2 μ2, Ext X.K μ1 H1 μ2 H2 ∧ St0 X.K H2 ρ2 μ2 σ2 ∧ Pv (i + 1) ρ2 μ2, fun σ2 H2 q => ⟨xs.length - (i + 1), by omega, rfl, hlt, q⟩, fun x H2 yl => ?_⟩
    obtain ⟨d, hd, sm, rd⟩ := y1 x H2 yl
    have e3 : Ext X.K μ' H' μ' H2 := .of_same sm
    have S3 : St0 X.K H2 ρ' μ' σ' := ⟨S2.mu.N0 e3 sm, S2.rho.ext S2.mu e3⟩
    refine l1 σ' H2 ρ' μ' (.v d) x _ _ S3 rd (turn i d ρ' μ' hd pv) fun σ4 ρ4 μ4 H4 e4 S4 h4 => ?_
    have nxt : ∀ a b c dd, Ext X.K μ4 H4 c dd → St0 X.K dd b c a → Pv (i + 1) b c → ∃ ρ2 μ2, Ext X.K μ1 H1 μ2 dd ∧ St0 X.K dd ρ2 μ2 a ∧ Pv (i + 1) ρ2 μ2 := fun a b c dd e5 S5 q => ⟨b, c, e2.trans (e3.trans (e4.trans e5)), S5, q⟩
    have ee := e1.trans (e2.trans (e3.trans e4))
    exact l2 σ4 H4 ρ4 μ4 _ _ S4 h4 nxt (fun a b c d e5 => k2 a b c d (ee.trans e5)) (fun a b c d e5 => k1 a b c d (ee.trans e5)) nxt
  · have ei : i = xs.length := by omega
    subst ei
    exact .inl ⟨stop rfl, k1 σ' ρ' μ' H' (e1.trans e2) S2 (fin ρ' μ' pv)⟩
end
abbrev DSp := List D → Mu → DK → Prop
noncomputable def spD (K : PySem.W.Frag) (dsp : DSp) : Sp := fun vs H Q _ => ∃ (ds : List D) (μ : Mu) (Qd : DK), eT K μ H ∧ nT K μ H ds vs ∧ dsp ds μ Qd ∧
  (∀ d u μ' H', Ext K μ H μ' H' → eT K μ' H' → RpD K μ' H' d u → Qd d μ' → Q u H')
def aX (N : List Str) (ds : List D) : Rho := ds.map some ++ List.replicate (N.length - ds.length) none
theorem nT.get {K : PySem.W.Frag} {μ : Mu} {H : Hp} {ds : List D} {us : List V} : ∀ {i : Nat} {d : D}, nT K μ H ds us → ds[i]? = some d → ∃ u, us[i]? = some u ∧ RpD K μ H d u
  | _, _, .nil, h => by simp at h
  | 0, _, .cons r _, h => by simp at h; subst h; exact ⟨_, rfl, r⟩
  | i + 1, d, .cons _ t, h => by
    obtain ⟨u, h1, h2⟩ := nT.get (i := i) (d := d) t (by simpa using h)
    exact ⟨u, by simpa using h1, h2⟩
theorem KC {K : PySem.W.Frag} {μ : Mu} {H : Hp} {N : List Str} {ds : List D} {vs : List V} (r : nT K μ H ds vs) : kT K μ H (aX N ds) (start N vs) := by
  have hl := r.length
  refine ⟨by unfold aX start; simp [hl], fun i d e => ?_⟩
  unfold aX at e
  by_cases hi : i < ds.length
  · rw [List.getElem?_append_left (by simpa using hi), List.getElem?_map] at e
    unfold start
    rw [List.getElem?_append_left (by simpa [hl] using hi), List.getElem?_map]
    cases q : ds[i]? with
    | none => rw [q] at e; cases e
    | some d' =>
      rw [q] at e
      cases e
      obtain ⟨u, h1, h2⟩ := r.get q
      exact ⟨u, by rw [h1]; rfl, h2⟩
  · rw [List.getElem?_append_right (by simpa using hi), List.getElem?_replicate] at e
    split at e <;> cases e
section
variable {P : Program} {w : World} {K : PySem.W.Frag} {mg : Str → Option Value} {base : Heap}
theorem _root_.L2.Fun.okD {x qual : Str} {st : Stmt} {f : Addr} {fd : FuncData} {N ps : List Str} {k : Nat} {dsp : DSp} (F : Fun K x qual st f fd) (S : aI N ps (aC st)) (len : ∀ ds μ Q, dsp ds μ Q → ds.length = ps.length)
    (hbody : ∀ (cdv : Value) (A : Around) (outer : List Env) (s : Shared) (H : Hp) (E : XK), pM k (A.deeper (envOfC qual (aC st) s.heap.objs.size f cdv)) →
      ∃ td, DSs (HN CX0 P w K mg base N qual (aC st) f cdv A outer s H E).nox (mR st) td ∧ ∀ ds μ Qd, dsp ds μ Qd → td { nx := fun _ μ' => Qd (.v .none) μ', rt := Qd } (aX N ds) μ) : bS P w K mg base CX0 (k + 1) f fd ps (spD K dsp) := by
  refine F.ok S (fun vs H Q E h => ?_) (fun cdv A outer s H vs Q E hr h => ?_)
  · obtain ⟨ds, μ, Qd, _, r, h, _⟩ := h
    rw [← r.length]
    exact len ds μ Qd h
  · obtain ⟨ds, μ, Qd, ok, r, h, fin⟩ := h
    obtain ⟨td, ⟨t, p, l⟩, rd⟩ := hbody cdv A outer s H E hr
    refine ⟨t, p, ?_⟩
    exact l (start N vs) H (aX N ds) μ _ _ ⟨ok, KC r⟩ (rd ds μ Qd h) (fun σ' ρ' μ' H' e' S' q => fin (.v .none) .non μ' H' e' S'.mu Rp.none q) (fun d u μ' H' e' ok' r' q => fin d u μ' H' e' ok' r' q) (fun _ _ _ _ _ _ q => q) (fun _ _ _ _ _ _ q => q)
end
section
variable {X : Cx} {e : Expr} {es : List Expr} {t : DTA} {p pos : Pos} {x : Str} {k : Nat} {f : Addr} {fd : FuncData} {ps : List Str} {dsp : DSp}
noncomputable def au (dsp : DSp) (t : DTA) : DTE := fun ρ μ Q => t ρ μ fun ds μ1 => dsp ds μ1 Q
theorem ah (F : bS X.prog X.w X.K X.mg X.base CX0 k f fd ps (spD X.K dsp)) (hr : pM k X.A) (hg : Gl X x) (hm : X.mg x = some (.ref f)) (hk : PySem.W.keepIn X.K (.ref f) = true) (hb : Binds X.K fd ps [])
    (ha : DA X (e :: es) t) (hdb : (x == ("__debug__" : Str)) = false := by decide) (he : starEach (e :: es) X.env = (false, eval e X.env) :: starEach es X.env := by rfl) (hpl : (backTo pos (starEach es X.env)).any (·.1) = false := by rfl) :
    DE X (.Call (.Name x p) (e :: es) [] pos) (au dsp t) := by
  obtain ⟨t1, p1, l1⟩ := ha
  refine ⟨_, Pe F hr hg hm hk hb .nil RX p1 hdb he hpl, fun σ H ρ μ Qd Q S h kk => ?_⟩
  refine l1 σ H ρ μ _ _ S h fun ds us μ1 H1 e1 S1 rs len h1 => ?_
  refine ⟨ds, μ1, Qd, S1.mu, by rw [List.append_nil]; exact rs, h1, fun d u μ' H' e2 ok r q => ?_⟩
  exact kk d u μ' H' (e1.trans e2) ⟨ok, S1.rho.ext S1.mu e2⟩ r q
end
section
variable {X : Cx} {o e : Expr} {to te : DTE} {apos cpos : Pos}
noncomputable def II (to te : DTE) : DTE := fun ρ μ Q => to ρ μ fun x μ1 => match x with
  | .m l => te ρ μ1 fun y μ2 => (match y, μ2 l with
    | .v d, some xs => xs.length < 1000 ∧ Q (.v .none) (bD μ2 l (xs ++ [d]))
    | _, _ => False)
  | _ => False
theorem sW (ho : DE X o to) (ha : DE X e te) (hbase : attributeBase o "append" X.env (eval o X.env) = eval o X.env := by rfl)
    (hfew : ((backTo cpos (starEach [e] X.env)).all (fun x => !x.1) && (backToKw cpos (keywordEach [] X.env)).all (fun x => x.1.isSome)
      && decide ([e].length + ([] : List Keyword).length + (if ([] : List Keyword).isEmpty then 0 else 1) < 30)) = true := by rfl)
    (hline : (apos.endLine == cpos.line) = true := by rfl) (hs : starEach [e] X.env = (false, eval e X.env) :: starEach [] X.env := by rfl) (hplain : (backTo cpos (starEach [] X.env)).any (·.1) = false := by rfl) :
    DE X (.Call (.Attribute o "append" apos) [e] [] cpos) (II to te) := by
  obtain ⟨t1, p1, l1⟩ := ho
  obtain ⟨t2, p2, l2⟩ := ha
  refine ⟨_, Pm PySem.F.plainAttrs_list PySem.F.slot_list_append PySem.F.type_list_append xm p1 (ql p2 xH hs) hbase hfew hline hs hplain, fun σ H ρ μ Qd Q S h k => ?_⟩
  refine l1 σ H ρ μ _ _ S h fun x ux μ1 H1 e1 S1 rx h1 => ?_
  cases x with
  | m l =>
    obtain ⟨rfl, ds, hm⟩ := id rx
    obtain ⟨us, hl, rl⟩ := S1.mu l ds hm
    refine ⟨.inl ⟨rfl, us, SqL.of hl⟩, ?_⟩
    refine l2 σ H1 ρ μ1 _ _ S1 h1 fun y uy μ2 H2 e2 S2 ry h2 => ?_
    obtain ⟨_, ds2, hm2⟩ := rx.ext S1.mu e2
    obtain ⟨us2, hl2, rl2⟩ := S2.mu l ds2 hm2
    rw [hm2] at h2
    cases y with
    | v d =>
      have h3 : ds2.length < 1000 ∧ Qd (.v .none) (bD μ2 l (ds2 ++ [d])) := h2
      refine ⟨l, us2, uy, rfl, rfl, hl2, by rw [← rl2.length]; exact jL (Nat.le_of_lt h3.1), ?_⟩
      have ex : Ext X.K μ2 H2 (bD μ2 l (ds2 ++ [d])) (upd H2 l (.lst (us2 ++ [uy]))) := wI hm2
      exact k (.v .none) .non _ _ (e1.trans (e2.trans ex)) ⟨S2.mu.set hm2 (rl2.append (.cons ry .nil)), S2.rho.ext S2.mu ex⟩ Rp.none h3.2
    | m _ => exact h2.elim
    | s _ => exact h2.elim
    | o _ => exact h2.elim
    | q _ => exact h2.elim
  | v d => exact h1.elim
  | s ns => exact h1.elim
  | o _ => exact h1.elim
  | q _ => exact h1.elim
noncomputable def Up (to te : DTE) : DTE := fun ρ μ Q => to ρ μ fun x μ1 => match x with
  | .m l => te ρ μ1 fun y μ2 => (match y, μ2 l with
    | .v (.list ys), some xs => xs.length + ys.length ≤ 1000 ∧ Q (.v .none) (bD μ2 l (xs ++ ys))
    | _, _ => False)
  | _ => False
noncomputable def SN (to : DTE) : DTE := fun ρ μ Q => to ρ μ fun x μ1 => match x with
  | .v (.int i) => Q (.v (.int (Builtin.Int.intBits i : Nat))) μ1
  | _ => False
end
open PySem PySem.Spec PyProof.Rows
theorem mN {prog : Program} {w : World} {A : Around} {R : Result → Shared → Prop} {s : Shared} {elt target iter : Expr} {ifs : List Expr} {scope : Scope} {pos : Pos} {it acc : Value} {env : Env} (I : Nat → Shared → Prop)
    (turn : ∀ n s, I n s → wpAny (model prog w) A (pyNext it) (fun r s₁ => match r with
      | none => R (.ok .next) s₁
      | some v => wpAny (model prog w) A (letOwnedTupleGo target it v) (fun _ s' => wpAny (model prog w) A (assign target env v) (fun _ s₂ =>
          wpAny (model prog w) A (forIn ifs true fun c r => if r = true then do let ok ← isTrue c env (eval c env); pure (ForInStep.yield ok) else pure (ForInStep.yield r)) (fun ok s₃ =>
            if ok = true then wpAny (model prog w) A (eval elt env) (fun x s₄ =>
              wpAny (model prog w) A (call (.builtin "list.append") [acc, x]) (fun _ s₅ => ∃ m, m < n ∧ I m s₅) (fun _ _ => False) s₄) (fun _ _ => False) s₃
            else ∃ m, m < n ∧ I m s₃) (fun _ _ => False) s₂) (fun _ _ => False) s') (fun _ _ => False) s₁) (fun _ _ => False) s)
    (n : Nat) (h : I n s) :
    codeAny (model prog w) A (.compLoop (.ListComp elt [⟨target, iter, ifs, 0⟩] scope pos) 0 it acc env) R s := by
  refine codeAny_loop rfl I (fun n s hI => ?_) n h
  show wpAny _ A ((compTurn (.ListComp elt [⟨target, iter, ifs, 0⟩] scope pos) 0 it acc env).onRaise (fun x => do noteFrame x env; theTreesLotGoes x)) _ _ s
  refine wpAny_noted ?_
  rw [compTurn_list]
  refine wpAny_bind (wpAny_standAt (wpAny_bind (wpAny_mono (turn n s hI) (fun r s₁ h₁ => ?_) fun _ _ h' => h'.elim)))
  cases r with
  | none => exact wpAny_pure h₁
  | some v =>
    refine wpAny_bind (wpAny_mono h₁ (fun _ s' h' => ?_) fun _ _ h' => h'.elim)
    refine wpAny_bind (wpAny_mono h' (fun _ s₂ h₂ => wpAny_bind (wpAny_mono h₂ (fun ok s₃ h₃ => ?_) fun _ _ h' => h'.elim)) fun _ _ h' => h'.elim)
    cases ok with
    | false => exact wpAny_pure ⟨rfl, h₃⟩
    | true =>
      exact wpAny_bind (wpAny_bind (wpAny_mono h₃ (fun x s₄ h₄ => wpAny_bind (wpAny_mono h₄ (fun _ s₅ h₅ => wpAny_pure (wpAny_pure ⟨rfl, h₅⟩)) fun _ _ h' => h'.elim)) fun _ _ h' => h'.elim))
section
variable {K : PySem.W.Frag} {μ μ' : Mu} {H : Hp}
mutual
theorem Rp.shrink {d : PyData} {u : V} (sub : ∀ a, μ' a = none → μ a = none) : Rp K μ' H d u → Rp K μ H d u
  | .none => .none
  | .bool b => .bool b
  | .int i => .int i
  | .str x => .str x
  | .list h n r => .list h (sub _ n) (RpL.shrink sub r)
  | .tuple h r => .tuple h (RpL.shrink sub r)
theorem RpL.shrink {ds : List PyData} {us : List V} (sub : ∀ a, μ' a = none → μ a = none) : RpL K μ' H ds us → RpL K μ H ds us
  | .nil => .nil
  | .cons h r => .cons (Rp.shrink sub h) (RpL.shrink sub r)
end
end
theorem Ti {X : Cx} {e : Expr} {td : DTE} (h : ∀ (pins : List (Addr × Obj)) (s : Shared) (σ : St) (H : Hp) (ρ : Rho) (μ : Mu) (Qd : DK) (Q : VK), Inv X pins σ H s → St0 X.K H ρ μ σ → td ρ μ Qd →
    (∀ d u μ' H', Ext X.K μ H μ' H' → St0 X.K H' ρ μ' σ → RpD X.K μ' H' d u → Qd d μ' → Q u H') → wpAny (model X.prog X.w) X.A (eval e X.env) (EP X pins σ Q) X.xe s) : DE X e td :=
  ⟨fun σ H Q => ∃ ρ μ Qd, St0 X.K H ρ μ σ ∧ td ρ μ Qd ∧ (∀ d u μ' H', Ext X.K μ H μ' H' → St0 X.K H' ρ μ' σ → RpD X.K μ' H' d u → Qd d μ' → Q u H'),
    fun pins s σ H Q I ⟨ρ, μ, Qd, S, q, k⟩ => h pins s σ H ρ μ Qd Q I S q k, fun σ H ρ μ Qd Q S q k => ⟨ρ, μ, Qd, S, q, k⟩⟩
def cF (X : Cx) (N' : List Str) (scope : Scope) (cl : List (Str × Addr)) (fp : List Addr) (s₃ : Shared) (H₃ : Hp) : Cx :=
  { X with N := N', s₀ := s₃, H₀ := H₃, env := compEnvC scope cl s₃.heap.objs.size X.env, outer := X.stack, stack := X.stack, ex := fp, fn := fun _ => false, pn := X.pn, xe := fun _ _ => False }
def Le : Rho → Rho → Prop
  | [], [] => True
  | none :: r, _ :: r' => Le r r'
  | some d :: r, some d' :: r' => d = d' ∧ Le r r'
  | _, _ => False
theorem Le.get : ∀ {ρ ρ' : Rho}, Le ρ ρ' → ρ.length = ρ'.length ∧ ∀ (i : Nat) d, ρ[i]? = some (some d) → ρ'[i]? = some (some d)
  | [], [], _ => ⟨rfl, fun _ _ h => h⟩
  | none :: r, x :: r', h => by
    obtain ⟨h1, h2⟩ := Le.get (ρ := r) (ρ' := r') h
    refine ⟨congrArg (· + 1) h1, fun i d e => ?_⟩
    cases i with
    | zero => simp at e
    | succ j => exact h2 j d (by simpa using e)
  | some d :: r, some d' :: r', h => by
    obtain ⟨rfl, h⟩ := h
    obtain ⟨h1, h2⟩ := Le.get (ρ := r) (ρ' := r') h
    refine ⟨congrArg (· + 1) h1, fun i d e => ?_⟩
    cases i with
    | zero => simpa using e
    | succ j => exact h2 j d (by simpa using e)
  | some d :: r, none :: r', h => h.elim
  | [], _ :: _, h => h.elim
  | none :: _, [], h => h.elim
  | some _ :: _, [], h => h.elim
def fh {α : Type} (cap : List (Option Nat)) (ρ : List (Option α)) : List (Option α) := cap.map fun o => o.bind fun j => (ρ[j]?).join
noncomputable def vJ (cap : List (Option Nat)) (src : DTI) (g : DTG) (c : DTT) (elt : DTE) : DTE := fun ρ μ Q => src ρ μ fun xs μ1 => xs.length ≤ 1000 ∧ ∃ f : PyData → Option PyData,
  (∀ x ∈ xs, ∀ μ' : Mu, (∀ a ds, μ1 a = some ds → μ' a = some ds) → g (.v x) (fh cap ρ) μ' fun ρ2 μ2 => Le (fh cap ρ) ρ2 ∧ c ρ2 μ2 fun b μ3 =>
    if b = true then elt ρ2 μ3 fun d μ4 => μ4 = μ' ∧ (match d with | .v y => f x = some y | _ => False) else μ3 = μ' ∧ f x = none) ∧ Q (.v (.list (xs.filterMap f))) μ1
noncomputable def Mv (X : Cx) (ifs : List Expr) (c : DTT) : Prop := ∀ (pins : List (Addr × Obj)) (s : Shared) (σ : St) (H : Hp) (ρ : Rho) (μ : Mu) (Qd : Bool → Mu → Prop) (Q : Bool → Hp → Prop), Inv X pins σ H s → St0 X.K H ρ μ σ → c ρ μ Qd →
  (∀ b μ' H', Ext X.K μ H μ' H' → St0 X.K H' ρ μ' σ → Qd b μ' → Q b H') →
  wpAny (model X.prog X.w) X.A (forIn ifs true fun c r => if r = true then do let ok ← isTrue c X.env (eval c X.env); pure (ForInStep.yield ok) else pure (ForInStep.yield r)) (TP X pins σ Q) X.xe s
noncomputable def qM : DTT := fun _ μ Q => Q true μ
theorem iq {X : Cx} : Mv X [] qM := fun pins s σ H ρ μ Qd Q I S h k => wpAny_tests_nil ⟨H, I, k true μ H .refl S h⟩
theorem L3 {X : Cx} {c : Expr} {tc : DTT} (h : DT X c tc) : Mv X [c] tc := by
  obtain ⟨t, p, l⟩ := h
  exact fun pins s σ H ρ μ Qd Q I S h k => wpAny_tests_one (p pins s σ H _ I (l σ H ρ μ _ _ S h k))
theorem Un.after {fs ex : List Addr} {H H1 : Hp} {h h1 h' : Heap} (u : Un fs ex H H1 h h1) (k : ∀ b o, b < h.objs.size → h1.get? b = some o → h'.get? b = some o) : Un fs ex H H1 h h' :=
  ⟨fun b o e n hb hx => k b o (Heap.lt_size e) (u.keep b o e n hb hx), fun b o e n hb hx => let ⟨sl, q⟩ := u.slot b o e n hb hx; ⟨sl, k b _ (Heap.lt_size e) q⟩, u.free, fun b o e hx => let ⟨o', q⟩ := u.there b o e hx; ⟨o', k b _ (Heap.lt_size e) q⟩, u.xp, u.wJ, u.vC⟩
theorem zQ {α : Type} {cap : List (Option Nat)} {ρ : List (Option α)} {i : Nat} {d : α} (h : (fh cap ρ)[i]? = some (some d)) : ∃ j, cap[i]? = some (some j) ∧ ρ[j]? = some (some d) := by
  unfold fh at h
  rw [List.getElem?_map] at h
  cases q : cap[i]? with
  | none => rw [q] at h; cases h
  | some o =>
    rw [q] at h
    cases o with
    | none => cases h
    | some j =>
      refine ⟨j, rfl, ?_⟩
      simp only [Option.map_some, Option.bind_some, Option.some.injEq] at h
      cases z : ρ[j]? with
      | none => rw [z] at h; cases h
      | some y => rw [z] at h; simp only [Option.join_some] at h; rw [h]
theorem Ms {α : Type} {cap : List (Option Nat)} {ρ : List (Option α)} {i j : Nat} {d : α} (h : cap[i]? = some (some j)) (e : ρ[j]? = some (some d)) : (fh cap ρ)[i]? = some (some d) := by
  unfold fh
  rw [List.getElem?_map, h]
  simp [e]
theorem kT.cap {K : PySem.W.Frag} {μ : Mu} {H : Hp} {ρ : Rho} {σ : St} {cap : List (Option Nat)} (r : kT K μ H ρ σ) : kT K μ H (fh cap ρ) (fh cap σ) := by
  refine ⟨by unfold fh; simp, fun i d e => ?_⟩
  obtain ⟨j, h1, h2⟩ := zQ e
  obtain ⟨u, h3, h4⟩ := r.2 j d h2
  exact ⟨u, Ms h1 h3, h4⟩
theorem kT.le {K : PySem.W.Frag} {μ : Mu} {H : Hp} {ρ ρ' : Rho} {σ : St} (r : kT K μ H ρ' σ) (l : Le ρ ρ') : kT K μ H ρ σ :=
  ⟨l.get.1.trans r.1, fun i d e => r.2 i d (l.get.2 i d e)⟩
theorem Eo {xs : List PyData} {f : PyData → Option PyData} {i : Nat} {d : PyData} (h : xs[i]? = some d) : (xs.take (i + 1)).filterMap f = (xs.take i).filterMap f ++ (f d).toList := by
  obtain ⟨hi, e⟩ := List.getElem?_eq_some_iff.mp h
  rw [List.take_succ_eq_append_getElem hi, List.filterMap_append, e]
  cases q : f d <;> simp [q]
theorem pO {X : Cx} {N' : List Str} {scope : Scope} {cl : List (Str × Addr)} {elt iter tg : Expr} {ifs : List Expr} {pos : Pos} {cap : List (Option Nat)} {src : DTI} {g : DTG} {c : DTT} {te : DTE} (hc : X.calm = X.calm)
    (hi : DI X tg iter src) (hg : ∀ fp s₃ H₃, DG (cF X N' scope cl fp s₃ H₃) tg g) (hif : ∀ fp s₃ H₃, Mv (cF X N' scope cl fp s₃ H₃) ifs c) (he : ∀ fp s₃ H₃, DE (cF X N' scope cl fp s₃ H₃) elt te)
    (hclos : closureFor scope X.env = pure cl) (hcell : ∀ y ∈ scope.names, y.2 ≠ .cell) (hkind : scope.kind = .function) (hnames : ∀ y ∈ scope.names, y.2 = .local → scope.names.lookup y.1 = some .local)
    (hcl : ∀ x a, cl.lookup x = some a → X.env.cells.lookup x = some a) (hhas : ∀ x, (relabel scope X.env).names.lookup x = some .cell ∨ (relabel scope X.env).names.lookup x = some .free → ∃ a, cl.lookup x = some a)
    (hlen : cap.length = N'.length) (hcap : ∀ (i j : Nat) (x : Str), cap[i]? = some (some j) → N'[i]? = some x → X.N[j]? = some x ∧ Vis X.env.scope x ∧ X.env.kindOf x ≠ some .local ∧ ((relabel scope X.env).names.lookup x = some .cell ∨ (relabel scope X.env).names.lookup x = some .free))
    (hs : ∀ x, foldedSetIterable iter X.env x = pure x := by intro _; rfl) : DE X (.ListComp elt [⟨tg, iter, ifs, 0⟩] scope pos) (vJ cap src g c te) := by
  refine Ti fun pins s σ H ρ μ Qd Q I S h k => ?_
  obtain ⟨wi, pw, li⟩ := hi
  rw [eval_ListComp]
  refine wpAny_comprehension_free (use := none) rfl hs hclos hkind hnames (thn (pw pins s σ H _ I (li σ H ρ μ _ (fun J H1 => ∃ xs μ1, Ext X.K μ H μ1 H1 ∧ St0 X.K H1 ρ μ1 σ ∧ N1 X.K J xs μ1 H1 ∧ xs.length ≤ 1000 ∧ ∃ f : PyData → Option PyData,
      (∀ x ∈ xs, ∀ μ' : Mu, (∀ a ds, μ1 a = some ds → μ' a = some ds) → g (.v x) (fh cap ρ) μ' fun ρ2 μ2 => Le (fh cap ρ) ρ2 ∧ c ρ2 μ2 fun b μ3 =>
        if b = true then te ρ2 μ3 fun d μ4 => μ4 = μ' ∧ (match d with | .v y => f x = some y | _ => False) else μ3 = μ' ∧ f x = none) ∧ Qd (.v (.list (xs.filterMap f))) μ1) S h (fun xs μ1 H1 J e1 S1 it q => ⟨xs, μ1, e1, S1, it, q⟩)))
    fun v s1 h1 => thn h1 fun itv s2 h2 => ?_)
  obtain ⟨it, fp, tn, J, H2, rfl, I2, T, st2, f2, xs, μ1, e1, S1, itok, hxs, f, body, fin⟩ := h2
  refine wpAny_newObj_type (wpAny_newFunctionEnv hcell (by intro y hy; simp at hy) (fun h₁ hns₁ hsb₁ => ?_) hkind)
  dsimp only at hns₁ hsb₁ ⊢
  have hfree2 : H2 s2.heap.objs.size = none := I2.hok.fresh (Nat.le_refl _)
  have hK2 : X.K.lookup s2.heap.objs.size = none := by
    cases z : X.K.lookup s2.heap.objs.size with
    | none => rfl
    | some o => exact absurd (Heap.lt_size (I2.kIn _ _ z)) (Nat.lt_irrefl _)
  have I3 : Inv X pins σ (upd H2 s2.heap.objs.size (.lst [])) { s2 with heap := s2.heap.push { cls := .type "list", dict := none, data := .seq ([] : List Value).toArray } } :=
    I2.laid (t' := s2.toks) (fun b u e => Heap.get?_push_of_some _ e) (Nat.le_refl _) ⟨Nat.zero_le _, [], 0, .nil, Heap.get?_push_size _ rfl⟩
  generalize hH : s2.heap.push { cls := .type "list", dict := none, data := .seq ([] : List Value).toArray } = hp3 at hns₁ hsb₁ I3 ⊢
  have hsz3 : hp3.objs.size = s2.heap.objs.size + 1 := by rw [← hH, Heap.size_push]
  have kept3 : ∀ b o, hp3.get? b = some o → h₁.get? b = some o := fun b o e => hsb₁.extBut b o (Nat.ne_of_lt (Heap.lt_size e)) (Heap.get?_push_of_some _ e)
  have old3 : ∀ b o, s2.heap.get? b = some o → hp3.get? b = some o := fun b o e => by rw [← hH]; exact Heap.get?_push_of_some _ e
  have fplt : ∀ b ∈ fp, b < s2.heap.objs.size := fun b hb => by obtain ⟨o, e, _⟩ := T.obj 0 _ st2 b hb; exact Heap.lt_size e
  have fpst : ∀ b ∈ fp, b ∉ frs X.stack := fun b hb hz => by
    rcases List.mem_cons.mp (I2.xQ b hz) with e | e
    · exact (f2 b hb).2.1 e
    · exact (f2 b hb).2.2.1 e
  obtain ⟨s3, hs3⟩ : ∃ s3 : Shared, s3 = { s2 with heap := hp3 } := ⟨_, rfl⟩
  obtain ⟨H3, hH3⟩ : ∃ H3 : Hp, H3 = upd H2 s2.heap.objs.size (.lst []) := ⟨_, rfl⟩
  have heap3 : s3.heap = hp3 := by rw [hs3]
  rw [← hH3] at I3
  have I3' : Inv X pins σ H3 s3 := by rw [hs3]; exact I3
  have hloc : H3 hp3.objs.size = none := by have := I3'.hok.fresh (a := hp3.objs.size) (by rw [heap3]; exact Nat.le_refl _); exact this
  have okc : (cF X N' scope cl fp s3 H3).Ok := by
    refine ⟨I3.ok.mod, ?_, I3.ok.glob, I3.ok.blt, Nat.le_refl _, fun x y a h1 h2 => I3.ok.inj x y a (hcl x a h1) (hcl y a h2), fun x hx => hhas x hx, fun x a h => (nomatch h), I3.ok.hd, I3.ok.qt, I3.ok.frames, .inl rfl, fun b hb => ⟨?_, fun x a h => (f2 b hb).2.2.2.2.1 x a (hcl x a h)⟩,
      I3'.bs, Nat.le_trans I3.ok.bsz I3'.sz, fun b o e hb => ?_, fun b hb => fpst b hb, I3'.stack, I3'.C5⟩
    · exact hkind
    · show b ≠ s3.heap.objs.size
      rw [heap3, hsz3]
      exact Nat.ne_of_lt (Nat.lt_succ_of_lt (fplt b hb))
    · rcases (f2 b hb).2.2.2.1 with z | z
      · exact I3.ok.K0 b o e z
      · exact absurd (Nat.lt_of_lt_of_le (Heap.lt_size (I3.ok.bs b o e).1) z) (Nat.lt_irrefl _)
  have I4 : Inv (cF X N' scope cl fp s3 H3) [] (fh cap σ) H3 { s2 with heap := h₁, toks := s2.toks + ([] : List (Str × Value)).length } := by
    refine ⟨okc, by show s2.os = s3.os; rw [hs3], I3.bare, Un.kept (by show ∀ b o, s3.heap.get? b = some o → _; rw [heap3]; exact kept3), ⟨_, (by show h₁.Ns s3.heap.objs.size _; rw [heap3]; exact hns₁), fun i x v e1 e2 e3 => ?_⟩, fun x a h => ?_, (by show H3 s3.heap.objs.size = none; rw [heap3]; exact hloc), fun x a h => I3.qW x a (hcl x a h), fun p hp => ?_, I3.hok.kept kept3, ?_⟩
    · obtain ⟨j, h1, h2⟩ := zQ e2
      obtain ⟨hN, hv, hnl, hk⟩ := hcap i j x h1 e1
      obtain ⟨m, _, hl⟩ := I3.loc
      obtain ⟨u, r, lk⟩ := hl j x v hN h2 hv
      refine ⟨u, r, .inr ⟨hk, ?_⟩⟩
      obtain ⟨a, ha⟩ := hhas x hk
      rcases lk with ⟨z, _⟩ | ⟨_, a', z1, z2⟩
      · exact absurd z hnl
      · have : a' = a := by have q := hcl x a ha; rw [z1] at q; exact Option.some.inj q
        subst this
        obtain ⟨o, ho, hd⟩ := z2
        exact ⟨a', ha, o, kept3 _ _ ho, hd⟩
    · obtain ⟨v, o, ho, hd⟩ := I3.cell x a (hcl x a h)
      exact ⟨v, o, kept3 _ _ ho, hd⟩
    · have hp' : p ∈ X.pn ++ pins := List.mem_append_left _ (by simpa using (show p ∈ X.pn ++ [] from hp))
      obtain ⟨z1, z2, z3, z4, z5⟩ := I3'.pin p hp'
      refine ⟨kept3 _ _ (by rw [← heap3]; exact z1), z2, (show p.1 ≠ s3.heap.objs.size from Nat.ne_of_lt (Heap.lt_size z1)), fun z => ?_, z5⟩
      rcases List.mem_cons.mp (I3'.xQ p.1 z) with e | e
      · exact z3 e
      · exact z4 e
    · show (fh cap σ).length = N'.length
      unfold fh
      rw [List.length_map]
      exact hlen
  have hμ1 : μ1 s2.heap.objs.size = none := S1.mu.free hfree2
  have sub1 : ∀ ys a ds, μ1 a = some ds → bD μ1 s2.heap.objs.size ys a = some ds := fun ys a ds e => by
    have : a ≠ s2.heap.objs.size := fun z => by rw [z, hμ1] at e; cases e
    rw [bV this]; exact e
  have loop : codeAny (model X.prog X.w) X.A (.compLoop (.ListComp elt [⟨tg, iter, ifs, 0⟩] scope pos) 0 (.ref it) (.ref s2.heap.objs.size) (cF X N' scope cl fp s3 H3).env)
      (compPost (model X.prog X.w) X.A X.xe none (EP X pins σ Q) (.ref s2.heap.objs.size) hp3.objs.size) { s2 with heap := h₁, toks := s2.toks + ([] : List (Str × Value)).length } := by
    refine mN (fun n s' => ∃ (i : Nat) (σc : St) (Hc : Hp), n = xs.length - i ∧ i ≤ xs.length ∧ Inv (cF X N' scope cl fp s3 H3) [] σc Hc s' ∧ tn i s'.heap ∧ (∀ b ∈ fp, Hc b = none) ∧
      St0 X.K Hc (fh cap ρ) (bD μ1 s2.heap.objs.size ((xs.take i).filterMap f)) σc ∧ Ext X.K μ1 H2 (bD μ1 s2.heap.objs.size ((xs.take i).filterMap f)) Hc) ?_ xs.length
      ⟨0, fh cap σ, H3, by simp, Nat.zero_le _, I4, T.keep 0 _ _ st2 (fun b hb o e => kept3 b o (old3 b o e)), fun b hb => ?_, ?_, ?_⟩
    · rintro n s' ⟨i, σc, Hc, rfl, hi, Ic, tc, frc, Sc, Ec⟩
      have stat : ∀ {Hd : Hp}, (∀ b ∈ fp, Hd b = none) → ∀ b ∈ fp, Dp (cF X N' scope cl fp s3 H3) [] Hd b := fun hn b hb =>
        ⟨hn b hb, (okc.exf b hb).1, fpst b hb, .inl hb, fun x a h => (okc.exf b hb).2 x a h, fun p hp => (f2 b hb).2.2.2.2.2 p (List.mem_append_left _ (by simpa using (show p ∈ X.pn ++ [] from hp)))⟩
      obtain ⟨go, stop⟩ := itok _ Hc Ec Sc.mu i
      by_cases hlt : i < xs.length
      · obtain ⟨g1, y1⟩ := go hlt
        refine thn (T.item (cF X N' scope cl fp s3 H3) rfl rfl rfl (fun z => z) i [] s' σc Hc (fun _ _ => False) Ic (stat frc) tc g1) fun r s4 ⟨u, hr, h4⟩ => ?_
        subst hr
        refine thn h4 fun _ s5 ⟨x, H5, I5, r5, y5, st5, fr5⟩ => ?_
        obtain ⟨d, hd, sm, rd⟩ := y1 x H5 y5
        have I5' := I5.pinned (stat fr5) (T.obj _ _ st5)
        have e5 : Ext X.K _ Hc _ H5 := .of_same (μ := bD μ1 s2.heap.objs.size ((xs.take i).filterMap f)) sm
        have S5 : St0 X.K H5 (fh cap ρ) (bD μ1 s2.heap.objs.size ((xs.take i).filterMap f)) σc := ⟨Sc.mu.N0 e5 sm, Sc.rho.ext Sc.mu e5⟩
        obtain ⟨gt, pg, lg⟩ := hg fp s3 H3
        have hmem : d ∈ xs := List.mem_of_getElem? hd
        refine thn (pg _ s5 σc H5 x u (fun σ' H' => ∃ ρ' μ', Ext X.K (bD μ1 s2.heap.objs.size ((xs.take i).filterMap f)) H5 μ' H' ∧ St0 X.K H' ρ' μ' σ' ∧ Le (fh cap ρ) ρ' ∧ c ρ' μ' fun b μ3 =>
            if b = true then te ρ' μ3 fun d' μ4 => μ4 = bD μ1 s2.heap.objs.size ((xs.take i).filterMap f) ∧ (match d' with | .v y => f d = some y | _ => False) else μ3 = bD μ1 s2.heap.objs.size ((xs.take i).filterMap f) ∧ f d = none) I5' r5
          (lg σc H5 (fh cap ρ) _ (.v d) x _ _ S5 rd (body d hmem _ (sub1 _)) fun σ' ρ' μ' H' e' S' q => ⟨ρ', μ', e', S', q⟩)) fun _ s6 ⟨σ6, H6, I6, ρ6, μ6, e6, S6, le6, q6⟩ => ?_
        refine thn (hif fp s3 H3 _ s6 σ6 H6 ρ6 μ6 _ (fun b H' => ∃ μ', Ext X.K μ6 H6 μ' H' ∧ St0 X.K H' ρ6 μ' σ6 ∧ if b = true then te ρ6 μ' fun d' μ4 => μ4 = bD μ1 s2.heap.objs.size ((xs.take i).filterMap f) ∧ (match d' with | .v y => f d = some y | _ => False) else μ' = bD μ1 s2.heap.objs.size ((xs.take i).filterMap f) ∧ f d = none)
          I6 S6 q6 fun b μ' H' e' S' q => ⟨μ', e', S', q⟩) fun b s7 ⟨H7, I7, μ7, e7, S7, q7⟩ => ?_
        have again : ∀ {H9 : Hp} {s9 : Shared}, Inv (cF X N' scope cl fp s3 H3) ([] ++ w4 fp s5.heap) σ6 H9 s9 → eT X.K (bD μ1 s2.heap.objs.size ((xs.take (i + 1)).filterMap f)) H9 → kT X.K (bD μ1 s2.heap.objs.size ((xs.take (i + 1)).filterMap f)) H9 (fh cap ρ) σ6 →
            Ext X.K μ1 H2 (bD μ1 s2.heap.objs.size ((xs.take (i + 1)).filterMap f)) H9 → ∃ m, m < xs.length - i ∧ ∃ (i : Nat) (σc : St) (Hc : Hp), m = xs.length - i ∧ i ≤ xs.length ∧ Inv (cF X N' scope cl fp s3 H3) [] σc Hc s9 ∧ tn i s9.heap ∧ (∀ b ∈ fp, Hc b = none) ∧
              St0 X.K Hc (fh cap ρ) (bD μ1 s2.heap.objs.size ((xs.take i).filterMap f)) σc ∧ Ext X.K μ1 H2 (bD μ1 s2.heap.objs.size ((xs.take i).filterMap f)) Hc := fun {H9 s9} I9 m9 r9 e9 => by
          refine ⟨xs.length - (i + 1), by omega, i + 1, σ6, H9, rfl, hlt, I9.oR, T.keep _ _ _ st5 fun b hb o e => (I9.pin (b, o) (List.mem_append_right _ (List.mem_append_right _ (iN hb e)))).1, fun b hb => ?_, ⟨m9, r9⟩, e9⟩
          obtain ⟨o, e, _⟩ := T.obj _ _ st5 b hb
          exact (I9.pin (b, o) (List.mem_append_right _ (List.mem_append_right _ (iN hb e)))).2.1
        cases b with
        | false =>
          have q8 : μ7 = bD μ1 s2.heap.objs.size ((xs.take i).filterMap f) ∧ f d = none := by simpa using q7
          refine BA ?_
          have et : (xs.take (i + 1)).filterMap f = (xs.take i).filterMap f := by rw [Eo hd, q8.2]; simp
          have eμ : bD μ1 s2.heap.objs.size ((xs.take (i + 1)).filterMap f) = μ7 := by rw [et, q8.1]
          refine again I7 (by rw [eμ]; exact S7.mu) (by rw [eμ]; exact S7.rho.le le6) ?_
          rw [eμ]
          exact Ec.trans (e5.trans (e6.trans e7))
        | true =>
          refine Bu ?_
          obtain ⟨t8, p8, l8⟩ := he fp s3 H3
          refine thn (p8 _ s7 σ6 H7 (fun v H' => ∃ y, Ext X.K μ7 H7 (bD μ1 s2.heap.objs.size ((xs.take i).filterMap f)) H' ∧ St0 X.K H' ρ6 (bD μ1 s2.heap.objs.size ((xs.take i).filterMap f)) σ6 ∧ Rp X.K (bD μ1 s2.heap.objs.size ((xs.take i).filterMap f)) H' y v ∧ f d = some y) I7
            (l8 σ6 H7 ρ6 μ7 _ _ S7 (by simpa using q7) fun d' v μ8 H8 e8 S8 r8 q8 => ?_)) fun v s8 ⟨v8, H8, I8, r8, y, e8, S8, ry, fy⟩ => ?_
          · obtain ⟨rfl, q8⟩ := q8
            cases d' with
            | v y => exact ⟨y, e8, S8, r8, q8⟩
            | m _ => exact q8.elim
            | s _ => exact q8.elim
            | o _ => exact q8.elim
            | q _ => exact q8.elim
          · obtain ⟨us, hacc, rus⟩ := S8.mu s2.heap.objs.size _ bL
            have hle : ((xs.take i).filterMap f).length ≤ 1000 := Nat.le_trans (List.length_filterMap_le _ _) (Nat.le_trans (by rw [List.length_take]; exact Nat.min_le_right _ _) hxs)
            refine thn (xm (X := cF X N' scope cl fp s3 H3) _ s8 σ6 H8 (.ref s2.heap.objs.size) [v8] (.ref s2.heap.objs.size) [v] (fun _ H' => H' = upd H8 s2.heap.objs.size (.lst (us ++ [v8]))) I8 rfl (.cons r8 .nil) ⟨_, us, v8, rfl, rfl, hacc, by rw [← rus.length]; exact jL hle, rfl⟩) fun _ s9 ⟨_, H9, I9, _, e9⟩ => ?_
            subst e9
            have et : (xs.take (i + 1)).filterMap f = (xs.take i).filterMap f ++ [y] := by rw [Eo hd, fy]; rfl
            have mset : bD (bD μ1 s2.heap.objs.size ((xs.take i).filterMap f)) s2.heap.objs.size ((xs.take (i + 1)).filterMap f) = bD μ1 s2.heap.objs.size ((xs.take (i + 1)).filterMap f) := xg
            have ex : Ext X.K (bD μ1 s2.heap.objs.size ((xs.take i).filterMap f)) H8 (bD μ1 s2.heap.objs.size ((xs.take (i + 1)).filterMap f)) (upd H8 s2.heap.objs.size (.lst (us ++ [v8]))) := by
              rw [← mset]
              exact wI bL
            refine again I9 ?_ ((S8.rho.le le6).ext S8.mu ex) (Ec.trans (e5.trans (e6.trans (e7.trans (e8.trans ex)))))
            rw [← mset]
            refine S8.mu.set bL ?_
            rw [et]
            exact rus.append (.cons ry .nil)
      · have ei : i = xs.length := by omega
        subst ei
        refine thn (T.done (cF X N' scope cl fp s3 H3) rfl rfl rfl (fun z => z) _ [] s' σc Hc (fun _ _ => False) Ic (stat frc) tc (stop rfl)) fun r s4 ⟨hr, I5⟩ => ?_
        subst hr
        rw [List.take_length] at Sc Ec
        obtain ⟨m, hn, _⟩ := I5.loc
        refine ⟨m, (by have z : s4.heap.Ns s3.heap.objs.size m := hn; rw [heap3] at z; exact z), fun h' hs' => ?_⟩
        have kp : ∀ b o, b < s2.heap.objs.size → s4.heap.get? b = some o → h'.get? b = some o := fun b o hb e => hs'.extBut b o (by rw [hsz3]; exact Nat.ne_of_lt (Nat.lt_succ_of_lt hb)) e
        have hcC : Hc hp3.objs.size = none := by have z : Hc s3.heap.objs.size = none := I5.free; rw [heap3] at z; exact z
        have hok' : HOk X.prog X.w Hc h' := fun b ob e => by
          refine (I5.hok b ob e).Bs (fun cc v hcc q => hs'.extBut cc v ?_ q) (fun _ q => q) fun _ _ q => q
          rintro rfl
          rcases hcc with z | z
          · rw [← z, hcC] at e; cases e
          · rw [hcC] at z; cases z
        have u1 : Un (frs X.stack) fp H2 H3 s2.heap s3.heap := by rw [heap3, hH3]; exact Un.laid old3 (Nat.le_refl _) hfree2
        have u2 : Un (frs X.stack) fp H3 Hc s3.heap s4.heap := I5.base
        have If : Inv X pins σ Hc { s4 with heap := h' } := I2.LY (ch := fp) (by show s4.os = s2.os; have z : s4.os = s3.os := I5.os; rw [z, hs3]) (Un.after (u1.trans u2) kp) hok' I5.bare fun b hb => ⟨(f2 b hb).2.2.2.1, (f2 b hb).2.1, (f2 b hb).2.2.2.2.1, (f2 b hb).2.2.2.2.2⟩
        obtain ⟨us, hacc, rus⟩ := Sc.mu s2.heap.objs.size _ bL
        have shr : ∀ a, bD μ1 s2.heap.objs.size (xs.filterMap f) a = none → μ1 a = none := fun a e => by
          by_cases ha : a = s2.heap.objs.size
          · rw [ha]; exact hμ1
          · rw [bV ha] at e; exact e
        have eF : Ext X.K μ1 H2 μ1 Hc := ⟨Ec.keep, Ec.tb, fun _ ds q => ⟨ds, q⟩, fun _ q _ => q⟩
        have mF : eT X.K μ1 Hc := ⟨fun a ds q => by
          obtain ⟨ys, z1, z2⟩ := Sc.mu a ds (sub1 _ a ds q)
          exact ⟨ys, z1, z2.shrink shr⟩, Sc.mu.tab⟩
        exact ⟨.ref s2.heap.objs.size, Hc, If, rfl, k (.v (.list (xs.filterMap f))) _ μ1 Hc (e1.trans eF) ⟨mF, S1.rho.ext S1.mu eF⟩ (Rp.list hacc hμ1 (rus.shrink shr)) fin⟩
    · have z : b ≠ s2.heap.objs.size := Nat.ne_of_lt (fplt b hb)
      rw [hH3, cW z]
      exact (f2 b hb).1
    · have ex := sQ (o := .lst []) (ds := []) S1.mu hfree2 hK2
      rw [hH3]
      exact ⟨S1.mu.mut .nil hfree2 hK2, (S1.rho.ext S1.mu ex).cap⟩
    · rw [hH3]
      exact sQ (o := .lst []) (ds := []) S1.mu hfree2 hK2
  have envE : (cF X N' scope cl fp s3 H3).env = compEnvC scope cl hp3.objs.size X.env := by show compEnvC scope cl s3.heap.objs.size X.env = _; rw [heap3]
  rw [envE] at loop
  exact codeAny_compStart_list loop (T.self X.A 0 _ _ _ (T.keep 0 _ _ st2 (fun b hb o e => kept3 b o (old3 b o e))) loop)
open PySem PySem.Spec PyProof.Rows
section
variable {X : Cx} {a b c : Expr} {ta tb tc : DTE} {pos : Pos}
noncomputable def zH (r r' : D → D → Mu → DK → Prop) (ta tb tc : DTE) : DTE := fun ρ μ Q => ta ρ μ fun x μ1 => tb ρ μ1 fun y μ2 => r x y μ2 fun z μ3 => match z with
  | .v (.bool k) => if k = true then tc ρ μ3 fun w μ4 => r' y w μ4 Q else Q (.v (.bool false)) μ3
  | _ => False
theorem Mr {op op' : CmpOp} {rr rr' : R2} {r r' : D → D → Mu → DK → Prop} (ho : OpR X (compareOp op) rr) (lo : jI X.K rr r) (ho' : OpR X (compareOp op') rr') (lo' : jI X.K rr' r') (ha : DE X a ta) (hb : DE X b tb) (hc : DE X c tc)
    (hm : lastMarks [op, op'] [b, c] = false := by with_unfolding_all rfl) : DE X (.Compare a [op, op'] [b, c] pos) (zH r r' ta tb tc) := by
  obtain ⟨t1, p1, l1⟩ := ha
  obtain ⟨t2, p2, l2⟩ := hb
  obtain ⟨t3, p3, l3⟩ := hc
  refine ⟨_, Mt ho ho' p1 p2 p3 hm, fun σ H ρ μ Qd Q S h k => ?_⟩
  refine l1 σ H ρ μ _ _ S h fun x ux μ1 H1 e1 S1 rx h1 => ?_
  refine l2 σ H1 ρ μ1 _ _ S1 h1 fun y uy μ2 H2 e2 S2 ry h2 => ?_
  refine lo x y ux uy H2 μ2 _ _ S2.mu (rx.ext S1.mu e2) ry h2 fun z uz μ3 H3 e3 ok3 rz h3 => ?_
  have S3 : St0 X.K H3 ρ μ3 σ := ⟨ok3, S2.rho.ext S2.mu e3⟩
  split at h3
  · rename_i kk
    cases rz
    refine ⟨kk, rfl, ?_⟩
    cases kk with
    | true =>
      refine Bu ?_
      refine l3 σ H3 ρ μ3 _ _ S3 (by simpa using h3) fun w uw μ4 H4 e4 S4 rw' h4 => ?_
      exact lo' y w uy uw H4 μ4 _ _ S4.mu ((ry.ext S2.mu e3).ext S3.mu e4) rw' h4 fun d u μ' H' e5 ok r q => k d u μ' H' (e1.trans (e2.trans (e3.trans (e4.trans e5)))) ⟨ok, S4.rho.ext S4.mu e5⟩ r q
    | false => exact BA (k (.v (.bool false)) _ μ3 H3 (e1.trans (e2.trans e3)) S3 (Rp.bool false) (by simpa using h3))
  · exact h3.elim
end
open PySem PySem.Spec PyProof.Rows
theorem ye {α : Type} {x : α} {xs : List α} : atI (x :: xs) 0 = some x := by unfold atI ixN; simp
theorem B7 {α : Type} {x y : α} {xs : List α} : atI (x :: y :: xs) 1 = some y := by
  have h := k8 (xs := x :: y :: xs) (j := 1) (v := y) rfl
  exact h
theorem Gw {α : Type} {x y z : α} {xs : List α} : atI (x :: y :: z :: xs) 2 = some z := by
  have h := k8 (xs := x :: y :: z :: xs) (j := 2) (v := z) rfl
  exact h
theorem J1 {α : Type} {x y z u : α} {xs : List α} : atI (x :: y :: z :: u :: xs) 3 = some u := by
  have h := k8 (xs := x :: y :: z :: u :: xs) (j := 3) (v := u) rfl
  exact h
def yi : D → D → Mu → DK → Prop := fun x y μ Q => match x, y with
  | .v (.int i), .v (.int j) => Q (.v (.int (i + j))) μ
  | .v (.tuple xs), .v (.tuple ys) => xs.length + ys.length ≤ 1000 ∧ Q (.v (.tuple (xs ++ ys))) μ
  | _, _ => Fn x y μ Q
theorem OpR.or {X : Cx} {f} {r1 r2 : R2} (h1 : OpR X f r1) (h2 : OpR X f r2) : OpR X f (fun x y H Q => r1 x y H Q ∨ r2 x y H Q) := by
  intro pins s σ H x y v u Q I rx ry h
  rcases h with h | h
  · exact h1 pins s σ H x y v u Q I rx ry h
  · exact h2 pins s σ H x y v u Q I rx ry h
theorem QD {K : PySem.W.Frag} : jI K (fun x y H Q => (rI0 fun i j => .int (i + j)) x y H Q ∨ ((Hg K) x y H Q ∨ Q2 x y H Q)) yi := by
  intro x y ux uy H μ Qd Q ok rx ry h k
  unfold yi at h
  split at h
  · exact .inl (JD (K := K) (gd := fun i j => .int (i + j)) (fun _ _ _ _ => .int _) _ _ ux uy H μ Qd Q ok rx ry h k)
  · exact .inr (.inl (OP _ _ ux uy H μ Qd Q ok rx ry h k))
  · exact .inr (.inr (Qv _ _ ux uy H μ Qd Q ok rx ry h k))
theorem NW {X : Cx} {a b : Expr} {ta tb : DTE} {pos : Pos} (ha : DE X a ta) (hb : DE X b tb) : DE X (.BinOp a .Add b pos) (dOp yi ta tb) := Av (Mw.or (Np.or Qm)) QD ha hb
section
variable {ρ : Rho} {μ : Mu} {Q : DK} {QT : Bool → Mu → Prop} {QA : List D → Mu → Prop} {QG : Rho → Mu → Prop} {QI : List PyData → Mu → Prop} {QO : Option Int → Mu → Prop} {Dd : Jw} {ta tb tc : DTE} {t u : DTT} {tA : DTA} {s1 s2 : DTS} {i j : Int} {x y : PyData} {xs ys : List PyData} {d e : D}
noncomputable def xS : DTS := fun _ _ _ => False
theorem vT {X : Cx} {st : Stmt} : DS X st xS := ⟨fun _ _ _ => False, fun _ _ _ _ _ _ h => h.elim, fun _ _ _ _ _ _ _ h => h.elim⟩
theorem Ib {o : Rho} : af 0 (some d :: o) μ Q = Q d μ := propext Iff.rfl
theorem IY {a} {o : Rho} : af 1 (a :: some d :: o) μ Q = Q d μ := propext Iff.rfl
theorem Ij {a b} {o : Rho} : af 2 (a :: b :: some d :: o) μ Q = Q d μ := propext Iff.rfl
theorem IE {a b c} {o : Rho} : af 3 (a :: b :: c :: some d :: o) μ Q = Q d μ := propext Iff.rfl
theorem IZ {a b c f} {o : Rho} : af 4 (a :: b :: c :: f :: some d :: o) μ Q = Q d μ := propext Iff.rfl
theorem HR {a b c f g} {o : Rho} : af 5 (a :: b :: c :: f :: g :: some d :: o) μ Q = Q d μ := propext Iff.rfl
theorem Hj {a b c f g h} {o : Rho} : af 6 (a :: b :: c :: f :: g :: h :: some d :: o) μ Q = Q d μ := propext Iff.rfl
theorem Hz {a b c f g h k} {o : Rho} : af 7 (a :: b :: c :: f :: g :: h :: k :: some d :: o) μ Q = Q d μ := propext Iff.rfl
theorem IM {a b c f g h k l} {o : Rho} : af 8 (a :: b :: c :: f :: g :: h :: k :: l :: some d :: o) μ Q = Q d μ := propext Iff.rfl
theorem Iu {a b c f g h k l m} {o : Rho} : af 9 (a :: b :: c :: f :: g :: h :: k :: l :: m :: some d :: o) μ Q = Q d μ := propext Iff.rfl
theorem DP {a b c f g h k l m n} {o : Rho} : af 10 (a :: b :: c :: f :: g :: h :: k :: l :: m :: n :: some d :: o) μ Q = Q d μ := propext Iff.rfl
theorem q_c : dC x ρ μ Q = Q (.v x) μ := propext Iff.rfl
theorem P7 {r} : dOp r ta tb ρ μ Q = ta ρ μ fun x μ1 => tb ρ μ1 fun y μ2 => r x y μ2 Q := propext Iff.rfl
theorem q_B : dB ta ρ μ QT = ta ρ μ fun d μ1 => match d with | .v (.bool k) => QT k μ1 | _ => False := propext Iff.rfl
theorem QS {C : Int → Int → Prop} {g : Int → Int → PyData} : rII C g (.v (.int i)) (.v (.int j)) μ Q = (C i j ∧ Q (.v (g i j)) μ) := propext Iff.rfl
theorem M7 {g : Int → Int → PyData} : A8 g (.v (.int i)) (.v (.int j)) μ Q = Q (.v (g i j)) μ := propext Iff.rfl
theorem NK : yL ta ρ μ Q = ta ρ μ fun x μ1 => match x with | .v (.int i) => Q (.v (.int (-i))) μ1 | _ => False := propext Iff.rfl
theorem Hy : rj t u ρ μ QT = t ρ μ fun c μ1 => if c = true then u ρ μ1 QT else QT false μ1 := propext Iff.rfl
theorem Lp : jX t u ρ μ QT = t ρ μ fun c μ1 => if c = true then QT true μ1 else u ρ μ1 QT := propext Iff.rfl
theorem Hs : eZ t ρ μ QT = t ρ μ fun c μ1 => QT (!c) μ1 := propext Iff.rfl
theorem Jf : ui ta tb ρ μ Q = ta ρ μ fun x μ1 => match x with | .v (.bool c) => if c = true then tb ρ μ1 Q else Q (.v (.bool false)) μ1 | _ => False := propext Iff.rfl
theorem Lv : Ut ta tb ρ μ Q = ta ρ μ fun x μ1 => match x with | .v (.bool c) => if c = true then Q (.v (.bool true)) μ1 else tb ρ μ1 Q | _ => False := propext Iff.rfl
theorem GY : Ce ta ρ μ Q = ta ρ μ fun x μ1 => match x with | .v (.bool c) => Q (.v (.bool (!c))) μ1 | _ => False := propext Iff.rfl
theorem RF : dIf t ta tb ρ μ Q = t ρ μ fun c μ1 => if c = true then ta ρ μ1 Q else tb ρ μ1 Q := propext Iff.rfl
theorem NG : ar ρ μ QA = QA [] μ := propext Iff.rfl
theorem Hr : ab ta tA ρ μ QA = ta ρ μ fun x μ1 => tA ρ μ1 fun xs μ2 => QA (x :: xs) μ2 := propext Iff.rfl
theorem MO : eC tA ρ μ Q = tA ρ μ fun ds μ1 => match dO ds with | some xs => Q (.v (.tuple xs)) μ1 | none => False := propext Iff.rfl
theorem LO : qS tA ρ μ Q = tA ρ μ fun ds μ1 => match dO ds with | some xs => Q (.v (.list xs)) μ1 | none => False := propext Iff.rfl
theorem Il : B6 tA ρ μ Q = tA ρ μ fun ds μ1 => match dO ds with | some xs => ∀ p, μ1 p = none → Q (.m p) (bD μ1 p xs) | none => False := propext Iff.rfl
theorem MR : dO [] = some [] := by rw [dO]
theorem LM {r : List D} : dO (.v x :: r) = (dO r).map (x :: ·) := by rw [dO]
theorem Gk {neg : Bool} : dD neg (.v x) (.v y) μ Q = (SeqAt.shaped x = true ∧ SeqAt.shaped y = true ∧ Q (.v (.bool (neg ^^ PyData.eqv x y))) μ) := propext Iff.rfl
theorem Nu {neg : Bool} : dD neg (.v (.int i)) (.v (.int j)) μ Q = Q (.v (.bool (neg ^^ decide (i = j)))) μ := by
  have e : PyData.eqv (.int i) (.int j) = decide (i = j) := by simp [PyData.eqv]; rfl
  rw [Gk, e]
  exact propext ⟨fun h => h.2.2, fun h => ⟨rfl, rfl, h⟩⟩
theorem Lw {neg : Bool} : dD neg (.v (.tuple xs)) (.v (.tuple ys)) μ Q = (SeqAt.shaped (.tuple xs) = true ∧ SeqAt.shaped (.tuple ys) = true ∧ Q (.v (.bool (neg ^^ PyData.eqv (.tuple xs) (.tuple ys)))) μ) := propext Iff.rfl
theorem MT {neg : Bool} : dD neg (.v (.list xs)) (.v (.list ys)) μ Q = (SeqAt.shaped (.list xs) = true ∧ SeqAt.shaped (.list ys) = true ∧ Q (.v (.bool (neg ^^ PyData.eqv (.list xs) (.list ys)))) μ) := propext Iff.rfl
theorem Mi {neg a b : Bool} : dD neg (.v (.bool a)) (.v (.bool b)) μ Q = Q (.v (.bool (neg ^^ (a == b)))) μ := by
  have e : PyData.eqv (.bool a) (.bool b) = (a == b) := by cases a <;> cases b <;> simp [PyData.eqv] <;> rfl
  rw [Gk, e]
  exact propext ⟨fun h => h.2.2, fun h => ⟨rfl, rfl, h⟩⟩
theorem M5 {neg : Bool} : Gi neg (.v x) (.v (.list ys)) μ Q = (PyData.canLayAll0 ys = true ∧ x.canLay0 = true ∧ PyData.depth x ≤ 60 ∧ Q (.v (.bool (neg ^^ ys.any fun b => PyData.eqv b x))) μ) := propext Iff.rfl
theorem Ck : aF (.v (.list xs)) (.v (.int i)) μ Q = (match atI xs i with | some d => Q (.v d) μ | none => False) := propext Iff.rfl
theorem zg : aF (.v (.tuple xs)) (.v (.int i)) μ Q = (match atI xs i with | some d => Q (.v d) μ | none => False) := propext Iff.rfl
theorem LU {l : Addr} : aF (.m l) (.v (.int i)) μ Q = (match μ l with | some xs => (match atI xs i with | some d => Q (.v d) μ | none => False) | none => False) := propext Iff.rfl
theorem Nv {ns : List Int} : aF (.s ns) (.v (.int i)) μ Q = (match atI ns i with | some d => Q (.v (.int d)) μ | none => False) := propext Iff.rfl
theorem HY : aF (.v (.list (x :: xs))) (.v (.int 0)) μ Q = Q (.v x) μ := by rw [Ck, ye]
theorem CT : aF (.v (.tuple (x :: xs))) (.v (.int 0)) μ Q = Q (.v x) μ := by rw [zg, ye]
theorem Ja {z} : aF (.v (.list (z :: x :: xs))) (.v (.int 1)) μ Q = Q (.v x) μ := by rw [Ck, B7]
theorem Eb {z} : aF (.v (.tuple (z :: x :: xs))) (.v (.int 1)) μ Q = Q (.v x) μ := by rw [zg, B7]
theorem Hu {z w} : aF (.v (.list (z :: w :: x :: xs))) (.v (.int 2)) μ Q = Q (.v x) μ := by rw [Ck, Gw]
theorem EY {z w} : aF (.v (.tuple (z :: w :: x :: xs))) (.v (.int 2)) μ Q = Q (.v x) μ := by rw [zg, Gw]
theorem GR {z w v} : aF (.v (.tuple (z :: w :: v :: x :: xs))) (.v (.int 3)) μ Q = Q (.v x) μ := by rw [zg, J1]
theorem Ly : Fn d e μ Q = (match wu μ d, wu μ e with | some xs, some ys => xs.length + ys.length ≤ 1000 ∧ Q (.v (.list (xs ++ ys))) μ | _, _ => False) := propext Iff.rfl
theorem HS : HA (.v (.tuple xs)) (.v (.tuple ys)) μ Q = (xs.length + ys.length ≤ 1000 ∧ Q (.v (.tuple (xs ++ ys))) μ) := propext Iff.rfl
theorem Io : yi (.v (.int i)) (.v (.int j)) μ Q = Q (.v (.int (i + j))) μ := propext Iff.rfl
theorem H0 : yi (.v (.tuple xs)) (.v (.tuple ys)) μ Q = (xs.length + ys.length ≤ 1000 ∧ Q (.v (.tuple (xs ++ ys))) μ) := propext Iff.rfl
theorem Hn : yi (.v (.list xs)) (.v (.list ys)) μ Q = (xs.length + ys.length ≤ 1000 ∧ Q (.v (.list (xs ++ ys))) μ) := propext Iff.rfl
theorem I0 {a : Addr} : yi (.m a) e μ Q = Fn (.m a) e μ Q := propext Iff.rfl
theorem P2 {tl th : DTO} : dSl ta tl th ρ μ Q = ta ρ μ fun x μ1 => tl ρ μ1 fun l μ2 => th ρ μ2 fun u μ3 => KD x l u μ3 Q := propext Iff.rfl
theorem zE : vR ρ μ QO = QO none μ := propext Iff.rfl
theorem Hb : FD ta ρ μ QO = ta ρ μ fun x μ1 => match x with | .v (.int i) => QO (some i) μ1 | _ => False := propext Iff.rfl
theorem MX {lo hi : Option Int} : KD (.v (.tuple xs)) lo hi μ Q = Q (.v (.tuple (tK xs lo hi))) μ := propext Iff.rfl
theorem Nh {lo hi : Option Int} : KD (.v (.list xs)) lo hi μ Q = Q (.v (.list (tK xs lo hi))) μ := propext Iff.rfl
theorem LK : QE ta ρ μ Q = ta ρ μ fun x μ1 => match x with | .v (.tuple xs) => Q (.v (.tuple xs.reverse)) μ1 | .v (.list xs) => Q (.v (.list xs.reverse)) μ1 | .m l => (match μ1 l with | some xs => Q (.v (.list xs.reverse)) μ1 | none => False) | _ => False := propext Iff.rfl
theorem PR {rd} : dCB rd tA ρ μ Q = tA ρ μ fun ds μ1 => rd ds μ1 Q := propext Iff.rfl
theorem HX : fE [.v (.list ys)] μ Q = Q (.v (.int (ys.length : Nat))) μ := propext Iff.rfl
theorem HI : fE [.v (.tuple ys)] μ Q = Q (.v (.int (ys.length : Nat))) μ := propext Iff.rfl
theorem Hx {ns : List Int} : fE [.s ns] μ Q = Q (.v (.int (ns.length : Nat))) μ := propext Iff.rfl
theorem IA {l : Addr} : fE [.m l] μ Q = (match μ l with | some ys => Q (.v (.int (ys.length : Nat))) μ | none => False) := propext Iff.rfl
theorem Mp : sG [.v (.int i)] μ Q = Q (.v (.int (i.natAbs : Nat))) μ := propext Iff.rfl
theorem QW {g : Int → Int → Int} : Jd g [.v (.int i), .v (.int j)] μ Q = Q (.v (.int (g i j))) μ := propext Iff.rfl
theorem Je {k : Bool} : rH [.v (.bool k)] μ Q = Q (.v (.int (if k then 1 else 0))) μ := propext Iff.rfl
theorem IJ : rH [.v (.int i)] μ Q = Q (.v (.int i)) μ := propext Iff.rfl
theorem Cv : MG [.v (.list ys)] μ Q = Q (.v (.list ys)) μ := propext Iff.rfl
theorem EW : MG [.v (.tuple ys)] μ Q = Q (.v (.list ys)) μ := propext Iff.rfl
theorem NI : xW [.v (.list ys)] μ Q = (match cL ys with | some bs => Q (.v (.bool (bs.all id))) μ | none => False) := propext Iff.rfl
theorem NP {T : String} : vw T ta ρ μ Q = ta ρ μ fun x μ1 => match x with | .v d => Q (.v (.bool (isT T d))) μ1 | _ => False := propext Iff.rfl
theorem Lm {a b : Bool} : RT (.v (.bool a)) (.v (.bool b)) μ Q = Q (.v (.bool (a == b))) μ := propext Iff.rfl
theorem MM : RT (.v .none) (.v .none) μ Q = Q (.v (.bool true)) μ := propext Iff.rfl
theorem Ek {n : Nat} : ay n d ρ μ QG = QG (ρ.set n (some d)) μ := propext Iff.rfl
theorem GU : ug [] ρ μ QG = QG ρ μ := propext Iff.rfl
theorem DH {g : DTG} {gs : yx} : dF g gs (x :: xs) ρ μ QG = g (.v x) ρ μ fun ρ1 μ1 => gs xs ρ1 μ1 QG := propext Iff.rfl
theorem Ig {n : Nat} {gs : yx} : sE n gs (.v (.tuple xs)) ρ μ QG = (xs.length = n ∧ gs xs ρ μ QG) := propext Iff.rfl
theorem IV : J5 ta tb d ρ μ QG = ta ρ μ fun o μ1 => tb ρ μ1 fun i μ2 => match o, i, d with
  | .m l, .v (.int k), .v x => (match μ2 l with
    | some xs => (match ixN xs.length k with
      | some j => QG ρ (bD μ2 l (xs.set j x))
      | none => False)
    | none => False)
  | _, _, _ => False := propext Iff.rfl
theorem Nx {g : DTG} : bJ ta g Dd ρ μ = ta ρ μ fun d μ1 => g d ρ μ1 Dd.nx := propext Iff.rfl
theorem M3 {i j : Nat} : AZ i j tA Dd ρ μ = tA ρ μ fun ds μ1 => match ds with | [v, w] => Dd.nx ((ρ.set i (some v)).set j (some w)) μ1 | _ => False := propext Iff.rfl
theorem Ie : bU Dd ρ μ = Dd.nx ρ μ := propext Iff.rfl
theorem Jj : aO s1 s2 Dd ρ μ = s1 { Dd with nx := s2 Dd } ρ μ := propext Iff.rfl
theorem Lk : bI ta Dd ρ μ = ta ρ μ Dd.rt := propext Iff.rfl
theorem Jb : qD ta Dd ρ μ = ta ρ μ fun _ μ1 => Dd.nx ρ μ1 := propext Iff.rfl
theorem MD : cV t s1 s2 Dd ρ μ = t ρ μ fun b μ1 => if b = true then s1 Dd ρ μ1 else s2 Dd ρ μ1 := propext Iff.rfl
theorem DC : xS Dd ρ μ = False := propext Iff.rfl
theorem GZ {dsp : DSp} : au dsp tA ρ μ Q = tA ρ μ fun ds μ1 => dsp ds μ1 Q := propext Iff.rfl
theorem Lx : II ta tb ρ μ Q = ta ρ μ fun x μ1 => match x with
  | .m l => tb ρ μ1 fun y μ2 => (match y, μ2 l with
    | .v d, some xs => xs.length < 1000 ∧ Q (.v .none) (bD μ2 l (xs ++ [d]))
    | _, _ => False)
  | _ => False := propext Iff.rfl
theorem LA : Up ta tb ρ μ Q = ta ρ μ fun x μ1 => match x with
  | .m l => tb ρ μ1 fun y μ2 => (match y, μ2 l with
    | .v (.list ys), some xs => xs.length + ys.length ≤ 1000 ∧ Q (.v .none) (bD μ2 l (xs ++ ys))
    | _, _ => False)
  | _ => False := propext Iff.rfl
theorem Ha : SN ta ρ μ Q = ta ρ μ fun x μ1 => match x with | .v (.int i) => Q (.v (.int (Builtin.Int.intBits i : Nat))) μ1 | _ => False := propext Iff.rfl
theorem EV {r r'} : zH r r' ta tb tc ρ μ Q = ta ρ μ fun x μ1 => tb ρ μ1 fun y μ2 => r x y μ2 fun z μ3 => match z with
  | .v (.bool k) => if k = true then tc ρ μ3 fun w μ4 => r' y w μ4 Q else Q (.v (.bool false)) μ3
  | _ => False := propext Iff.rfl
theorem HW : qM ρ μ QT = QT true μ := propext Iff.rfl
theorem zx : xn ta ρ μ QI = ta ρ μ fun d μ1 => match d with | .v (.list xs) => QI xs μ1 | _ => False := propext Iff.rfl
theorem Dz : oj ta ρ μ QI = ta ρ μ fun d μ1 => match d with | .v (.tuple xs) => QI xs μ1 | _ => False := propext Iff.rfl
theorem zO : uq tA ρ μ QI = tA ρ μ fun ds μ1 => match ds with | [.v (.int j)] => (-(2 ^ 62) ≤ j ∧ j < 2 ^ 62) ∧ QI (sJ 0 j.toNat) μ1 | _ => False := propext Iff.rfl
theorem zX : zu tA ρ μ QI = tA ρ μ fun ds μ1 => match ds with | [.v (.int i), .v (.int j)] => (-(2 ^ 62) ≤ i ∧ i < 2 ^ 62 ∧ -(2 ^ 62) ≤ j ∧ j < 2 ^ 62) ∧ QI (sJ i (j - i).toNat) μ1 | _ => False := propext Iff.rfl
theorem rP {src : DTI} {g : DTG} : vG src g s1 Dd ρ μ = src ρ μ fun xs μ1 => ∃ Pv : Nat → Rho → Mu → Prop, Pv 0 ρ μ1 ∧
  (∀ i x ρ' μ', xs[i]? = some x → Pv i ρ' μ' → g (.v x) ρ' μ' fun ρ2 μ2 => s1 { Dd with nx := Pv (i + 1), ct := Pv (i + 1), bk := Dd.nx } ρ2 μ2) ∧ (∀ ρ' μ', Pv xs.length ρ' μ' → Dd.nx ρ' μ') := propext Iff.rfl
theorem HU {cap : List (Option Nat)} {src : DTI} {g : DTG} : vJ cap src g t ta ρ μ Q = src ρ μ fun xs μ1 => xs.length ≤ 1000 ∧ ∃ f : PyData → Option PyData,
  (∀ x ∈ xs, ∀ μ' : Mu, (∀ a ds, μ1 a = some ds → μ' a = some ds) → g (.v x) (fh cap ρ) μ' fun ρ2 μ2 => Le (fh cap ρ) ρ2 ∧ t ρ2 μ2 fun b μ3 =>
    if b = true then ta ρ2 μ3 fun d μ4 => μ4 = μ' ∧ (match d with | .v y => f x = some y | _ => False) else μ3 = μ' ∧ f x = none) ∧ Q (.v (.list (xs.filterMap f))) μ1 := propext Iff.rfl
theorem GX {α : Type} {r : List (Option α)} : fh [] r = [] := rfl
theorem IT {α : Type} {o : Option Nat} {c : List (Option Nat)} {r : List (Option α)} : fh (o :: c) r = (o.bind fun j => (r[j]?).join) :: fh c r := rfl
theorem MY : Le [] [] = True := propext ⟨fun _ => trivial, fun h => h⟩
theorem Mf {r r' : Rho} {o : Option D} : Le (none :: r) (o :: r') = Le r r' := propext Iff.rfl
theorem LG {r r' : Rho} {d d' : D} : Le (some d :: r) (some d' :: r') = (d = d' ∧ Le r r') := propext Iff.rfl
theorem yk {α : Type} (p : α → Bool) : ∀ xs : List α, cL (xs.map fun x => PyData.bool (p x)) = some (xs.map p)
  | [] => rfl
  | x :: r => by rw [List.map_cons, cL, yk p r]; rfl
theorem Kb {α β : Type} (p : α → β) : ∀ xs : List α, xs.filterMap (fun x => some (p x)) = xs.map p
  | [] => rfl
  | x :: r => by rw [List.filterMap_cons, Kb p r]; rfl
end
theorem LI {α β : Type} [BEq α] [LawfulBEq α] {x : α} {k : β} : ∀ {l : List (α × β)}, l.lookup x = some k → (x, k) ∈ l
  | [], h => by cases h
  | (y, j) :: r, h => by
    rw [List.lookup_cons] at h
    cases e : x == y with
    | true =>
      rw [e] at h
      simp only [Option.some.injEq] at h
      have : x = y := eq_of_beq e
      subst this h
      exact List.mem_cons_self
    | false =>
      rw [e] at h
      exact List.mem_cons_of_mem _ (LI h)
def cfK : NameKind → Bool
  | .cell => true
  | .free => true
  | _ => false
theorem mz {names : List (Str × NameKind)} {cl : List (Str × Addr)} (h : (names.all fun y => !(cfK y.2) || (cl.lookup y.1).isSome) = true) (x : Str) (hx : names.lookup x = some .cell ∨ names.lookup x = some .free) : ∃ a, cl.lookup x = some a := by
  rw [List.all_eq_true] at h
  have key : ∀ k, cfK k = true → names.lookup x = some k → ∃ a, cl.lookup x = some a := fun k hk e => by
    have q := h _ (LI e)
    simp only [hk, Bool.not_true, Bool.false_or] at q
    exact Option.isSome_iff_exists.mp q
  rcases hx with e | e
  · exact key _ rfl e
  · exact key _ rfl e
def NL (X : Cx) (sc : Scope) : List (Option Nat) → List Str → Prop
  | none :: c, _ :: n => NL X sc c n
  | some j :: c, x :: n => (X.N[j]? = some x ∧ Vis X.env.scope x ∧ X.env.kindOf x ≠ some .local ∧ ((relabel sc X.env).names.lookup x = some .cell ∨ (relabel sc X.env).names.lookup x = some .free)) ∧ NL X sc c n
  | _, _ => True
theorem j0 {X : Cx} {sc : Scope} : ∀ {c : List (Option Nat)} {n : List Str}, NL X sc c n → ∀ (i j : Nat) (x : Str), c[i]? = some (some j) → n[i]? = some x →
    X.N[j]? = some x ∧ Vis X.env.scope x ∧ X.env.kindOf x ≠ some .local ∧ ((relabel sc X.env).names.lookup x = some .cell ∨ (relabel sc X.env).names.lookup x = some .free)
  | [], _, _, i, j, x, h, _ => by simp at h
  | _ :: _, [], _, i, j, x, _, h => by simp at h
  | none :: c, y :: n, k, 0, j, x, h, _ => by simp at h
  | none :: c, y :: n, k, i + 1, j, x, h, g => j0 (c := c) (n := n) k i j x (by simpa using h) (by simpa using g)
  | some l :: c, y :: n, k, 0, j, x, h, g => by
    simp only [List.getElem?_cons_zero, Option.some.injEq] at h g
    subst h g
    exact k.1
  | some l :: c, y :: n, k, i + 1, j, x, h, g => j0 (c := c) (n := n) k.2 i j x (by simpa using h) (by simpa using g)
theorem xk {X : Cx} {sc : Scope} {j : Nat} {x : Str} (h1 : X.N[j]? = some x := by rfl) (h2 : Vis X.env.scope x := by first | exact Or.inl rfl | exact Or.inr (Or.inl rfl) | exact Or.inr (Or.inr rfl)) (h3 : X.env.kindOf x ≠ some .local := by first | (intro z; cases z) | exact (fun z => nomatch z))
    (h4 : (relabel sc X.env).names.lookup x = some .cell ∨ (relabel sc X.env).names.lookup x = some .free := by first | exact Or.inl rfl | exact Or.inr rfl) : X.N[j]? = some x ∧ Vis X.env.scope x ∧ X.env.kindOf x ≠ some .local ∧ ((relabel sc X.env).names.lookup x = some .cell ∨ (relabel sc X.env).names.lookup x = some .free) := ⟨h1, h2, h3, h4⟩
open PySem PySem.Spec PyProof.Rows
def il (μ : Mu) (p : Addr) : Mu := fun b => if b = p then none else μ b
theorem zw {μ : Mu} {p b : Addr} (h : b ≠ p) : il μ p b = μ b := by unfold il; rw [if_neg h]
noncomputable def rN (cap : List (Option Nat)) (src : DTI) (g : DTG) (c : DTT) (elt : DTE) : DTE := fun ρ μ Q => src ρ μ fun xs μ1 => xs.length ≤ 1000 ∧ ∀ p, μ1 p = none → ∃ Pv : Nat → List PyData → Mu → Prop, Pv 0 [] (bD μ1 p []) ∧
  (∀ i x acc μ', xs[i]? = some x → μ' p = some acc → Pv i acc μ' → g (.v x) (fh cap ρ) μ' fun ρ2 μ2 => Le (fh cap ρ) ρ2 ∧ c ρ2 μ2 fun b μ3 =>
    if b = true then elt ρ2 μ3 fun d μ4 => μ4 p = some acc ∧ (match d with | .v y => Pv (i + 1) (acc ++ [y]) (bD μ4 p (acc ++ [y])) | _ => False) else μ3 p = some acc ∧ Pv (i + 1) acc μ3) ∧
  (∀ acc μ', Pv xs.length acc μ' → μ' p = some acc → Q (.v (.list acc)) (il μ' p))
theorem Kh {X : Cx} {pos2 : Pos} {use : Option (Value → Sem Unit)} {QQ : Value → Shared → Prop} {pins : List (Addr × Obj)} {s : Shared} {σ : St} {H : Hp} {ρ : Rho} {μ : Mu} {Qd : DK} {N' : List Str} {scope : Scope} {cl : List (Str × Addr)} {elt iter tg : Expr} {ifs : List Expr} {pos : Pos} {cap : List (Option Nat)} {src : DTI} {g : DTG} {c : DTT} {te : DTE} (hc : X.calm = X.calm)
    (hi : DI X tg iter src) (hg : ∀ fp s₃ H₃, DG (cF X N' scope cl fp s₃ H₃) tg g) (hif : ∀ fp s₃ H₃, Mv (cF X N' scope cl fp s₃ H₃) ifs c) (he : ∀ fp s₃ H₃, DE (cF X N' scope cl fp s₃ H₃) elt te)
    (hclos : closureFor scope X.env = pure cl) (hcell : ∀ y ∈ scope.names, y.2 ≠ .cell) (hkind : scope.kind = .function) (hnames : ∀ y ∈ scope.names, y.2 = .local → scope.names.lookup y.1 = some .local)
    (hcl : ∀ x a, cl.lookup x = some a → X.env.cells.lookup x = some a) (hhas : ∀ x, (relabel scope X.env).names.lookup x = some .cell ∨ (relabel scope X.env).names.lookup x = some .free → ∃ a, cl.lookup x = some a)
    (hlen : cap.length = N'.length) (hcap : ∀ (i j : Nat) (x : Str), cap[i]? = some (some j) → N'[i]? = some x → X.N[j]? = some x ∧ Vis X.env.scope x ∧ X.env.kindOf x ≠ some .local ∧ ((relabel scope X.env).names.lookup x = some .cell ∨ (relabel scope X.env).names.lookup x = some .free))
    (hs : ∀ x, foldedSetIterable iter X.env x = pure x )
    (I : Inv X pins σ H s) (S : St0 X.K H ρ μ σ) (h : rN cap src g c te ρ μ Qd)
    (hend : ∀ (s4 : Shared) (Hc : Hp) (C pa : Addr) (m : Str → Option Value) (acc : List PyData) (μF : Mu), s4.heap.Ns C m → Dp X pins Hc C → (∀ h', Heap.SameBut C s4.heap h' → Inv X pins σ Hc { s4 with heap := h' }) →
      Ext X.K μ H μF Hc → St0 X.K Hc ρ μF σ → Rp X.K μF Hc (.list acc) (.ref pa) → Qd (.v (.list acc)) μF → compPost (model X.prog X.w) X.A X.xe use QQ (.ref pa) C (.ok .next) s4) :
    wpAny (model X.prog X.w) X.A (comprehension (.ListComp elt [⟨tg, iter, ifs, 0⟩] scope pos) scope X.env pos2 (newList []) false (eval iter X.env) use) QQ X.xe s := by
  obtain ⟨wi, pw, li⟩ := hi
  refine wpAny_comprehension_free rfl hs hclos hkind hnames (thn (pw pins s σ H _ I (li σ H ρ μ _ (fun J H1 => ∃ xs μ1, Ext X.K μ H μ1 H1 ∧ St0 X.K H1 ρ μ1 σ ∧ N1 X.K J xs μ1 H1 ∧ xs.length ≤ 1000 ∧ ∀ p, μ1 p = none → ∃ Pv : Nat → List PyData → Mu → Prop, Pv 0 [] (bD μ1 p []) ∧
      (∀ i x acc μ', xs[i]? = some x → μ' p = some acc → Pv i acc μ' → g (.v x) (fh cap ρ) μ' fun ρ2 μ2 => Le (fh cap ρ) ρ2 ∧ c ρ2 μ2 fun b μ3 =>
        if b = true then te ρ2 μ3 fun d μ4 => μ4 p = some acc ∧ (match d with | .v y => Pv (i + 1) (acc ++ [y]) (bD μ4 p (acc ++ [y])) | _ => False) else μ3 p = some acc ∧ Pv (i + 1) acc μ3) ∧
      (∀ acc μ', Pv xs.length acc μ' → μ' p = some acc → Qd (.v (.list acc)) (il μ' p))) S h (fun xs μ1 H1 J e1 S1 it q => ⟨xs, μ1, e1, S1, it, q⟩)))
    fun v s1 h1 => thn h1 fun itv s2 h2 => ?_)
  obtain ⟨it, fp, tn, J, H2, rfl, I2, T, st2, f2, xs, μ1, e1, S1, itok, hxs, allp⟩ := h2
  refine wpAny_newObj_type (wpAny_newFunctionEnv hcell (by intro y hy; simp at hy) (fun h₁ hns₁ hsb₁ => ?_) hkind)
  dsimp only at hns₁ hsb₁ ⊢
  have hfree2 : H2 s2.heap.objs.size = none := I2.hok.fresh (Nat.le_refl _)
  have hK2 : X.K.lookup s2.heap.objs.size = none := by
    cases z : X.K.lookup s2.heap.objs.size with
    | none => rfl
    | some o => exact absurd (Heap.lt_size (I2.kIn _ _ z)) (Nat.lt_irrefl _)
  have I3 : Inv X pins σ (upd H2 s2.heap.objs.size (.lst [])) { s2 with heap := s2.heap.push { cls := .type "list", dict := none, data := .seq ([] : List Value).toArray } } :=
    I2.laid (t' := s2.toks) (fun b u e => Heap.get?_push_of_some _ e) (Nat.le_refl _) ⟨Nat.zero_le _, [], 0, .nil, Heap.get?_push_size _ rfl⟩
  generalize hH : s2.heap.push { cls := .type "list", dict := none, data := .seq ([] : List Value).toArray } = hp3 at hns₁ hsb₁ I3 ⊢
  have hsz3 : hp3.objs.size = s2.heap.objs.size + 1 := by rw [← hH, Heap.size_push]
  have kept3 : ∀ b o, hp3.get? b = some o → h₁.get? b = some o := fun b o e => hsb₁.extBut b o (Nat.ne_of_lt (Heap.lt_size e)) (Heap.get?_push_of_some _ e)
  have old3 : ∀ b o, s2.heap.get? b = some o → hp3.get? b = some o := fun b o e => by rw [← hH]; exact Heap.get?_push_of_some _ e
  have fplt : ∀ b ∈ fp, b < s2.heap.objs.size := fun b hb => by obtain ⟨o, e, _⟩ := T.obj 0 _ st2 b hb; exact Heap.lt_size e
  have fpst : ∀ b ∈ fp, b ∉ frs X.stack := fun b hb hz => by
    rcases List.mem_cons.mp (I2.xQ b hz) with e | e
    · exact (f2 b hb).2.1 e
    · exact (f2 b hb).2.2.1 e
  obtain ⟨s3, hs3⟩ : ∃ s3 : Shared, s3 = { s2 with heap := hp3 } := ⟨_, rfl⟩
  obtain ⟨H3, hH3⟩ : ∃ H3 : Hp, H3 = upd H2 s2.heap.objs.size (.lst []) := ⟨_, rfl⟩
  have heap3 : s3.heap = hp3 := by rw [hs3]
  rw [← hH3] at I3
  have I3' : Inv X pins σ H3 s3 := by rw [hs3]; exact I3
  have hloc : H3 hp3.objs.size = none := by have := I3'.hok.fresh (a := hp3.objs.size) (by rw [heap3]; exact Nat.le_refl _); exact this
  have okc : (cF X N' scope cl fp s3 H3).Ok := by
    refine ⟨I3.ok.mod, ?_, I3.ok.glob, I3.ok.blt, Nat.le_refl _, fun x y a h1 h2 => I3.ok.inj x y a (hcl x a h1) (hcl y a h2), fun x hx => hhas x hx, fun x a h => (nomatch h), I3.ok.hd, I3.ok.qt, I3.ok.frames, .inl rfl, fun b hb => ⟨?_, fun x a h => (f2 b hb).2.2.2.2.1 x a (hcl x a h)⟩,
      I3'.bs, Nat.le_trans I3.ok.bsz I3'.sz, fun b o e hb => ?_, fun b hb => fpst b hb, I3'.stack, I3'.C5⟩
    · exact hkind
    · show b ≠ s3.heap.objs.size
      rw [heap3, hsz3]
      exact Nat.ne_of_lt (Nat.lt_succ_of_lt (fplt b hb))
    · rcases (f2 b hb).2.2.2.1 with z | z
      · exact I3.ok.K0 b o e z
      · exact absurd (Nat.lt_of_lt_of_le (Heap.lt_size (I3.ok.bs b o e).1) z) (Nat.lt_irrefl _)
  have I4 : Inv (cF X N' scope cl fp s3 H3) [] (fh cap σ) H3 { s2 with heap := h₁, toks := s2.toks + ([] : List (Str × Value)).length } := by
    refine ⟨okc, by show s2.os = s3.os; rw [hs3], I3.bare, Un.kept (by show ∀ b o, s3.heap.get? b = some o → _; rw [heap3]; exact kept3), ⟨_, (by show h₁.Ns s3.heap.objs.size _; rw [heap3]; exact hns₁), fun i x v e1 e2 e3 => ?_⟩, fun x a h => ?_, (by show H3 s3.heap.objs.size = none; rw [heap3]; exact hloc), fun x a h => I3.qW x a (hcl x a h), fun p hp => ?_, I3.hok.kept kept3, ?_⟩
    · obtain ⟨j, h1, h2⟩ := zQ e2
      obtain ⟨hN, hv, hnl, hk⟩ := hcap i j x h1 e1
      obtain ⟨m, _, hl⟩ := I3.loc
      obtain ⟨u, r, lk⟩ := hl j x v hN h2 hv
      refine ⟨u, r, .inr ⟨hk, ?_⟩⟩
      obtain ⟨a, ha⟩ := hhas x hk
      rcases lk with ⟨z, _⟩ | ⟨_, a', z1, z2⟩
      · exact absurd z hnl
      · have : a' = a := by have q := hcl x a ha; rw [z1] at q; exact Option.some.inj q
        subst this
        obtain ⟨o, ho, hd⟩ := z2
        exact ⟨a', ha, o, kept3 _ _ ho, hd⟩
    · obtain ⟨v, o, ho, hd⟩ := I3.cell x a (hcl x a h)
      exact ⟨v, o, kept3 _ _ ho, hd⟩
    · have hp' : p ∈ X.pn ++ pins := List.mem_append_left _ (by simpa using (show p ∈ X.pn ++ [] from hp))
      obtain ⟨z1, z2, z3, z4, z5⟩ := I3'.pin p hp'
      refine ⟨kept3 _ _ (by rw [← heap3]; exact z1), z2, (show p.1 ≠ s3.heap.objs.size from Nat.ne_of_lt (Heap.lt_size z1)), fun z => ?_, z5⟩
      rcases List.mem_cons.mp (I3'.xQ p.1 z) with e | e
      · exact z3 e
      · exact z4 e
    · show (fh cap σ).length = N'.length
      unfold fh
      rw [List.length_map]
      exact hlen
  have hμ1 : μ1 s2.heap.objs.size = none := S1.mu.free hfree2
  obtain ⟨Pv, pv0, body, fin⟩ := allp s2.heap.objs.size hμ1
  have loop : codeAny (model X.prog X.w) X.A (.compLoop (.ListComp elt [⟨tg, iter, ifs, 0⟩] scope pos) 0 (.ref it) (.ref s2.heap.objs.size) (cF X N' scope cl fp s3 H3).env)
      (compPost (model X.prog X.w) X.A X.xe use QQ (.ref s2.heap.objs.size) hp3.objs.size) { s2 with heap := h₁, toks := s2.toks + ([] : List (Str × Value)).length } := by
    refine mN (fun n s' => ∃ (i : Nat) (σc : St) (Hc : Hp) (acc : List PyData) (μc : Mu), n = xs.length - i ∧ i ≤ xs.length ∧ Inv (cF X N' scope cl fp s3 H3) [] σc Hc s' ∧ tn i s'.heap ∧ (∀ b ∈ fp, Hc b = none) ∧
      acc.length ≤ i ∧ μc s2.heap.objs.size = some acc ∧ Pv i acc μc ∧ St0 X.K Hc (fh cap ρ) μc σc ∧ Ext X.K μ1 H2 μc Hc) ?_ xs.length
      ⟨0, fh cap σ, H3, [], bD μ1 s2.heap.objs.size [], by simp, Nat.zero_le _, I4, T.keep 0 _ _ st2 (fun b hb o e => kept3 b o (old3 b o e)), fun b hb => ?_, Nat.le_refl _, bL, pv0, ?_, ?_⟩
    · rintro n s' ⟨i, σc, Hc, acc, μc, rfl, hi, Ic, tc, frc, hal, hpa, pvi, Sc, Ec⟩
      have stat : ∀ {Hd : Hp}, (∀ b ∈ fp, Hd b = none) → ∀ b ∈ fp, Dp (cF X N' scope cl fp s3 H3) [] Hd b := fun hn b hb =>
        ⟨hn b hb, (okc.exf b hb).1, fpst b hb, .inl hb, fun x a h => (okc.exf b hb).2 x a h, fun p hp => (f2 b hb).2.2.2.2.2 p (List.mem_append_left _ (by simpa using (show p ∈ X.pn ++ [] from hp)))⟩
      obtain ⟨go, stop⟩ := itok _ Hc Ec Sc.mu i
      by_cases hlt : i < xs.length
      · obtain ⟨g1, y1⟩ := go hlt
        refine thn (T.item (cF X N' scope cl fp s3 H3) rfl rfl rfl (fun z => z) i [] s' σc Hc (fun _ _ => False) Ic (stat frc) tc g1) fun r s4 ⟨u, hr, h4⟩ => ?_
        subst hr
        refine thn h4 fun _ s5 ⟨x, H5, I5, r5, y5, st5, fr5⟩ => ?_
        obtain ⟨d, hd, sm, rd⟩ := y1 x H5 y5
        have I5' := I5.pinned (stat fr5) (T.obj _ _ st5)
        have e5 : Ext X.K _ Hc _ H5 := .of_same (μ := μc) sm
        have S5 : St0 X.K H5 (fh cap ρ) μc σc := ⟨Sc.mu.N0 e5 sm, Sc.rho.ext Sc.mu e5⟩
        obtain ⟨gt, pg, lg⟩ := hg fp s3 H3
        refine thn (pg _ s5 σc H5 x u (fun σ' H' => ∃ ρ' μ', Ext X.K μc H5 μ' H' ∧ St0 X.K H' ρ' μ' σ' ∧ Le (fh cap ρ) ρ' ∧ c ρ' μ' fun b μ3 =>
            if b = true then te ρ' μ3 fun d' μ4 => μ4 s2.heap.objs.size = some acc ∧ (match d' with | .v y => Pv (i + 1) (acc ++ [y]) (bD μ4 s2.heap.objs.size (acc ++ [y])) | _ => False) else μ3 s2.heap.objs.size = some acc ∧ Pv (i + 1) acc μ3) I5' r5
          (lg σc H5 (fh cap ρ) _ (.v d) x _ _ S5 rd (body i d acc μc hd hpa pvi) fun σ' ρ' μ' H' e' S' q => ⟨ρ', μ', e', S', q⟩)) fun _ s6 ⟨σ6, H6, I6, ρ6, μ6, e6, S6, le6, q6⟩ => ?_
        refine thn (hif fp s3 H3 _ s6 σ6 H6 ρ6 μ6 _ (fun b H' => ∃ μ', Ext X.K μ6 H6 μ' H' ∧ St0 X.K H' ρ6 μ' σ6 ∧ if b = true then te ρ6 μ' fun d' μ4 => μ4 s2.heap.objs.size = some acc ∧ (match d' with | .v y => Pv (i + 1) (acc ++ [y]) (bD μ4 s2.heap.objs.size (acc ++ [y])) | _ => False) else μ' s2.heap.objs.size = some acc ∧ Pv (i + 1) acc μ')
          I6 S6 q6 fun b μ' H' e' S' q => ⟨μ', e', S', q⟩) fun b s7 ⟨H7, I7, μ7, e7, S7, q7⟩ => ?_
        have again : ∀ {H9 : Hp} {s9 : Shared} {acc' : List PyData} {μ9 : Mu}, Inv (cF X N' scope cl fp s3 H3) ([] ++ w4 fp s5.heap) σ6 H9 s9 → acc'.length ≤ i + 1 → μ9 s2.heap.objs.size = some acc' → Pv (i + 1) acc' μ9 → eT X.K μ9 H9 → kT X.K μ9 H9 (fh cap ρ) σ6 →
            Ext X.K μ1 H2 μ9 H9 → ∃ m, m < xs.length - i ∧ ∃ (i : Nat) (σc : St) (Hc : Hp) (acc : List PyData) (μc : Mu), m = xs.length - i ∧ i ≤ xs.length ∧ Inv (cF X N' scope cl fp s3 H3) [] σc Hc s9 ∧ tn i s9.heap ∧ (∀ b ∈ fp, Hc b = none) ∧
              acc.length ≤ i ∧ μc s2.heap.objs.size = some acc ∧ Pv i acc μc ∧ St0 X.K Hc (fh cap ρ) μc σc ∧ Ext X.K μ1 H2 μc Hc := fun {H9 s9 acc' μ9} I9 l9 p9 v9 m9 r9 e9 => by
          refine ⟨xs.length - (i + 1), by omega, i + 1, σ6, H9, acc', μ9, rfl, hlt, I9.oR, T.keep _ _ _ st5 fun b hb o e => (I9.pin (b, o) (List.mem_append_right _ (List.mem_append_right _ (iN hb e)))).1, fun b hb => ?_, l9, p9, v9, ⟨m9, r9⟩, e9⟩
          obtain ⟨o, e, _⟩ := T.obj _ _ st5 b hb
          exact (I9.pin (b, o) (List.mem_append_right _ (List.mem_append_right _ (iN hb e)))).2.1
        cases b with
        | false =>
          have q8 : μ7 s2.heap.objs.size = some acc ∧ Pv (i + 1) acc μ7 := by simpa using q7
          refine BA ?_
          exact again I7 (by omega) q8.1 q8.2 S7.mu (S7.rho.le le6) (Ec.trans (e5.trans (e6.trans e7)))
        | true =>
          refine Bu ?_
          obtain ⟨t8, p8, l8⟩ := he fp s3 H3
          refine thn (p8 _ s7 σ6 H7 (fun v H' => ∃ y μ8, Ext X.K μ7 H7 μ8 H' ∧ St0 X.K H' ρ6 μ8 σ6 ∧ Rp X.K μ8 H' y v ∧ μ8 s2.heap.objs.size = some acc ∧ Pv (i + 1) (acc ++ [y]) (bD μ8 s2.heap.objs.size (acc ++ [y]))) I7
            (l8 σ6 H7 ρ6 μ7 _ _ S7 (by simpa using q7) fun d' v μ8 H8 e8 S8 r8 q8 => ?_)) fun v s8 ⟨v8, H8, I8, r8, y, μ8, e8, S8, ry, pa8, fy⟩ => ?_
          · obtain ⟨q80, q8⟩ := q8
            cases d' with
            | v y => exact ⟨y, μ8, e8, S8, r8, q80, q8⟩
            | m _ => exact q8.elim
            | s _ => exact q8.elim
            | o _ => exact q8.elim
            | q _ => exact q8.elim
          · obtain ⟨us, hacc, rus⟩ := S8.mu s2.heap.objs.size _ pa8
            have hle : acc.length ≤ 1000 := by omega
            refine thn (xm (X := cF X N' scope cl fp s3 H3) _ s8 σ6 H8 (.ref s2.heap.objs.size) [v8] (.ref s2.heap.objs.size) [v] (fun _ H' => H' = upd H8 s2.heap.objs.size (.lst (us ++ [v8]))) I8 rfl (.cons r8 .nil) ⟨_, us, v8, rfl, rfl, hacc, by rw [← rus.length]; exact jL hle, rfl⟩) fun _ s9 ⟨_, H9, I9, _, e9⟩ => ?_
            subst e9
            have ex : Ext X.K μ8 H8 (bD μ8 s2.heap.objs.size (acc ++ [y])) (upd H8 s2.heap.objs.size (.lst (us ++ [v8]))) := wI pa8
            exact again I9 (by rw [List.length_append, List.length_singleton]; omega) bL fy (S8.mu.set pa8 (rus.append (.cons ry .nil))) ((S8.rho.le le6).ext S8.mu ex) (Ec.trans (e5.trans (e6.trans (e7.trans (e8.trans ex)))))
      · have ei : i = xs.length := by omega
        subst ei
        refine thn (T.done (cF X N' scope cl fp s3 H3) rfl rfl rfl (fun z => z) _ [] s' σc Hc (fun _ _ => False) Ic (stat frc) tc (stop rfl)) fun r s4 ⟨hr, I5⟩ => ?_
        subst hr
        obtain ⟨m, hn, _⟩ := I5.loc
        have hcC : Hc hp3.objs.size = none := by have z : Hc s3.heap.objs.size = none := I5.free; rw [heap3] at z; exact z
        obtain ⟨us, hacc, rus⟩ := Sc.mu s2.heap.objs.size _ hpa
        have shr : ∀ a, μc a = none → il μc s2.heap.objs.size a = none := fun a e => by
          unfold il
          split
          · rfl
          · exact e
        have dne : ∀ a ds, il μc s2.heap.objs.size a = some ds → μc a = some ds := fun a ds e => by
          unfold il at e
          split at e
          · cases e
          · exact e
        have eF : Ext X.K μ1 H2 (il μc s2.heap.objs.size) Hc := by
          refine ⟨Ec.keep, Ec.tb, fun b ds q => ?_, fun b q z => shr b (Ec.fresh b q z)⟩
          obtain ⟨es, q2⟩ := Ec.dom b ds q
          have : b ≠ s2.heap.objs.size := fun z => by rw [z, hμ1] at q; cases q
          exact ⟨es, by unfold il; rw [if_neg this]; exact q2⟩
        have mF : eT X.K (il μc s2.heap.objs.size) Hc := ⟨fun a ds q => by
          obtain ⟨ys, z1, z2⟩ := Sc.mu a ds (dne a ds q)
          exact ⟨ys, z1, z2.shrink shr⟩, Sc.mu.tab⟩
        refine hend s4 Hc hp3.objs.size s2.heap.objs.size m acc (il μc s2.heap.objs.size) (by have z : s4.heap.Ns s3.heap.objs.size m := hn; rw [heap3] at z; exact z) (I2.OV (by rw [hsz3]; exact Nat.le_succ _) hcC) (fun h' hs' => ?_) (e1.trans eF) ⟨mF, S1.rho.ext S1.mu eF⟩ (Rp.list hacc (by unfold il; rw [if_pos rfl]) (rus.shrink shr)) (fin acc μc pvi hpa)
        have kp : ∀ b o, b < s2.heap.objs.size → s4.heap.get? b = some o → h'.get? b = some o := fun b o hb e => hs'.extBut b o (by rw [hsz3]; exact Nat.ne_of_lt (Nat.lt_succ_of_lt hb)) e
        have hok' : HOk X.prog X.w Hc h' := fun b ob e => by
          refine (I5.hok b ob e).Bs (fun cc v hcc q => hs'.extBut cc v ?_ q) (fun _ q => q) fun _ _ q => q
          rintro rfl
          rcases hcc with z | z
          · rw [← z, hcC] at e; cases e
          · rw [hcC] at z; cases z
        have u1 : Un (frs X.stack) fp H2 H3 s2.heap s3.heap := by rw [heap3, hH3]; exact Un.laid old3 (Nat.le_refl _) hfree2
        have u2 : Un (frs X.stack) fp H3 Hc s3.heap s4.heap := I5.base
        exact I2.LY (ch := fp) (by show s4.os = s2.os; have z : s4.os = s3.os := I5.os; rw [z, hs3]) (Un.after (u1.trans u2) kp) hok' I5.bare fun b hb => ⟨(f2 b hb).2.2.2.1, (f2 b hb).2.1, (f2 b hb).2.2.2.2.1, (f2 b hb).2.2.2.2.2⟩
    · have z : b ≠ s2.heap.objs.size := Nat.ne_of_lt (fplt b hb)
      rw [hH3, cW z]
      exact (f2 b hb).1
    · have ex := sQ (o := .lst []) (ds := []) S1.mu hfree2 hK2
      rw [hH3]
      exact ⟨S1.mu.mut .nil hfree2 hK2, (S1.rho.ext S1.mu ex).cap⟩
    · rw [hH3]
      exact sQ (o := .lst []) (ds := []) S1.mu hfree2 hK2
  have envE : (cF X N' scope cl fp s3 H3).env = compEnvC scope cl hp3.objs.size X.env := by show compEnvC scope cl s3.heap.objs.size X.env = _; rw [heap3]
  rw [envE] at loop
  exact codeAny_compStart_list loop (T.self X.A 0 _ _ _ (T.keep 0 _ _ st2 (fun b hb o e => kept3 b o (old3 b o e))) loop)
theorem ns_obj {h : Heap} {C : Addr} {m : Str → Option Value} (hn : h.Ns C m) : ∃ o, h.get? C = some o ∧ ∀ v, o.data ≠ .cell v := let ⟨o, es, ep, ho, hd, _⟩ := hn; ⟨o, ho, fun v z => by rw [hd] at z; cases z⟩
theorem OG {h h' : Heap} {C : Addr} {m : Str → Option Value} (hn : h.Ns C m) (e : h'.get? C = h.get? C) : h'.Ns C m := let ⟨o, es, ep, ho, r⟩ := hn; ⟨o, es, ep, e.trans ho, r⟩
theorem yU {X : Cx} {i : Nat} {x : Str} {pos' spos : Pos} {N' : List Str} {scope : Scope} {cl : List (Str × Addr)} {elt iter tg : Expr} {ifs : List Expr} {pos : Pos} {cap : List (Option Nat)} {src : DTI} {g : DTG} {c : DTT} {te : DTE} (hN : X.N.Nodup) (hix : X.N[i]? = some x) (hx : X.env.scope.names.lookup x = some .local) (hc : X.calm = X.calm)
    (hi : DI X tg iter src) (hg : ∀ fp s₃ H₃, DG (cF X N' scope cl fp s₃ H₃) tg g) (hif : ∀ fp s₃ H₃, Mv (cF X N' scope cl fp s₃ H₃) ifs c) (he : ∀ fp s₃ H₃, DE (cF X N' scope cl fp s₃ H₃) elt te)
    (hclos : closureFor scope X.env = pure cl) (hcell : ∀ y ∈ scope.names, y.2 ≠ .cell) (hkind : scope.kind = .function) (hnames : ∀ y ∈ scope.names, y.2 = .local → scope.names.lookup y.1 = some .local)
    (hcl : ∀ x a, cl.lookup x = some a → X.env.cells.lookup x = some a) (hhas : ∀ x, (relabel scope X.env).names.lookup x = some .cell ∨ (relabel scope X.env).names.lookup x = some .free → ∃ a, cl.lookup x = some a)
    (hlen : cap.length = N'.length) (hcap : ∀ (i j : Nat) (x : Str), cap[i]? = some (some j) → N'[i]? = some x → X.N[j]? = some x ∧ Vis X.env.scope x ∧ X.env.kindOf x ≠ some .local ∧ ((relabel scope X.env).names.lookup x = some .cell ∨ (relabel scope X.env).names.lookup x = some .free))
    (hs : ∀ x, foldedSetIterable iter X.env x = pure x := by intro _; rfl)
    (hsw : swapsWith (.ListComp elt [⟨tg, iter, ifs, 0⟩] scope pos) (some (.Name x pos')) spos.line X.env = pure true := by rfl) : DS X (.Assign [.Name x pos'] (.ListComp elt [⟨tg, iter, ifs, 0⟩] scope pos) spos) (bJ (rN cap src g c te) (ay i)) := by
  refine ⟨fun D σ H => ∃ ρ μ Dd, St0 X.K H ρ μ σ ∧ bJ (rN cap src g c te) (ay i) Dd ρ μ ∧ (∀ σ' ρ' μ' H', Ext X.K μ H μ' H' → St0 X.K H' ρ' μ' σ' → Dd.nx ρ' μ' → D.nx σ' H'), ?_, fun σ H ρ μ Dd De S h k1 k2 k3 k4 => ⟨ρ, μ, Dd, S, h, k1⟩⟩
  rintro pins s σ H D I ⟨ρ, μ, Dd, S, h, k1⟩
  rw [exec_Assign_Name_used _ _ _ _ hsw]
  refine wpAny_bind (wpAny_standAt ?_)
  show wpAny _ _ ((comprehension (.ListComp elt [⟨tg, iter, ifs, 0⟩] scope pos) scope X.env (firstIterPos [⟨tg, iter, ifs, 0⟩] pos) (newList []) false (eval iter X.env) (some (assign (.Name x pos') X.env)) >>= fun _ => pure ()) >>= _) _ _ s
  refine wpAny_bind (wpAny_bind (Kh (Qd := fun d μ1 => ay i d ρ μ1 Dd.nx) hc hi hg hif he hclos hcell hkind hnames hcl hhas hlen hcap hs I S h fun s4 Hc C pa m acc μF hn fC hI e1 S1 r q => ?_))
  have I4 : Inv X pins σ Hc s4 := hI s4.heap (Heap.SameBut.refl _ _)
  obtain ⟨oC, hoC, hdC⟩ : ∃ o, s4.heap.get? C = some o ∧ ∀ v, o.data ≠ .cell v := by
    obtain ⟨o, h1, h2⟩ := ns_obj hn
    exact ⟨o, h1, h2⟩
  have I5 := I4.pinned (fp := [C]) (fun b hb => by rw [List.mem_singleton.mp hb]; exact fC) (fun b hb => by rw [List.mem_singleton.mp hb]; exact ⟨oC, hoC, hdC⟩)
  show wpAny _ _ (assign (.Name x pos') X.env (.ref pa)) _ _ s4
  refine wpAny_assign_Name (rK I5 hN hix (Or.inl hx) (show RelV (.ref pa) (.ref pa) from rfl) (fun s' I' => ?_) (.inr hx))
  have keepC : s'.heap.get? C = some oC := (I'.pin (C, oC) (List.mem_append_right _ (List.mem_append_right _ (iN (List.mem_singleton.mpr rfl) hoC)))).1
  have hn' : s'.heap.Ns C m := OG hn (by rw [keepC, hoC])
  refine ⟨m, hn', fun h' hs' => wpAny_pure (wpAny_pure ?_)⟩
  refine ⟨σ.set i (some (.ref pa)), Hc, ?_, k1 _ _ _ _ e1 ⟨S1.mu, S1.rho.set (d := .v (.list acc)) r⟩ q⟩
  refine I'.oR.LY (ch := [C]) rfl ⟨fun b o e n hb hx => ?_, fun b o e n hb hx => ?_, fun b o e n hx => n, fun b o e hx => ?_, fun b xs e => e, fun b o u e => e, fun b ps e => ⟨#[], by rw [Array.append_empty]; exact e⟩⟩ ?_ I'.bare fun b hb => ?_
  · exact hs'.extBut b o (fun z => hx (List.mem_singleton.mpr z)) e
  · exact ⟨o.slots, hs'.extBut b o (fun z => hx (List.mem_singleton.mpr z)) e⟩
  · exact ⟨o, hs'.extBut b o (fun z => hx (List.mem_singleton.mpr z)) e⟩
  · exact fun b ob e => by
      refine (I'.hok b ob e).Bs (fun cc v hcc q => hs'.extBut cc v ?_ q) (fun _ q => q) fun _ _ q => q
      rintro rfl
      rcases hcc with z | z
      · rw [← z, fC.1] at e; cases e
      · rw [fC.1] at z; cases z
  · rw [List.mem_singleton.mp hb]
    exact ⟨fC.2.2.2.1, fC.2.1, fC.2.2.2.2.1, fC.2.2.2.2.2⟩
theorem D9 {cap : List (Option Nat)} {src : DTI} {g : DTG} {t : DTT} {ta : DTE} {ρ : Rho} {μ : Mu} {Q : DK} : rN cap src g t ta ρ μ Q = src ρ μ fun xs μ1 => xs.length ≤ 1000 ∧ ∀ p, μ1 p = none → ∃ Pv : Nat → List PyData → Mu → Prop, Pv 0 [] (bD μ1 p []) ∧
  (∀ i x acc μ', xs[i]? = some x → μ' p = some acc → Pv i acc μ' → g (.v x) (fh cap ρ) μ' fun ρ2 μ2 => Le (fh cap ρ) ρ2 ∧ t ρ2 μ2 fun b μ3 =>
    if b = true then ta ρ2 μ3 fun d μ4 => μ4 p = some acc ∧ (match d with | .v y => Pv (i + 1) (acc ++ [y]) (bD μ4 p (acc ++ [y])) | _ => False) else μ3 p = some acc ∧ Pv (i + 1) acc μ3) ∧
  (∀ acc μ', Pv xs.length acc μ' → μ' p = some acc → Q (.v (.list acc)) (il μ' p)) := propext Iff.rfl
theorem B1 {μ : Mu} {p : Addr} {ds : List PyData} (h : μ p = none) : il (bD μ p ds) p = μ := by
  funext b
  unfold il bD
  by_cases e : b = p
  · rw [if_pos e, e, h]
  · rw [if_neg e, if_neg e]
theorem RG {xs : List PyData} {f : PyData → Option PyData} {i : Nat} {d : PyData} (h : xs[i]? = some d) : (xs.take (i + 1)).filterMap f = (xs.take i).filterMap f ++ (f d).toList := Eo h
open PySem PySem.Spec PyProof.Rows
section
variable {X : Cx} {es : List Expr} {x1 : Nat} {tpos : Pos}
def Kx : List PyData → List PyData → List PyData
  | x :: xs, y :: ys => .tuple [x, y] :: Kx xs ys
  | _, _ => []
noncomputable def Sl (t : DTA) : DTI := fun ρ μ Q => t ρ μ fun ds μ1 => match ds with
  | [.v (.list xs), .v (.list ys)] => Q (Kx xs ys) μ1
  | _ => False
theorem D7 {t : DTA} {ρ : Rho} {μ : Mu} {Q : List PyData → Mu → Prop} : Sl t ρ μ Q = t ρ μ fun ds μ1 => match ds with | [.v (.list xs), .v (.list ys)] => Q (Kx xs ys) μ1 | _ => False := propext Iff.rfl
end
open PySem PySem.Spec PyProof.Rows
section
variable {X : Cx} {a b e : Expr} {es : List Expr} {ta tb te : DTE} {t : DTA} {p pos : Pos}
def pE : List D → Mu → DK → Prop := fun xs μ Q => match xs with
  | [.v (.list ys)] => Q (.v (.tuple ys)) μ
  | [.v (.tuple ys)] => Q (.v (.tuple ys)) μ
  | [.m l] => (match μ l with | some ys => Q (.v (.tuple ys)) μ | none => False)
  | _ => False
theorem M4 {K : PySem.W.Frag} : rB K (fun xs H Q => ∃ p ys, xs = [.ref p] ∧ ((SqL K H p ys ∧ ∀ l, H l = none → Q (.ref l) (upd H l (.tup ys))) ∨ (SqT K H p ys ∧ Q (.ref p) H))) pE := by
  intro xs us H μ Qd Q ok rs h k
  unfold pE at h
  split at h
  · cases rs with
    | cons r1 r2 =>
      cases r2
      cases r1 with
      | list hs hn r => exact ⟨_, _, rfl, .inl ⟨SqL.of hs, fun l hl => k (.v _) _ μ _ (eP hl) (ok.new hl) (jU ok r hl) h⟩⟩
  · cases rs with
    | cons r1 r2 =>
      cases r2
      cases id r1 with
      | tuple hs r => exact ⟨_, _, rfl, .inr ⟨hs, k (.v _) _ μ H .refl ok r1 h⟩⟩
  · cases rs with
    | cons r1 r2 =>
      cases r2
      obtain ⟨rfl, ds, hm⟩ := r1
      rw [hm] at h
      obtain ⟨us, hl, r⟩ := ok _ ds hm
      exact ⟨_, _, rfl, .inl ⟨SqL.of hl, fun l hl' => k (.v _) _ μ _ (eP hl') (ok.new hl') (jU ok r hl') h⟩⟩
  · exact h.elim
theorem L5 (hg : Gl X "tuple") (hm : X.mg "tuple" = none) (ha : DA X (e :: es) t)
    (he : starEach (e :: es) X.env = (false, eval e X.env) :: starEach es X.env := by rfl) (hpl : (backTo pos (starEach es X.env)).any (·.1) = false := by rfl) : DE X (.Call (.Name "tuple" p) (e :: es) [] pos) (dCB pE t) :=
  BW BK M4 hg hm PyProof.Rows.Boot.«tuple» ha (by decide) (by decide) he hpl
theorem zV {ys : List PyData} {μ : Mu} {Q : DK} : pE [.v (.list ys)] μ Q = Q (.v (.tuple ys)) μ := propext Iff.rfl
theorem AB {ys : List PyData} {μ : Mu} {Q : DK} : pE [.v (.tuple ys)] μ Q = Q (.v (.tuple ys)) μ := propext Iff.rfl
theorem AE {l : Addr} {μ : Mu} {Q : DK} : pE [.m l] μ Q = (match μ l with | some ys => Q (.v (.tuple ys)) μ | none => False) := propext Iff.rfl
def Sd : D → D → Mu → DK → Prop := fun x y μ Q => match x, y with
  | .v (.list xs), .v (.int k) => (0 ≤ k ∧ k ≤ 1000 ∧ xs.length * k.toNat ≤ 1000) ∧ Q (.v (.list (List.replicate k.toNat xs).flatten)) μ
  | _, _ => False
theorem Nn {xs : List PyData} {k : Int} {μ : Mu} {Q : DK} : Sd (.v (.list xs)) (.v (.int k)) μ Q = ((0 ≤ k ∧ k ≤ 1000 ∧ xs.length * k.toNat ≤ 1000) ∧ Q (.v (.list (List.replicate k.toNat xs).flatten)) μ) := propext Iff.rfl
end
open PySem PySem.Spec PyProof.Rows
section
variable {prog : Program} {w : World} {A : Around} {E : Value → Shared → Prop} {s : Shared}
end
open PySem PySem.Spec PyProof.Rows
section
variable {X : Cx} {es : List Expr} {x1 : Nat} {tpos : Pos}
end
section
variable {X : Cx} {es : List Expr} {pos : Pos}
noncomputable def SA (n : Nat) (gs : yx) : DTG := fun d ρ μ Q => match d with
  | .v (.list xs) => xs.length = n ∧ gs xs ρ μ Q
  | _ => False
theorem Od {n : Nat} {gs : yx} {xs : List PyData} {ρ : Rho} {μ : Mu} {Q : Rho → Mu → Prop} : SA n gs (.v (.list xs)) ρ μ Q = (xs.length = n ∧ gs xs ρ μ Q) := propext Iff.rfl
end
theorem cl1 {k : Str} {v : Addr} {r : List (Str × Addr)} {x : Str} {a : Addr} (h : List.lookup x [(k, v)] = some a) : List.lookup x ((k, v) :: r) = some a := by
  simp only [List.lookup_cons] at h ⊢
  cases e : x == k with
  | true => rw [e] at h; exact h
  | false => rw [e] at h; exact absurd h (by simp)
theorem cl2 {k k' : Str} {v v' : Addr} {r : List (Str × Addr)} {x : Str} {a : Addr} (n : (k == k') = false) (h : List.lookup x [(k, v)] = some a) : List.lookup x ((k', v') :: (k, v) :: r) = some a := by
  have g := cl1 (r := r) h
  simp only [List.lookup_cons] at h
  cases e : x == k with
  | true =>
    have e' : x = k := by simpa using e
    subst e'
    rw [List.lookup_cons, n]
    exact g
  | false => rw [e] at h; exact absurd h (by simp)
open PySem PySem.Spec PyProof.Rows
section
variable {X : Cx} {e : Expr} {es : List Expr} {t : DTA} {p pos : Pos}
theorem JV : ∀ {ns : List Int} {us : List Value}, Vals (ns.map V.int) us → PyProof.Rows.IntsAre us ns
  | [], _, .nil => .nil
  | n :: r, _, .cons h t => by obtain ⟨tk, rfl⟩ := h; exact .cons n tk (JV t)
theorem KL (hc : X.calm = true) : jf X (.builtin "sum") (fun xs H Q => ∃ (p : Addr) (ns : List Int), xs = [.ref p] ∧ H p = some (.lst (ns.map V.int)) ∧ Q (.int ns.sum) H) := by
  intro pins s σ H xs us Q I r h
  obtain ⟨l, ns, rfl, hl, q⟩ := h
  obtain ⟨u, rfl, rx⟩ := vals1 r
  cases rx
  obtain ⟨its, rv, pl, _⟩ := I.list (SqL.of hl)
  have hi := JV rv
  have hL := pl.isList
  obtain ⟨xs, hx⟩ := hi.allInts.items
  have hn : numsOf its.toArray.toList = ns := by rw [show its.toArray.toList = its from rfl, hi.numsOf]
  rw [hx] at hL hn
  rw [nums_intItems] at hn
  refine sum_intListG (I.ok.hd hc) hL fun h' tk t' hk => ?_
  rw [preSum_eq, List.take_of_length_le (by simp), hn]
  exact ⟨.int ns.sum, H, I.kept hk, ⟨_, rfl⟩, q⟩
def eE : List PyData → Option (List Int)
  | [] => some []
  | .int b :: r => (eE r).map (b :: ·)
  | _ :: _ => none
theorem wW {K : PySem.W.Frag} {μ : Mu} {H : Hp} : ∀ {xs : List PyData} {us : List V} {bs : List Int}, RpL K μ H xs us → eE xs = some bs → us = bs.map V.int
  | _, _, _, .nil, e => by cases e; rfl
  | .int b :: r, _, bs, .cons h t, e => by
    simp only [eE] at e
    cases q : eE r with
    | none => rw [q] at e; cases e
    | some cs => rw [q] at e; cases e; cases h; rw [wW t q]; rfl
  | .none :: r, _, bs, .cons h t, e => by simp [eE] at e
  | .bool _ :: r, _, bs, .cons h t, e => by simp [eE] at e
  | .str _ :: r, _, bs, .cons h t, e => by simp [eE] at e
  | .list _ :: r, _, bs, .cons h t, e => by simp [eE] at e
  | .tuple _ :: r, _, bs, .cons h t, e => by simp [eE] at e
  | .dict _ :: r, _, bs, .cons h t, e => by simp [eE] at e
def B9 : List D → Mu → DK → Prop := fun xs μ Q => match xs with
  | [.v (.list ys)] => (match eE ys with | some bs => Q (.v (.int bs.sum)) μ | none => False)
  | _ => False
theorem RB {K : PySem.W.Frag} : rB K (fun xs H Q => ∃ (p : Addr) (ns : List Int), xs = [.ref p] ∧ H p = some (.lst (ns.map V.int)) ∧ Q (.int ns.sum) H) B9 := by
  intro xs us H μ Qd Q ok rs h k
  unfold B9 at h
  split at h
  · rename_i ys
    cases q : eE ys with
    | none => rw [q] at h; exact h.elim
    | some bs =>
      rw [q] at h
      cases rs with
      | cons r1 r2 =>
        cases r2
        cases r1 with
        | list hs hn r => exact ⟨_, bs, rfl, by rw [hs, wW r q], k (.v _) _ μ H .refl ok (Rp.int _) h⟩
  · exact h.elim
theorem LD (hc : X.calm = true) (hg : Gl X "sum") (hm : X.mg "sum" = none) (ha : DA X (e :: es) t)
    (he : starEach (e :: es) X.env = (false, eval e X.env) :: starEach es X.env := by rfl) (hpl : (backTo pos (starEach es X.env)).any (·.1) = false := by rfl) : DE X (.Call (.Name "sum" p) (e :: es) [] pos) (dCB B9 t) :=
  lX (KL hc) RB hg hm PyProof.Rows.Boot.«sum» ha (by decide) (by decide) he hpl
theorem Sx {ys : List PyData} {μ : Mu} {Q : DK} : B9 [.v (.list ys)] μ Q = (match eE ys with | some bs => Q (.v (.int bs.sum)) μ | none => False) := propext Iff.rfl
end
section
variable {X : Cx} {e tg : Expr} {te : DTE} {td : DTS} {pos : Pos}
noncomputable def Lu (te : DTE) (g : DTG) (tb : DTS) : DTS := fun Dd ρ μ => te ρ μ fun d μ1 => match d with
  | .m l => ∃ xs, μ1 l = some xs ∧ ∃ Pv : Nat → Rho → Mu → Prop, Pv 0 ρ μ1 ∧ (∀ i ρ' μ', Pv i ρ' μ' → μ' l = some xs) ∧
      (∀ i x ρ' μ', xs[i]? = some x → Pv i ρ' μ' → g (.v x) ρ' μ' fun ρ2 μ2 => tb { Dd with nx := Pv (i + 1), ct := Pv (i + 1), bk := Dd.nx } ρ2 μ2) ∧ (∀ ρ' μ', Pv xs.length ρ' μ' → Dd.nx ρ' μ')
  | _ => False
theorem NY {body : List Stmt} {g : DTG} (hp : PassesOwn (model X.prog X.w) X.A X.env X.xe) (hc : X.calm = true) (hi : DE X e te) (hg : DG X tg g) (hb : DSs X body td)
    (hs : ∀ x, foldedSetIterable e X.env x = pure x := by intro _; rfl) : DS X (.For tg e body [] pos) (Lu te g td) := by
  obtain ⟨t0, p0, l0⟩ := hi
  obtain ⟨t1, p1, l1⟩ := hg
  obtain ⟨t2, p2, l2⟩ := hb
  refine ⟨_, L0 hp hc (JE p0) p1 p2 hs, fun σ H ρ μ Dd De S h k1 k2 k3 k4 => ?_⟩
  refine l0 σ H ρ μ _ _ S h fun d u μ1 H1 e1 S1 r h1 => ?_
  split at h1
  · rename_i l
    obtain ⟨xs, hl, Pv, pv0, Bs, turn, fin⟩ := h1
    obtain ⟨rfl, _⟩ := r
    obtain ⟨us0, hus0, _⟩ := S1.mu l xs hl
    refine ⟨l, rfl, ⟨us0, SqL.of hus0⟩, ?_⟩
    refine ⟨fun i m σ' H' => m = xs.length - i ∧ i ≤ xs.length ∧ ∃ ρ' μ', Ext X.K μ1 H1 μ' H' ∧ St0 X.K H' ρ' μ' σ' ∧ Pv i ρ' μ', ⟨xs.length, by simp, Nat.zero_le _, ρ, μ1, .refl, S1, pv0⟩, ?_⟩
    rintro i m σ' H' ⟨rfl, hi, ρ', μ', e2, S2, pv⟩
    obtain ⟨us, hus, ra⟩ := S2.mu l xs (Bs i ρ' μ' pv)
    by_cases hlt : i < xs.length
    · have hiu : i < us.length := by rw [← ra.length]; exact hlt
      refine .inr ⟨⟨us, us[i], SqL.of hus, by simp [hiu]⟩, fun σ2 H2 => ∃ ρ2 μ2, Ext X.K μ1 H1 μ2 H2 ∧ St0 X.K H2 ρ2 μ2 σ2 ∧ Pv (i + 1) ρ2 μ2, fun σ2 H2 q => ⟨xs.length - (i + 1), by omega, rfl, hlt, q⟩, fun x H2 yl => ?_⟩
      obtain ⟨eH, hx⟩ := yl
      subst eH
      obtain ⟨u', h1', h2'⟩ := ra.get (i := i) (d := xs[i]) (by simp [hlt])
      have hx' := hx us (SqL.of hus)
      rw [h1'] at hx'
      cases hx'
      refine l1 σ' H2 ρ' μ' (.v xs[i]) _ _ _ S2 h2' (turn i xs[i] ρ' μ' (by simp [hlt]) pv) fun σ4 ρ4 μ4 H4 e4 S4 h4 => ?_
      have nxt : ∀ a b c dd, Ext X.K μ4 H4 c dd → St0 X.K dd b c a → Pv (i + 1) b c → ∃ ρ2 μ2, Ext X.K μ1 H1 μ2 dd ∧ St0 X.K dd ρ2 μ2 a ∧ Pv (i + 1) ρ2 μ2 := fun a b c dd e5 S5 q => ⟨b, c, e2.trans (e4.trans e5), S5, q⟩
      have ee := e1.trans (e2.trans e4)
      exact l2 σ4 H4 ρ4 μ4 _ _ S4 h4 nxt (fun a b c d e5 => k2 a b c d (ee.trans e5)) (fun a b c d e5 => k1 a b c d (ee.trans e5)) nxt
    · have ei : i = xs.length := by omega
      subst ei
      exact .inl ⟨⟨us, SqL.of hus, by rw [← ra.length]; omega⟩, k1 σ' ρ' μ' H' (e1.trans e2) S2 (fin ρ' μ' pv)⟩
  · exact h1.elim
theorem QC {g : DTG} {tb : DTS} {Dd : Jw} {ρ : Rho} {μ : Mu} : Lu te g tb Dd ρ μ = te ρ μ fun d μ1 => match d with
  | .m l => ∃ xs, μ1 l = some xs ∧ ∃ Pv : Nat → Rho → Mu → Prop, Pv 0 ρ μ1 ∧ (∀ i ρ' μ', Pv i ρ' μ' → μ' l = some xs) ∧
      (∀ i x ρ' μ', xs[i]? = some x → Pv i ρ' μ' → g (.v x) ρ' μ' fun ρ2 μ2 => tb { Dd with nx := Pv (i + 1), ct := Pv (i + 1), bk := Dd.nx } ρ2 μ2) ∧ (∀ ρ' μ', Pv xs.length ρ' μ' → Dd.nx ρ' μ')
  | _ => False := propext Iff.rfl
end
section
variable {X : Cx} {a b c : Expr} {ta tb tc : DTE} {pos : Pos}
theorem L7 {op op' : CmpOp} {rr rr' : R2} {r r' : D → D → Mu → DK → Prop} (ho : OpR X (compareOp op) rr) (lo : jI X.K rr r) (ho' : OpR X (compareOp op') rr') (lo' : jI X.K rr' r') (ha : DE X a ta) (hb : DE X b tb) (hc : DE X c tc)
    (hm : lastMarks [op, op'] [b, c] = false := by with_unfolding_all rfl) : DT X (.Compare a [op, op'] [b, c] pos) (dB (zH r r' ta tb tc)) := by
  obtain ⟨t1, p1, l1⟩ := ha
  obtain ⟨t2, p2, l2⟩ := hb
  obtain ⟨t3, p3, l3⟩ := hc
  refine ⟨_, Nb ho ho' p1 p2 p3 hm, wX (fun σ H ρ μ Qd Q S h k => ?_)⟩
  refine l1 σ H ρ μ _ _ S h fun x ux μ1 H1 e1 S1 rx h1 => ?_
  refine l2 σ H1 ρ μ1 _ _ S1 h1 fun y uy μ2 H2 e2 S2 ry h2 => ?_
  refine lo x y ux uy H2 μ2 _ _ S2.mu (rx.ext S1.mu e2) ry h2 fun z uz μ3 H3 e3 ok3 rz h3 => ?_
  have S3 : St0 X.K H3 ρ μ3 σ := ⟨ok3, S2.rho.ext S2.mu e3⟩
  split at h3
  · rename_i kk
    cases rz
    refine ⟨kk, rfl, ?_⟩
    cases kk with
    | true =>
      refine Bu ?_
      refine l3 σ H3 ρ μ3 _ _ S3 (by simpa using h3) fun w uw μ4 H4 e4 S4 rw' h4 => ?_
      exact lo' y w uy uw H4 μ4 _ _ S4.mu ((ry.ext S2.mu e3).ext S3.mu e4) rw' h4 fun d u μ' H' e5 ok r q => k d u μ' H' (e1.trans (e2.trans (e3.trans (e4.trans e5)))) ⟨ok, S4.rho.ext S4.mu e5⟩ r q
    | false => exact BA (k (.v (.bool false)) _ μ3 H3 (e1.trans (e2.trans e3)) S3 (Rp.bool false) (by simpa using h3))
  · exact h3.elim
theorem cl3 {k k' : Str} {v v' : Addr} {x : Str} {a : Addr} (n : (k == k') = false) (h : List.lookup x [(k, v), (k', v')] = some a) : List.lookup x [(k', v'), (k, v)] = some a := by
  simp only [List.lookup_cons, List.lookup_nil] at h ⊢
  cases e : x == k with
  | true =>
    have e' : x = k := by simpa using e
    subst e'
    rw [e] at h
    rw [n]
    exact h
  | false =>
    rw [e] at h
    cases e2 : x == k' with
    | true => rw [e2] at h; exact h
    | false => rw [e2] at h; exact absurd h (by simp)
end
open PySem PySem.Spec PyProof.Rows
section
variable {X : Cx} {o e : Expr} {to te : DTE} {apos cpos pos : Pos}
end
section
variable {X : Cx} {e : Expr} {es : List Expr} {t : DTA} {p pos : Pos}
end
section
variable {X : Cx} {a b : Expr} {ta tb : DTE} {pos : Pos}
end
open PySem PySem.Spec PyProof.Rows
open PySem PySem.Spec PyProof.Rows
structure Kp (O : Addr → Prop) (fs : List Addr) (h h' : Heap) : Prop where
  keep : ∀ b o, h.get? b = some o → O b → b ∉ fs → h'.get? b = some o
  slot : ∀ b o, h.get? b = some o → (∀ vs, o.data ≠ .fields vs) → ∃ sl, h'.get? b = some { o with slots := sl }
section
variable {O : Addr → Prop} {fs : List Addr} {h h1 h2 : Heap}
theorem Kp.refl : Kp O fs h h := ⟨fun _ _ e _ _ => e, fun _ o e _ => ⟨o.slots, e⟩⟩
theorem Kp.trans (a : Kp O fs h h1) (b : Kp O fs h1 h2) : Kp O fs h h2 := ⟨fun c o e l f => b.keep c o (a.keep c o e l f) l f, fun c o e d => let ⟨_, e1⟩ := a.slot c o e d; let ⟨sl, e2⟩ := b.slot c _ e1 d; ⟨sl, e2⟩⟩
theorem Kp.of (k : ∀ b o, h.get? b = some o → h1.get? b = some o) : Kp O fs h h1 := ⟨fun b o e _ _ => k b o e, fun b o e _ => ⟨o.slots, k b o e⟩⟩
theorem Kp.sub {fs' : List Addr} (a : Kp O fs h h1) (s : ∀ b ∈ fs, b ∈ fs') : Kp O fs' h h1 := ⟨fun b o e l f => a.keep b o e l fun z => f (s b z), a.slot⟩
theorem Kp.frames {base : Heap} {l : List Env} (a : Kp O fs h h1) (k : h.FunFrames base l) : h1.FunFrames base l := k.of_keeps fun b o e d => let ⟨_, e1⟩ := a.slot b o e d; ⟨_, e1, rfl⟩
end
section
variable {M : Model} {A : Around} {E : Value → Shared → Prop} {s : Shared} {O : Addr → Prop} {e L : Addr} {cls fl : Value} {env : Env} {outer : List Env} {base : Heap} {Q : Unit → Shared → Prop}
end
open PySem PySem.Spec PyProof.Rows
section
variable {X : Cx} {pins : List (Addr × Obj)} {σ : St} {H : Hp} {s : Shared} {O : Addr → Prop} {ea : Addr} {cls : Value} {E : XK} {base : Heap}
end
abbrev DTX := Rho → Mu → (Mu → Prop) → Prop
abbrev XSp := List D → Mu → (Mu → Prop) → Prop
noncomputable def Rr (K : PySem.W.Frag) (E : XK) (C : Value) (μ : Mu) (H : Hp) (Xk : Mu → Prop) : Prop := ∀ μ' H', Ext K μ H μ' H' → eT K μ' H' → Xk μ' → E C none H'
theorem Rr.on {K : PySem.W.Frag} {E : XK} {C : Value} {μ μ1 : Mu} {H H1 : Hp} {Xk : Mu → Prop} (w : Rr K E C μ H Xk) (e : Ext K μ H μ1 H1) : Rr K E C μ1 H1 Xk := fun μ' H' e' => w μ' H' (e.trans e')
section
variable {X : Cx} {E : XK} {C : Value} {e : Expr} {es : List Expr} {t : DTA} {te : DTE} {tx ty : DTX} {p pos : Pos} {x : Str} {k : Nat} {f : Addr} {fd : FuncData} {ps : List Str} {dsp : XSp} {st : Stmt} {sts : List Stmt}
end
open PySem PySem.Spec PyProof.Rows
section
variable {X : Cx} {E : XK} {x : Str} {C : Addr}
end
open PySem PySem.Spec PyProof.Rows
section
variable {prog : Program} {w : World} {A : Around} {E : Value → Shared → Prop} {h : Heap} {g : Array GenState} {d : Drawn} {t : Nat} {os : OsState} {a C : Addr} {o : Obj} {K : PySem.W.Frag}
end
open PySem PySem.Spec PyProof.Rows
section
variable {X : Cx} {pins : List (Addr × Obj)} {σ : St} {H : Hp} {s : Shared}
end
open PySem PySem.Spec PyProof.Rows
section
variable {P : Program} {w : World} {K : PySem.W.Frag} {mg : Str → Option Value} {base : Heap} {N : List Str} {lsc : Scope} {cl : List (Str × Addr)} {q : Str} {fa c1 : Addr} {A : Around} {outer : List Env} {s : Shared} {H : Hp} {E : XK} {σ : St} {k : Nat} {params : Arguments} {body : Expr} {pm ctv : Value} {t : TE}
end
open PySem PySem.Spec PyProof.Rows
section
variable {X : Cx} {pins : List (Addr × Obj)} {σ : St} {H : Hp} {s : Shared} {O : Addr → Prop} {ea : Addr} {oe : Obj} {vs : Array Value}
end
open PySem PySem.Spec PyProof.Rows
open PySem PySem.Spec PyProof.Rows
section
variable {X : Cx} {e : Expr} {te : DTE} {p py pos : Pos} {y : Str} {C : Addr} {b : Bool} {ea : Addr} {oe : Obj}
end
end L2.DL
set_option Elab.async false
set_option linter.all false
set_option maxRecDepth 100000
set_option maxHeartbeats 4000000
namespace L2
open PySem PySem.Spec PyProof.Rows DL
noncomputable def R5 (tabs : List Addr) (H : Hp) : Prop := ∀ b, H b = none ∨ (∃ o xs, H b = some (.frz o (.lst xs))) ∨ (b ∈ tabs ∧ H b = some (.tbl #[]))
theorem KZ {P : Program} {w : World} {K : PySem.W.Frag} {mg mb : Str → Option Value} {CX : CXT} {k : Nat} {fa a : Addr} {fd : FuncData} {x : Str} {sp : Sp} {s₁ : Shared} {vs : List Value} {ns : List Int} (tabs : List Addr)
    (hT : ∀ p ∈ tabs, s₁.heap.get? p = some (PySem.W.tabObj #[]) ∧ K.lookup p = none) (hA2 : ∀ c o p q, K.lookup c = some o → fq o = some (p, q) → p ∈ tabs) (hC : ∀ p ∈ tabs, isCodeTable s₁.heap p)
    (KX : K.In s₁.heap) (hns : s₁.heap.Ns mainGlobals mg) (hb : s₁.heap.Ns builtinsNs mb) (hbb : ∀ x : Str, x ≠ "__name__" → mb x = bootBuiltins x) (hlim : s₁.heap.NoLimit) (hg : s₁.gens = #[])
    (ha : s₁.heap.get? a = some { cls := .type "list", data := .seq vs.toArray }) (hi : IntsAre vs ns) (hl : ns.length ≤ sizeLine) (hr : pM k callerA)
    (F : ∀ base : Heap, K.In base → base.Ns mainGlobals mg → bS P w K mg base CX k fa fd [x] sp) (hbind : ∀ (s : Shared) (u : Value), BindsTo s fd ⟨[u], []⟩ [(x, u)])
    (hsp : ∀ H : Hp, Fc K H → SqL K H a (ns.map V.int) → sp [.ref a] H (fun v _ => v = .bl true) fun _ _ _ => False)
    (hCX : ∀ H e s', CX [] H s₁ (fun _ _ _ => False) e s' → False) :
    codeAny (model P w) callerA (.call (.ref fa) ⟨[.ref a], []⟩) (fun r s' => r = .ok (.ret (.bool true)) ∧ OldK s₁.heap s'.heap ∧ s'.os = s₁.os ∧ AllBare s'.gens) s₁ := by
  have rv := B2 hi
  have lenV := hi.length
  have ant : a ∉ tabs := fun z => by have := (hT a z).1; rw [ha] at this; cases this
  have core : ∀ H : Hp, R5 tabs H → SqL K H a (ns.map V.int) → HOk P w H s₁.heap → (∀ b, H b ≠ none → b = a ∨ b ∈ tabs) → (H a ≠ none → K.lookup a = none) → (∀ p ∈ tabs, H p = some (.tbl #[])) →
      codeAny (model P w) callerA (.call (.ref fa) ⟨[.ref a], []⟩) (fun r s' => r = .ok (.ret (.bool true)) ∧ OldK s₁.heap s'.heap ∧ s'.os = s₁.os ∧ AllBare s'.gens) s₁ := by
    intro H hO hS hok hA hK hP
    have base_of : ∀ {b : Addr} {o : Obj}, s₁.heap.get? b = some o → H b = none → (EX s₁.heap H).get? b = some o := fun e n => Nr e n
    have noA : ∀ {b : Addr} {o : Obj} {es : Array DictEntry} {ep : Nat}, s₁.heap.get? b = some o → o.data = .dict es ep → H b = none := fun {b o es ep} e d => by
      cases q : H b with
      | none => rfl
      | some u =>
        rcases hA b (by rw [q]; simp) with e' | e'
        · subst e'
          rw [ha] at e; cases e
          have d' : Data.seq vs.toArray _ = Data.dict es ep := d
          cases d'
        · rw [(hT b e').1] at e; cases e
          have d' : Data.fields #[] = Data.dict es ep := d
          cases d'
    have nsK : ∀ {b : Addr} {m : Str → Option Value}, s₁.heap.Ns b m → (EX s₁.heap H).Ns b m := fun {b m} ⟨o, es, ep, e, d, r⟩ => ⟨o, es, ep, base_of e (noA e d), d, r⟩
    have hKb : K.In (EX s₁.heap H) := fun b o e => base_of (KX b o e) (by
      cases q : H b with
      | none => rfl
      | some u =>
        rcases hA b (by rw [q]; simp) with e' | e'
        · subst e'
          rw [hK (by rw [q]; simp)] at e; cases e
        · have e2 := e; rw [show K.lookup b = none from (hT b e').2] at e2; cases e2)
    have hM : Mod K mg (EX s₁.heap H) := ⟨hKb, nsK hns, ⟨mb, nsK hb, hbb⟩, let ⟨mc, h1, h2⟩ := hlim; ⟨mc, nsK h1, h2⟩⟩
    have e0 : OS P w K mg (EX s₁.heap H) callerA [] s₁ H := ⟨rfl, hM, fun b o e => Ph e, Nat.le_of_eq (Ki _ _), trivial, fun b hb => absurd (show b ∈ ([] : List Addr) from hb) (by simp), hok, .of_eq hg⟩
    have tb : Fc K H := fun c o p q h1 h2 => ⟨#[], hP p (hA2 c o p q h1 h2), trivial, fun pos cv e => by simp [codeAmong] at e⟩
    refine codeAny_mono ((F _ hKb (nsK hns)).run callerA [] s₁ H ⟨[.ref a], []⟩ [.ref a] [.ref a] _ _ hr e0 (hbind s₁ (.ref a)) (.cons rfl .nil) (hsp H tb hS)) fun r s' h => ?_
    cases r with
    | error e => exact (hCX H e s' h).elim
    | ok fl =>
      cases fl with
      | next => exact False.elim h
      | brk => exact False.elim h
      | cont => exact False.elim h
      | ret u =>
        obtain ⟨v, H', os, bare, un, hok', r', q⟩ := h
        have q' : v = .bl true := q
        subst q'
        obtain rfl : u = Value.bool true := r'
        refine ⟨rfl, ⟨fun b o e => ?_, fun b o e => un.there b o e (by simp)⟩, os, bare⟩
        cases q : H b with
        | none => exact .inl (un.keep b o e q (by intro z; exact absurd (show b ∈ ([] : List Addr) from z) (by simp)) (by simp))
        | some u =>
          rcases hO b with z | ⟨ob, xs, z⟩ | ⟨zt, z⟩
          · rw [q] at z; cases z
          · have z2 := un.wJ b ob _ z
            obtain ⟨e1, _⟩ := hok b _ z
            obtain ⟨e2, _⟩ := hok' b _ z2
            rw [e] at e1; cases e1
            exact .inl e2
          · obtain ⟨more, z2⟩ := un.vC b _ z
            have e2 : s'.heap.get? b = some { cls := .none, data := .fields (#[] ++ more) } := hok' b _ z2
            have e1 := (hT b zt).1
            rw [e] at e1; cases e1
            exact .inr (.inl ⟨hC b zt, rfl, #[], more, rfl, e2⟩)
  have okT : ∀ p ∈ tabs, s₁.heap.get? p = some { cls := .none, data := .fields #[] } := fun p hp => (hT p hp).1
  cases hk : K.lookup a with
  | some o =>
    have e := KX a o hk
    rw [ha] at e
    cases e
    refine core (fun b => if b ∈ tabs then some (.tbl #[]) else none) (fun b => ?_) (.inr ⟨_, vs.toArray, _, hk, rfl, rfl, rfl, by rw [List.size_toArray, lenV]; exact hl, by simpa using rv⟩) (fun b u z => ?_) (fun b z => ?_) (fun z => absurd (if_neg ant) z) (fun p hp => if_pos hp)
    · by_cases hb : b ∈ tabs
      · exact .inr (.inr ⟨hb, if_pos hb⟩)
      · exact .inl (if_neg hb)
    · by_cases hb : b ∈ tabs
      · have z' := (if_pos hb).symm.trans z; cases z'; exact okT b hb
      · have z' := (if_neg hb).symm.trans z; cases z'
    · by_cases hb : b ∈ tabs
      · exact .inr hb
      · exact absurd (if_neg hb) z
  | none =>
    refine core (fun b => if b = a then some (.frz { cls := .type "list", data := .seq vs.toArray } (.lst (ns.map V.int))) else if b ∈ tabs then some (.tbl #[]) else none) (fun b => ?_) (.inl (.inr ⟨{ cls := .type "list", data := .seq vs.toArray }, if_pos rfl⟩)) (fun b u z => ?_) (fun b z => ?_) (fun _ => hk) (fun p hp => by
      have : p ≠ a := fun y => ant (by rw [← y]; exact hp)
      exact (if_neg this).trans (if_pos hp))
    · by_cases hb : b = a
      · exact .inr (.inl ⟨_, _, if_pos hb⟩)
      · by_cases hb2 : b ∈ tabs
        · exact .inr (.inr ⟨hb2, (if_neg hb).trans (if_pos hb2)⟩)
        · exact .inl ((if_neg hb).trans (if_neg hb2))
    · by_cases hb : b = a
      · have z' := (if_pos hb).symm.trans z
        cases z'
        subst hb
        exact ⟨ha, by rw [List.length_map]; exact hl, vs, _, rv, ha⟩
      · by_cases hb2 : b ∈ tabs
        · have z' := ((if_neg hb).trans (if_pos hb2)).symm.trans z; cases z'; exact okT b hb2
        · have z' := ((if_neg hb).trans (if_neg hb2)).symm.trans z; cases z'
    · by_cases hb : b = a
      · exact .inl hb
      · by_cases hb2 : b ∈ tabs
        · exact .inr hb2
        · exact absurd ((if_neg hb).trans (if_neg hb2)) z
theorem Mc {l : PySem.W.OpenLaw} {n k : Nat} {q : Program} {loose : List Str} {XP : (Str → Option Value) → Heap → Prop} {YP : World → Heap → Prop} {d : DefRec} {K : Params → PySem.W.Frag} {CX : World → CXT} {sp : World → Sp} {x : Str} (tabs : List Addr)
    (hn : l.most = some n) (hn2 : n ≤ sizeLine) (hdf : d.params.defaults = []) (hr : pM k callerA)
    (hY : ∀ (w : World) (h : Heap), YP w h → (K w.params).In h ∧ (∀ p ∈ tabs, h.get? p = some (PySem.W.tabObj #[]) ∧ (K w.params).lookup p = none) ∧ (∀ p ∈ tabs, isCodeTable h p))
    (hA2 : ∀ (w : World) c o p q, (K w.params).lookup c = some o → fq o = some (p, q) → p ∈ tabs)
    (F : ∀ (w : World) (mg : Str → Option Value) (fa : Addr) (h : Heap), (K w.params).In h → h.Ns mainGlobals mg → mg d.name = some (.ref fa) →
      ∃ fd : FuncData, (∀ (s : Shared) (u : Value), BindsTo s fd ⟨[u], []⟩ [(x, u)]) ∧
        ∀ base : Heap, (K w.params).In base → base.Ns mainGlobals mg → bS l.prog w (K w.params) mg base (CX w) k fa fd [x] (sp w))
    (hsp : ∀ (w : World) (H : Hp) (a : Addr) (ns : List Int), ns.length ≤ n → Fc (K w.params) H → SqL (K w.params) H a (ns.map V.int) → sp w [.ref a] H (fun v _ => v = .bl true) fun _ _ _ => False)
    (hCX : ∀ (w : World) (H : Hp) (s : Shared) (e : Value) (s' : Shared), CX w [] H s (fun _ _ _ => False) e s' → False) :
    PySem.W.WalkO q loose XP YP l.row.toRowW d [] (fun f vs => PySem.call f vs) := by
  refine Att.FC hn hdf fun w s₀ s₁ mg mb fa o pm cd doc a vs ns G Y ho hd hcd hmg hobj hints hlen hg => ?_
  obtain ⟨KX, hT, hC⟩ := hY w _ Y
  obtain ⟨fd, hb, hF⟩ := F w mg fa _ KX G.T.g hmg
  exact KZ tabs hT (hA2 w) hC KX G.T.g G.T.b G.T.builtins G.T.nolimit hg hobj hints (Nat.le_trans hlen hn2) hr hF hb (fun H hO hS => hsp w H a ns hlen hO hS) fun H e s' => hCX w H s₁ e s'
end L2
namespace L2.DL
open PySem PySem.Spec PyProof.Rows
theorem Ob {K : PySem.W.Frag} {l : List (Addr × Str)} (h : (K.filterMap fun p => fq p.2) = l) {c : Addr} {o : Obj} {P : Addr} {q : Str} (e : K.lookup c = some o) (e2 : fq o = some (P, q)) : (P, q) ∈ l := by
  rw [← h]
  have mem : ∀ (L : List (Addr × Obj)), List.lookup c L = some o → (c, o) ∈ L := fun L => by
    induction L with
    | nil => intro z; cases z
    | cons a r ih =>
      intro z
      rw [List.lookup_cons] at z
      by_cases y : c = a.1
      · rw [y] at z ⊢; simp at z; rw [← z]; exact List.mem_cons_self
      · rw [show (c == a.1) = false from by simpa using y] at z
        exact List.mem_cons_of_mem _ (ih z)
  exact List.mem_filterMap.mpr ⟨(c, o), mem K e, e2⟩
theorem BY {K : PySem.W.Frag} {h : Heap} {c P : Addr} {o : Obj} {q : Str} (X : K.In h) (l : K.lookup c = some o) (e : fq o = some (P, q)) : isCodeTable h P := by
  have ho := X _ _ l
  unfold fq at e
  split at e
  · rename_i cn vs hcls hd
    split at e
    · rename_i hcn
      subst hcn
      split at e
      · rename_i e11 e18
        split at e
        · cases e
          exact ⟨c, o, vs, ho, hcls, hd, by assumption⟩
        · cases e
      · cases e
    · cases e
  · cases e
theorem Jg {K : PySem.W.Frag} {c P : Addr} {q : Str} (h : (K.lookup c).bind fq = some (P, q)) : ∃ o, K.lookup c = some o ∧ fq o = some (P, q) := Option.bind_eq_some_iff.mp h
theorem E2 {K T : PySem.W.Frag} {h : Heap} (X : PySem.W.Frag.In (K ++ T) h) : K.In h := fun b o e => X b o (by
  show List.lookup b (K ++ T) = some o
  rw [List.lookup_append, show List.lookup b K = some o from e]; rfl)
open PySem PySem.Spec PyProof.Rows
section
end
open PySem PySem.Spec PyProof.Rows
theorem HV (bs : List Bool) : ((List.range bs.length).any fun i => (bs[i]?).getD false) = bs.any id := by
  rw [Bool.eq_iff_iff, List.any_eq_true, List.any_eq_true]
  constructor
  · rintro ⟨i, hi, h⟩
    have hl := List.mem_range.mp hi
    rw [List.getElem?_eq_getElem hl, Option.getD_some] at h
    exact ⟨bs[i], List.getElem_mem hl, h⟩
  · rintro ⟨b, hb, h⟩
    obtain ⟨i, hi, rfl⟩ := List.getElem_of_mem hb
    exact ⟨i, List.mem_range.mpr hi, by rw [List.getElem?_eq_getElem hi, Option.getD_some]; exact h⟩
section
variable {X : Cx} {a b e : Expr} {es : List Expr} {ta tb te : DTE} {t : DTA} {p pos : Pos} {x : Str} {bid T : String}
theorem Ko (hc : X.calm = true) : jf X (.builtin "any") (fun xs H Q => ∃ (p : Addr) (bs : List Bool), xs = [.ref p] ∧ H p = some (.lst (bs.map V.bl)) ∧ Q (.bl (bs.any id)) H) := by
  intro pins s σ H xs us Q I r h
  obtain ⟨l, bs, rfl, hl, q⟩ := h
  obtain ⟨u, rfl, rx⟩ := vals1 r
  cases rx
  obtain ⟨its, rv, pl, _⟩ := I.list (SqL.of hl)
  have eb := zK rv
  subst eb
  have hL := pl.isList
  have hlt := pl.lt
  refine call_any_walk (wpAny_pyIter_list hL ?_)
  refine ⟨s.heap.objs.size, [s.heap.objs.size, l], [s.heap.objs.size], (bs.map Value.bool).toArray.size, _, _, fun i => (bs[i]?).getD false, rfl, Walks.list (A := X.A.in1) (by exact I.ok.hd hc) _ l (Nat.ne_of_lt hlt) (bs.map Value.bool).toArray,
    ⟨⟨_, Heap.get?_push_size _ rfl, rfl, rfl⟩, hL.push _⟩, fun i v s' Q' E' hP hQ => ?_, fun h' tk hk => ?_⟩
  · have hP' : (bs.map Value.bool)[i]? = some v := by simpa using hP
    rw [List.getElem?_map] at hP'
    cases z : bs[i]? with
    | none => rw [z] at hP'; cases hP'
    | some b =>
      rw [z] at hP'
      cases hP'
      simp only [z, Option.getD_some] at hQ
      exact wpAny_truthy_bool hQ
  · have e : ((List.range (bs.map Value.bool).toArray.size).any fun i => (bs[i]?).getD false) = bs.any id := by
      rw [List.size_toArray, List.length_map]; exact HV bs
    rw [e]
    exact ⟨.bl (bs.any id), H, I.kept (PyProof.Rows.LSm.kept_iter hk), rfl, q⟩
def BZ : List D → Mu → DK → Prop := fun xs μ Q => match xs with
  | [.v (.list ys)] => (match cL ys with | some bs => Q (.v (.bool (bs.any id))) μ | none => False)
  | _ => False
theorem Rh {K : PySem.W.Frag} : rB K (fun xs H Q => ∃ (p : Addr) (bs : List Bool), xs = [.ref p] ∧ H p = some (.lst (bs.map V.bl)) ∧ Q (.bl (bs.any id)) H) BZ := by
  intro xs us H μ Qd Q ok rs h k
  unfold BZ at h
  split at h
  · rename_i ys
    cases q : cL ys with
    | none => rw [q] at h; exact h.elim
    | some bs =>
      rw [q] at h
      cases rs with
      | cons r1 r2 =>
        cases r2
        cases r1 with
        | list hs hn r => exact ⟨_, bs, rfl, by rw [hs, uB r q], k (.v _) _ μ H .refl ok (Rp.bool _) h⟩
  · exact h.elim
theorem Ny (hc : X.calm = true) (hg : Gl X "any") (hm : X.mg "any" = none) (ha : DA X (e :: es) t)
    (he : starEach (e :: es) X.env = (false, eval e X.env) :: starEach es X.env := by rfl) (hpl : (backTo pos (starEach es X.env)).any (·.1) = false := by rfl) : DE X (.Call (.Name "any" p) (e :: es) [] pos) (dCB BZ t) :=
  lX (Ko hc) Rh hg hm PyProof.Rows.Boot.«any» ha (by decide) (by decide) he hpl
theorem PB {ys : List PyData} {μ : Mu} {Q : DK} : BZ [.v (.list ys)] μ Q = (match cL ys with | some bs => Q (.v (.bool (bs.any id))) μ | none => False) := propext Iff.rfl
end
open PySem PySem.Spec PyProof.Rows
section
variable {X : Cx} {es : List Expr} {x1 : Nat} {tpos : Pos}
end
open PySem PySem.Spec PyProof.Rows
def x8 (ns : List Int) : Nat := (PyProof.Rows.firstMet (fun i => ns.getD i 0) ns.length).length
noncomputable def setAt (p : Addr) (n : Nat) (h : Heap) : Prop := ∃ o es ep t, h.get? p = some o ∧ o.ExactSet ∧ o.data = .set es ep t ∧ t.fits es.size = true ∧ (es.size : Int) < 2 ^ 63 ∧ es.size = n
theorem B0 : ∀ {ns : List Int} {vs : List Value}, Vals (ns.map V.int) vs → IntsAre vs ns
  | [], _, .nil => .nil
  | n :: ns, _, .cons h t => by
    obtain ⟨tk, rfl⟩ := h
    exact .cons n tk (B0 t)
section
variable {X : Cx} {e : Expr} {te : DTE} {p p2 pos pos2 : Pos}
theorem Kw (hc : X.calm = true) : jf X (.type "set") (fun xs H Q => ∃ (l : Addr) (ns : List Int), xs = [.ref l] ∧ H l = some (.lst (ns.map V.int)) ∧ ns.length ≤ 1000 ∧ ∀ q, H q = none → Q (.ref q) (upd H q (.ext (setAt q (x8 ns))))) := by
  intro pins s σ H xs us Q I r h
  obtain ⟨l, ns, rfl, hl, hn, q⟩ := h
  obtain ⟨u, rfl, rx⟩ := vals1 r
  cases rx
  obtain ⟨its, rv, pl, _⟩ := I.list (SqL.of hl)
  have hi := B0 rv
  have hlen : its.length = ns.length := IntsAre.length hi
  refine PySem.call_set_list (items := its.toArray) (ns := ns) (I.ok.hd hc) pl.isList (by simpa using hi) (by unfold scanBound; simp; omega) fun h' tk hS hk => ?_
  obtain ⟨o, es, ep, t, ho, hex, hd, _, _, hb, hf, hn'⟩ := hS
  have hsz : its.toArray.size = ns.length := by simpa using hlen
  rw [hsz] at hn'
  have h63 : (es.size : Int) < 2 ^ 63 := by
    have : (es.size : Int) < 4096 := by unfold scanBound at hb; omega
    exact Int.lt_of_lt_of_le this (by decide)
  refine ⟨.ref s.heap.objs.size, _, I.laid (t' := tk) (fun b o' e' => hk b o' (Heap.lt_size e') e') (Nat.le_refl _) (o := .ext (setAt s.heap.objs.size (x8 ns))) ⟨⟨o, es, ep, t, ho, hex, hd, hf, h63, hn'⟩, ⟨o, ho⟩, ?_⟩, rfl, q _ (I.hok.fresh (Nat.le_refl _))⟩
  rintro h1 h2 ⟨o, es, ep, t, ho, hex, hd, hf, h63, hn'⟩ k
  exact ⟨o, es, ep, t, k o ho, hex, hd, hf, h63, hn'⟩
theorem Kr : jf X (.builtin "len") (fun xs H Q => ∃ (q : Addr) (n : Nat), xs = [.ref q] ∧ H q = some (.ext (setAt q n)) ∧ Q (.int n) H) := by
  intro pins s σ H xs us Q I r h
  obtain ⟨q, n, rfl, hq, hQ⟩ := h
  obtain ⟨u, rfl, rx⟩ := vals1 r
  cases rx
  obtain ⟨⟨o, es, ep, t, ho, hex, hd, hf, h63, rfl⟩, _, _⟩ := I.hok q _ hq
  refine PySem.call_len_set ho hex hd hf h63 ?_
  exact ⟨.int es.size, H, I.kept (h' := s.heap) (t' := s.toks + 1 + 1) (fun _ _ e => e), ⟨_, rfl⟩, hQ⟩
noncomputable def Et (te : DTE) : DTE := fun ρ μ Q => te ρ μ fun d μ1 => match d with
  | .v (.list ys) => (match eE ys with | some ns => ns.length ≤ 1000 ∧ Q (.v (.int (x8 ns))) μ1 | none => False)
  | _ => False
theorem MJ {ρ : Rho} {μ : Mu} {Q : DK} : Et te ρ μ Q = te ρ μ fun d μ1 => match d with
  | .v (.list ys) => (match eE ys with | some ns => ns.length ≤ 1000 ∧ Q (.v (.int (x8 ns))) μ1 | none => False)
  | _ => False := propext Iff.rfl
theorem KS (hc : X.calm = true) (hg : Gl X "len") (hm : X.mg "len" = none) (hg2 : Gl X "set") (hm2 : X.mg "set" = none) (h : DE X e te)
    (he : starEach [Expr.Call (.Name "set" p2) [e] [] pos2] X.env = (false, eval (Expr.Call (.Name "set" p2) [e] [] pos2) X.env) :: starEach [] X.env := by rfl)
    (he2 : starEach [e] X.env = (false, eval e X.env) :: starEach [] X.env := by rfl) : DE X (.Call (.Name "len" p) [.Call (.Name "set" p2) [e] [] pos2] [] pos) (Et te) := by
  obtain ⟨t1, p1, l1⟩ := h
  refine ⟨_, Ab Kr hg hm PyProof.Rows.Boot.«len» (ql (Ci (Kw hc) hg2 hm2 PyProof.Rows.Boot.«set» (ql p1 xH he2) (by decide) (by decide) he2 rfl) xH he) (by decide) (by decide) he rfl, fun σ H ρ μ Qd Q S q k => ?_⟩
  refine l1 σ H ρ μ _ _ S q fun d u μ1 H1 e1 S1 r h1 => ?_
  split at h1
  · rename_i ys
    cases z : eE ys with
    | none => rw [z] at h1; exact h1.elim
    | some ns =>
      rw [z] at h1
      cases r with
      | @list a us _ ha hn ra =>
        have eu := wW ra z
        subst eu
        refine ⟨a, ns, rfl, ha, h1.1, fun q hq => ⟨q, x8 ns, rfl, kq, ?_⟩⟩
        have ex : Ext X.K μ1 H1 μ1 (upd H1 q (.ext (setAt q (x8 ns)))) := eP hq
        exact k (.v (.int (x8 ns))) _ μ1 _ (e1.trans ex) ⟨S1.mu.new hq, S1.rho.ext S1.mu ex⟩ (Rp.int _) h1.2
  · exact h1.elim
end
open PySem PySem.Spec PyProof.Rows
noncomputable def QT (ds : List D) : PQ := fun K u μ H => ∃ a us, u = .ref a ∧ H a = some (.tup us) ∧ nT K μ H ds us
section
variable {X : Cx} {pins : List (Addr × Obj)} {σ : St} {H : Hp} {s : Shared}
end
section
variable {K : PySem.W.Frag} {μ : Mu} {H : Hp} {a : Addr} {us : List V} {ds : List D}
end
section
variable {X : Cx} {es : List Expr} {t : DTA} {pos : Pos}
end
open PySem PySem.Spec PyProof.Rows
open PySem PySem.Spec PyProof.Rows
open PySem PySem.Spec PyProof.Rows
def zY (k : Int) : List Int → Option Nat
  | [] => none
  | x :: r => if x = k then some 0 else (zY k r).map (· + 1)
theorem zf : ∀ {is : List Int} {its : List Value}, Vals (is.map V.int) its → PySem.W.kf_ints its = true
  | [], _, .nil => rfl
  | i :: is, _, .cons r rs => by
    obtain ⟨t, rfl⟩ := r
    unfold PySem.W.kf_ints
    exact zf rs
theorem FJ {k : Int} : ∀ {is : List Int} {its : List Value} {j : Nat}, Vals (is.map V.int) its → zY k is = some j → PySem.W.kf_at k its = some j
  | [], _, _, .nil, h => by cases h
  | i :: is, _, j, .cons r rs, h => by
    obtain ⟨t, rfl⟩ := r
    unfold zY at h
    unfold PySem.W.kf_at
    by_cases e : i = k
    · rw [if_pos e] at h
      cases h
      have : isInt k (.int i t) = true := by rw [e]; simp [isInt]
      rw [this]
      rfl
    · rw [if_neg e] at h
      have : isInt k (.int i t) = false := by simp [isInt]; exact e
      rw [this]
      cases q : zY k is with
      | none => rw [q] at h; cases h
      | some z =>
        rw [q] at h
        cases h
        have := FJ rs q
        rw [this]
        rfl
def QJ : V → List V → Hp → VK → Prop := fun x vs H Q => ∃ l is k j, x = .ref l ∧ vs = [.int k] ∧ H l = some (.lst (is.map V.int)) ∧ zY k is = some j ∧ Q (.int (j : Nat)) H
theorem ME {X : Cx} : MtR X "list.index" QJ := by
  intro pins s σ H x vs v us Q I rx rv h
  obtain ⟨l, is, k, j, rfl, rfl, hH, hj, q⟩ := h
  cases rx
  obtain ⟨u, rfl, ru⟩ := rv.one
  obtain ⟨t, rfl⟩ := ru
  obtain ⟨z, its, n, r, hl, e⟩ := I.KR hH
  have a := zf r
  have b := FJ r hj
  obtain ⟨c1, c2, c3⟩ := PySem.W.kf_at_spec b
  have hz : its.length ≤ sizeLine := by rw [← r.length]; exact z
  rw [sizeLine_eq] at hz
  refine call_meets PySem.F.slot_list_index ⟨_, e, rfl⟩ PySem.F.entry_list_index (PySem.F.args_list_index_2 _ _)
    (MeetsSeq.list_index l its.toArray n (.int k t) (isInt k) (fun y hy => PySem.W.kf_eq a y (by simpa using hy)) j (by simpa using c1) (by omega) (by simpa using c2) (fun i hi hlt => by simpa using c3 i (by simpa using hi) hlt)) ⟨e, ?_⟩
  exact ⟨.int j, H, I.tok _, ⟨_, rfl⟩, q⟩
section
variable {X : Cx} {o e : Expr} {to te : DTE} {apos cpos : Pos}
noncomputable def C1 (to te : DTE) : DTE := fun ρ μ Q => to ρ μ fun x μ1 => match x with
  | .v (.list xs) => te ρ μ1 fun y μ2 => (match y with
    | .v (.int k) => ∃ is j, xs = is.map PyData.int ∧ zY k is = some j ∧ Q (.v (.int (j : Nat))) μ2
    | _ => False)
  | _ => False
theorem JX {to te : DTE} {ρ : Rho} {μ : Mu} {Q : DK} : C1 to te ρ μ Q = to ρ μ fun x μ1 => match x with
  | .v (.list xs) => te ρ μ1 fun y μ2 => (match y with
    | .v (.int k) => ∃ is j, xs = is.map PyData.int ∧ zY k is = some j ∧ Q (.v (.int (j : Nat))) μ2
    | _ => False)
  | _ => False := propext Iff.rfl
theorem Fv {K : PySem.W.Frag} {μ : Mu} {H : Hp} : ∀ {is : List Int} {us : List V}, RpL K μ H (is.map PyData.int) us → us = is.map V.int
  | [], _, .nil => rfl
  | i :: is, _, .cons r rs => by cases r; rw [Fv rs]; rfl
theorem Gg (ho : DE X o to) (ha : DE X e te) (hbase : attributeBase o "index" X.env (eval o X.env) = eval o X.env := by rfl)
    (hfew : ((backTo cpos (starEach [e] X.env)).all (fun x => !x.1) && (backToKw cpos (keywordEach [] X.env)).all (fun x => x.1.isSome)
      && decide ([e].length + ([] : List Keyword).length + (if ([] : List Keyword).isEmpty then 0 else 1) < 30)) = true := by rfl)
    (hline : (apos.endLine == cpos.line) = true := by rfl) (hs : starEach [e] X.env = (false, eval e X.env) :: starEach [] X.env := by rfl) (hplain : (backTo cpos (starEach [] X.env)).any (·.1) = false := by rfl) :
    DE X (.Call (.Attribute o "index" apos) [e] [] cpos) (C1 to te) := by
  obtain ⟨t1, p1, l1⟩ := ho
  obtain ⟨t2, p2, l2⟩ := ha
  refine ⟨_, Pm PySem.F.plainAttrs_list PySem.F.slot_list_index PySem.F.type_list_index ME p1 (ql p2 xH hs) hbase hfew hline hs hplain, fun σ H ρ μ Qd Q S h k => ?_⟩
  refine l1 σ H ρ μ _ _ S h fun x ux μ1 H1 e1 S1 rx h1 => ?_
  split at h1
  · rename_i xs
    cases rx with
    | @list a us _ ha hn ra =>
      refine ⟨.inl ⟨rfl, us, SqL.of ha⟩, l2 σ H1 ρ μ1 _ _ S1 h1 fun y uy μ2 H2 e2 S2 ry h2 => ?_⟩
      split at h2
      · rename_i kk
        obtain ⟨is, j, rfl, hj, h3⟩ := h2
        cases ry
        have ha2 := e2.keep _ _ ha hn trivial
        obtain rfl := Fv ra
        exact ⟨a, is, kk, j, rfl, rfl, ha2, hj, k (.v (.int (j : Nat))) _ μ2 H2 (e1.trans e2) S2 (Rp.int _) h3⟩
      · exact h2.elim
  · exact h1.elim
end
section
variable {X : Cx} {E : XK} {C : Value} {a b : Expr} {tx : DTX} {pos : Pos}
end
section
variable {X : Cx}
noncomputable def R6 : R2 := fun x y H Q => y = .non ∧ ((x = .non ∧ Q (.bl true) H) ∨ (∃ i, x = .int i ∧ Q (.bl false) H))
theorem OO : OpR X (compareOp .Is) R6 := by
  intro pins s σ H x y v u Q I rx ry h
  obtain ⟨rfl, ⟨rfl, q⟩ | ⟨i, rfl, q⟩⟩ := h
  · cases rx; cases ry
    exact wpAny_is_plain rfl ⟨.bl true, H, I, rfl, q⟩
  · obtain ⟨t, rfl⟩ := rx
    cases ry
    exact wpAny_is_plain rfl ⟨.bl false, H, I, rfl, q⟩
def FO : D → D → Mu → DK → Prop := fun x y μ Q => match x, y with
  | .v .none, .v .none => Q (.v (.bool true)) μ
  | .v (.int _), .v .none => Q (.v (.bool false)) μ
  | _, _ => False
theorem Qq {K : PySem.W.Frag} : jI K R6 FO := by
  intro x y ux uy H μ Qd Q ok rx ry h k
  unfold FO at h
  split at h
  · cases rx; cases ry; exact ⟨rfl, .inl ⟨rfl, k (.v _) _ μ H .refl ok (Rp.bool _) h⟩⟩
  · cases rx; cases ry; exact ⟨rfl, .inr ⟨_, rfl, k (.v _) _ μ H .refl ok (Rp.bool _) h⟩⟩
  · exact h.elim
theorem Lh {μ : Mu} {Q : DK} : FO (.v .none) (.v .none) μ Q = Q (.v (.bool true)) μ := propext Iff.rfl
theorem Oy {μ : Mu} {Q : DK} {i : Int} : FO (.v (.int i)) (.v .none) μ Q = Q (.v (.bool false)) μ := propext Iff.rfl
end
open PySem PySem.Spec PyProof.Rows
section
variable {X : Cx}
end
end L2.DL
set_option linter.all false
set_option maxRecDepth 100000
set_option maxHeartbeats 1000000
namespace NM
section
variable {d : Int} {x y z k s o : N3} {A B C A' B' C' P Q R E F G : Int}
theorem Rep.conv (h : Rep x A B C) (hc : C' ≠ 0) (e1 : A * C' = A' * C) (e2 : B * C' = B' * C) : Rep x A' B' C' := by
  obtain ⟨h0, h1, h2⟩ := h
  refine ⟨hc, Int.eq_of_mul_eq_mul_right h0 ?_, Int.eq_of_mul_eq_mul_right h0 ?_⟩
  · have : x.a * C' * C = (x.a * C) * C' := by grind
    rw [this, h1]
    have : A * x.c * C' = (A * C') * x.c := by grind
    rw [this, e1]
    grind
  · have : x.b * C' * C = (x.b * C) * C' := by grind
    rw [this, h2]
    have : B * x.c * C' = (B * C') * x.c := by grind
    rw [this, e2]
    grind
theorem zv (h : Rep x A B C) (ox : Ok x) : x.b = 0 ↔ B = 0 := by
  have e := h.b
  constructor
  · intro z
    rw [z, Int.zero_mul] at e
    exact (Int.mul_eq_zero.mp e.symm).resolve_right ox.cn
  · intro z
    rw [z, Int.zero_mul] at e
    exact (Int.mul_eq_zero.mp e).resolve_right h.c
theorem tY {u v : Int} (hv : v ≠ 0) : 0 ≤ u * (v * v) ↔ 0 ≤ u := by
  have h := sq_pos hv
  constructor
  · intro z
    rcases Int.lt_or_le u 0 with w | w
    · have := Int.mul_neg_of_neg_of_pos w h; omega
    · exact w
  · intro z; exact Int.mul_nonneg z (Int.le_of_lt h)
theorem jw {u v : Int} (hv : 0 < v) : 0 ≤ u * v ↔ 0 ≤ u := by
  constructor
  · intro z
    rcases Int.lt_or_le u 0 with w | w
    · have := Int.mul_neg_of_neg_of_pos w hv; omega
    · exact w
  · intro z; exact Int.mul_nonneg z (Int.le_of_lt hv)
theorem OR {u v : Int} (hv : v < 0) : 0 ≤ u * v ↔ u ≤ 0 := by
  have := jw (u := -u) (v := -v) (by omega)
  rw [Int.neg_mul_neg] at this
  omega
def cX (d : Int) (x : N3) : Bool := decide (x.b = 0) && decide (0 ≤ sg d x.a x.b)
theorem sg0 {n : Int} : 0 ≤ sg d n 0 ↔ 0 ≤ n := by
  rw [kG]
  split
  · omega
  · split <;> omega
theorem Cb (ox : Ok x) (h : Rep x A 0 C) : cX d x = true ↔ 0 ≤ A * C := by
  have hb := (zv h ox).mpr rfl
  unfold cX
  rw [hb]
  simp only [decide_true, Bool.true_and, decide_eq_true_eq, sg0]
  have e := h.a
  rw [← jw ox.c, ← tY (u := x.a * x.c) h.c]
  have e2 : x.a * x.c * (C * C) = (A * C) * (x.c * x.c) := by
    have : x.a * x.c * (C * C) = (x.a * C) * (x.c * C) := by grind
    rw [this, e]; grind
  rw [e2, tY ox.cn]
def shA (d : Int) (k s : N3) : N3 := times d s (ao d k)
def prt (d : Int) (k : N3) : N3 := times d (ao d k) (ao d k)
def shV (d : Int) (k s : N3) : N3 := low ((shA d k s).b * (prt d k).c) 0 ((shA d k s).c * (prt d k).b)
def shU (d : Int) (k s : N3) : N3 := less (shA d k s) (times d (shV d k s) (prt d k))
def vb (d : Int) (k s : N3) : N3 := if (times d k k).b = 0 then shA d k s else shU d k s
def uD (d : Int) (k s : N3) : N3 := if (times d k k).b = 0 then aw else shV d k s
def fT (d : Int) (k s : N3) : Bool := cX d (vb d k s) && cX d (uD d k s)
theorem Sb {a b c : Int} (hc : c ≠ 0) : (low a b c).b = 0 ↔ b = 0 := zv (jh hc) (iP _ _ hc)
theorem jl (ok : Ok k) : (times d k k).b = 0 ↔ k.a * k.b = 0 := by
  unfold times
  rw [Sb (uE ok ok)]
  have : k.a * k.b + k.b * k.a = 2 * (k.a * k.b) := by grind
  omega
theorem Dx (hn : norm d k ≠ 0) : Rep (ao d k) (k.c * k.a) (-k.c * k.b) (norm d k) := jh hn
theorem J9 (ok : Ok k) (hn : norm d k ≠ 0) (rk : Rep k P Q R) : P * P - d * Q * Q ≠ 0 := fun z => by
  have h := rk.norm (d := d)
  rw [z, Int.zero_mul] at h
  rcases Int.mul_eq_zero.mp h with w | w
  · exact hn w
  · rcases Int.mul_eq_zero.mp w with w | w <;> exact rk.c w
theorem ik (os : Ok s) (hn : norm d k ≠ 0) : Ok (shA d k s) := ai os (aB hn)
theorem Ao (hn : norm d k ≠ 0) : Ok (prt d k) := ai (aB hn) (aB hn)
theorem wk (ok : Ok k) (os : Ok s) (hn : norm d k ≠ 0) (rk : Rep k P Q R) (rs : Rep s E F G) : Rep (shA d k s) (R * (E * P - d * F * Q)) (R * (F * P - E * Q)) (G * (P * P - d * Q * Q)) :=
  (Rep.times os (aB hn) rs (rk.ao ok hn)).congr (by grind) (by grind) rfl
theorem NF (ok : Ok k) (hn : norm d k ≠ 0) (rk : Rep k P Q R) : Rep (prt d k) (R * R * (P * P + d * Q * Q)) (-(2 * (R * R * (P * Q)))) ((P * P - d * Q * Q) * (P * P - d * Q * Q)) :=
  (Rep.times (aB hn) (aB hn) (rk.ao ok hn) (rk.ao ok hn)).congr (by grind) (by grind) rfl
theorem GO (ok : Ok k) (hn : norm d k ≠ 0) (rk : Rep k P Q R) (hab : P * Q ≠ 0) : (prt d k).b ≠ 0 := fun z => by
  have := (zv (NF ok hn rk) (Ao hn)).mp z
  have h2 : R * R * (P * Q) = 0 := by omega
  exact (Int.mul_ne_zero (Int.mul_ne_zero rk.c rk.c) hab) h2
theorem ML (ok : Ok k) (rk : Rep k P Q R) : P * Q = 0 ↔ k.a * k.b = 0 := by
  have e : (k.a * k.b) * (R * R) = (P * Q) * (k.c * k.c) := by
    have h1 := rk.a
    have h2 := rk.b
    have : (k.a * k.b) * (R * R) = (k.a * R) * (k.b * R) := by grind
    rw [this, h1, h2]; grind
  constructor
  · intro z
    rw [z, Int.zero_mul] at e
    exact (Int.mul_eq_zero.mp e).resolve_right (Int.mul_ne_zero rk.c rk.c)
  · intro z
    rw [z, Int.zero_mul] at e
    exact (Int.mul_eq_zero.mp e.symm).resolve_right (Int.mul_ne_zero ok.cn ok.cn)
theorem vv {wb wc pb pc r D g M N : Int} (e1 : wb * (g * N) = r * D * wc) (e2 : pb * (N * N) = -(2 * (r * r * M)) * pc) (hK : g * N * (N * N) ≠ 0) : wb * pc * (2 * (g * r * M)) = N * -D * (wc * pb) := by
  apply Int.eq_of_mul_eq_mul_right hK
  have a1 : wb * pc * (2 * (g * r * M)) * (g * N * (N * N)) = (wb * (g * N)) * (pc * (2 * (g * r * M)) * (N * N)) := by grind
  have a2 : N * -D * (wc * pb) * (g * N * (N * N)) = (N * -D * wc * (g * N)) * (pb * (N * N)) := by grind
  rw [a1, a2, e1, e2]
  grind
theorem LZ (ok : Ok k) (os : Ok s) (hn : norm d k ≠ 0) (rk : Rep k P Q R) (rs : Rep s E F G) (hab : P * Q ≠ 0) : Rep (shV d k s) ((P * P - d * Q * Q) * (E * Q - F * P)) 0 (2 * (G * R * (P * Q))) := by
  have ra := wk ok os hn rk rs
  have rp := NF ok hn rk
  have hN := J9 ok hn rk
  have h1 := ra.b
  have h2 := rp.b
  have hc : (shA d k s).c * (prt d k).b ≠ 0 := Int.mul_ne_zero (ik os hn).cn (GO ok hn rk hab)
  have h0 := jh (a := (shA d k s).b * (prt d k).c) (b := 0) hc
  have hC : 2 * (G * R * (P * Q)) ≠ 0 := Int.mul_ne_zero (by decide) (Int.mul_ne_zero (Int.mul_ne_zero rs.c rk.c) hab)
  refine Rep.conv h0 hC ?_ (by simp)
  have := vv h1 h2 (Int.mul_ne_zero (Int.mul_ne_zero rs.c hN) (Int.mul_ne_zero hN hN))
  rw [this]
  grind
theorem wU (ok : Ok k) (os : Ok s) (hn : norm d k ≠ 0) (hab : k.a * k.b ≠ 0) : Ok (shV d k s) := iP _ _ (Int.mul_ne_zero (ik os hn).cn (GO ok hn (aq ok) hab))
theorem uu {e f g p q r d N : Int} (hN : N = p * p - d * q * q) : (r * (e * p - d * f * q) * (2 * (g * (p * q) * N)) - r * (e * q - f * p) * (p * p + d * q * q) * (g * N)) * (2 * (g * (p * q))) = r * (e * q + f * p) * (g * N * (2 * (g * (p * q) * N))) := by
  have key : (e * p - d * f * q) * (2 * (p * q)) - (e * q - f * p) * (p * p + d * q * q) = (e * q + f * p) * N := by subst hN; grind
  have : (r * (e * p - d * f * q) * (2 * (g * (p * q) * N)) - r * (e * q - f * p) * (p * p + d * q * q) * (g * N)) = r * g * N * ((e * p - d * f * q) * (2 * (p * q)) - (e * q - f * p) * (p * p + d * q * q)) := by grind
  rw [this, key]
  grind
theorem Pq (ok : Ok k) (os : Ok s) (hn : norm d k ≠ 0) (rk : Rep k P Q R) (rs : Rep s E F G) (hab : P * Q ≠ 0) : Rep (shU d k s) (R * (E * Q + F * P)) 0 (2 * (G * (P * Q))) := by
  have ra := wk ok os hn rk rs
  have rp := NF ok hn rk
  have rv := LZ ok os hn rk rs hab
  have hN := J9 ok hn rk
  have hab' : k.a * k.b ≠ 0 := fun z => hab ((ML ok rk).mpr z)
  have oa := ik (s := s) os hn
  have op := Ao (k := k) hn
  have ov := wU ok os hn hab'
  have rt := Rep.times (d := d) ov op rv rp
  generalize hM : P * P - d * Q * Q = N at *
  have hC2 : 2 * (G * (P * Q) * N) ≠ 0 := Int.mul_ne_zero (by decide) (Int.mul_ne_zero (Int.mul_ne_zero rs.c hab) hN)
  have rt2 : Rep (times d (shV d k s) (prt d k)) (R * (E * Q - F * P) * (P * P + d * Q * Q)) (-(2 * (R * (E * Q - F * P) * (P * Q)))) (2 * (G * (P * Q) * N)) := by
    refine rt.conv hC2 ?_ ?_
    · generalize E * Q - F * P = T
      generalize P * P + d * Q * Q = S
      generalize P * Q = M
      grind
    · generalize E * Q - F * P = T
      generalize P * P + d * Q * Q = S
      generalize P * Q = M
      grind
  have rl := Rep.less oa (ai ov op) ra rt2
  have hC : 2 * (G * (P * Q)) ≠ 0 := Int.mul_ne_zero (by decide) (Int.mul_ne_zero rs.c hab)
  refine rl.conv hC ?_ ?_
  · exact uu hM.symm
  · rw [Int.zero_mul]
    have : R * (F * P - E * Q) * (2 * (G * (P * Q) * N)) - -(2 * (R * (E * Q - F * P) * (P * Q))) * (G * N) = 0 := by grind
    rw [this, Int.zero_mul]
end
end NM
set_option linter.all false
set_option maxRecDepth 100000
set_option maxHeartbeats 4000000
namespace NM
section
variable {d : Int} {x y z : N3}
theorem ry1 (d a b a' b' p q : Int) (h1 : a' * p = a * q) (h2 : b' * p = b * q ∨ b' * p = -b * q) : (a' * a' - d * b' * b') * (p * p) = (a * a - d * b * b) * (q * q) := by
  have e1 : a' * a' * (p * p) = a * a * (q * q) := by
    have : (a' * p) * (a' * p) = (a * q) * (a * q) := by rw [h1]
    grind
  have e2 : b' * b' * (p * p) = b * b * (q * q) := by
    have : (b' * p) * (b' * p) = (b * q) * (b * q) := by
      rcases h2 with h | h <;> rw [h] <;> grind
    grind
  have : (a' * a' - d * b' * b') * (p * p) = a' * a' * (p * p) - d * (b' * b' * (p * p)) := by grind
  rw [this, e1, e2]
  grind
theorem Sj (ox : Ok x) (hn : norm d x ≠ 0) : (ao d x).a * norm d x = x.a * (x.c * (ao d x).c) := by
  have := ((aq ox).ao ox hn).a
  have e : x.a * x.a - d * x.b * x.b = norm d x := rfl
  rw [e] at this
  rw [this]; grind
theorem Tj (ox : Ok x) (hn : norm d x ≠ 0) : (ao d x).b * norm d x = -x.b * (x.c * (ao d x).c) := by
  have := ((aq ox).ao ox hn).b
  have e : x.a * x.a - d * x.b * x.b = norm d x := rfl
  rw [e] at this
  rw [this]; grind
section
variable {f : N3}
theorem JJ (h : 0 < f.a) (fb : f.b = 0) : sg d f.a f.b = 1 := by rw [fb, kG, if_neg (by omega), if_pos h]
end
theorem Jy (hd : aA d) (ox : Ok x) (nx : norm d x ≠ 0) : (bA d x).b = 0 := by
  have := (oW hd ox nx).b
  rw [Int.zero_mul] at this
  exact (Int.mul_eq_zero.mp this).resolve_right nx
theorem Co (hd : aA d) (ox : Ok x) (nx : norm d x < 0) : (bA d x).a ≤ 0 := by
  have r := (oW hd ox (by omega)).a
  have hc := (eV hd (show norm d x ≠ 0 by omega) ox).c
  refine Int.not_lt.mp fun h => ?_
  have h1 : (bA d x).a * norm d x < 0 := Int.mul_neg_of_pos_of_neg h nx
  have h2 : 0 ≤ 4 * (x.a * x.a) * (bA d x).c := Int.mul_nonneg (Int.mul_nonneg (by decide) (sq_nonneg _)) (Int.le_of_lt hc)
  omega
end
end NM
set_option linter.all false
set_option maxRecDepth 100000
set_option maxHeartbeats 4000000
namespace NM
noncomputable def Ht (d : Int) (n : Nat) (x : N3) : Prop := ∃ a b e f : Int, Sz n a ∧ Sz n b ∧ Sz n e ∧ Sz n f ∧ e * e - d * f * f ≠ 0 ∧ x.a * e + d * x.b * f = a * x.c ∧ x.a * f + x.b * e = b * x.c
section
variable {d : Int} {n m : Nat} {x y : N3}
theorem Ht.mono (h : Ht d n x) (l : n ≤ m) : Ht d m x := by
  obtain ⟨a, b, e, f, h1, h2, h3, h4, r⟩ := h
  exact ⟨a, b, e, f, h1.mono l, h2.mono l, h3.mono l, h4.mono l, r⟩
theorem sz0 : Sz n 0 := Sz.of (by simp; exact Nat.pos_of_ne_zero (by simp))
end
end NM
set_option linter.all false
set_option maxRecDepth 100000
set_option maxHeartbeats 4000000
namespace NM
section
variable {d : Int} {x y z : N3}
noncomputable def gtL (d : Int) (k o : N3) : Prop := ((bA d o).a.natAbs : Int) * (bA d k).c < ((bA d k).a.natAbs : Int) * (bA d o).c
instance : Decidable (gtL d x y) := by unfold gtL; infer_instance
theorem lt3 {a b c p q r : Int} (hp : 0 < p) (hq : 0 < q) (hr : 0 < r) (h1 : a * q ≤ b * p) (h2 : b * r < c * q) : a * r < c * p := by
  refine Int.lt_of_mul_lt_mul_right (a := q) ?_ (Int.le_of_lt hq)
  have e1 : a * q * r ≤ b * p * r := Int.mul_le_mul_of_nonneg_right h1 (Int.le_of_lt hr)
  have e2 : b * r * p < c * q * p := Int.mul_lt_mul_of_pos_right h2 hp
  have f1 : a * r * q = a * q * r := by grind
  have f2 : c * p * q = c * q * p := by grind
  have f3 : b * p * r = b * r * p := by grind
  omega
theorem gt_trans (cx : 0 < (bA d x).c) (cy : 0 < (bA d y).c) (cz : 0 < (bA d z).c) (h1 : ¬ gtL d y z) (h2 : gtL d x z) : gtL d x y := by
  unfold gtL at *
  exact lt3 cy cz cx (Int.not_lt.mp h1) h2
theorem M1 : ¬ gtL d x x := by unfold gtL; omega
def fH (d : Int) (ks : List N3) : Nat → Nat
  | 0 => 0
  | n + 1 => if gtL d (ks.getD (n + 1) aw) (ks.getD (fH d ks n) aw) then n + 1 else fH d ks n
theorem tG {ks : List N3} (hc : ∀ i, i < ks.length → 0 < (bA d (ks.getD i aw)).c) : ∀ n, n < ks.length → fH d ks n ≤ n ∧ (∀ j, j ≤ n → ¬ gtL d (ks.getD j aw) (ks.getD (fH d ks n) aw)) ∧ (∀ j, j < fH d ks n → gtL d (ks.getD (fH d ks n) aw) (ks.getD j aw))
  | 0, h => ⟨Nat.le_refl _, fun j hj => by cases Nat.le_zero.mp hj; exact M1, fun j hj => absurd hj (by unfold fH; omega)⟩
  | n + 1, h => by
    obtain ⟨h1, h2, h3⟩ := tG hc n (by omega)
    unfold fH
    by_cases g : gtL d (ks.getD (n + 1) aw) (ks.getD (fH d ks n) aw)
    · rw [if_pos g]
      have all : ∀ j, j ≤ n → gtL d (ks.getD (n + 1) aw) (ks.getD j aw) := fun j hj => gt_trans (hc _ h) (hc _ (by omega)) (hc _ (by omega)) (h2 j hj) g
      refine ⟨Nat.le_refl _, fun j hj => ?_, fun j hj => all j (by omega)⟩
      by_cases e : j = n + 1
      · subst e; exact M1
      · have := all j (by omega)
        unfold gtL at this ⊢
        omega
    · rw [if_neg g]
      refine ⟨by omega, fun j hj => ?_, h3⟩
      by_cases e : j = n + 1
      · subst e; exact g
      · exact h2 j (by omega)
theorem Fy (hd : aA d) (ox : Ok x) (nx : 0 < norm d x) : 0 ≤ (bA d x).a := by
  have r := (oW hd ox (show norm d x ≠ 0 by omega)).a
  have hc := (eV hd (show norm d x ≠ 0 by omega) ox).c
  refine Int.not_lt.mp fun h => ?_
  have h1 : (bA d x).a * norm d x < 0 := Int.mul_neg_of_neg_of_pos h nx
  have h2 : 0 ≤ 4 * (x.a * x.a) * (bA d x).c := Int.mul_nonneg (Int.mul_nonneg (by decide) (sq_nonneg _)) (Int.le_of_lt hc)
  omega
theorem S9 (hd : aA d) (ox : Ok x) (oy : Ok y) (nx : norm d x ≠ 0) (ny : norm d y ≠ 0) : Pd d (bA d y) (bA d x) = 1 ↔ (bA d x).a * (bA d y).c < (bA d y).a * (bA d x).c := by
  unfold Pd
  rw [Jy hd ox nx, Jy hd oy ny]
  rw [show (0 : Int) * (bA d x).c - 0 * (bA d y).c = 0 by omega, kG]
  constructor
  · intro h
    split at h
    · cases h
    · split at h
      · omega
      · cases h
  · intro h
    rw [if_neg (by omega), if_pos (by omega)]
theorem P5 (hd : aA d) (ox : Ok x) (oy : Ok y) (nx : 0 < norm d x) (ny : 0 < norm d y) : Pd d (bA d y) (bA d x) = 1 ↔ gtL d y x := by
  rw [S9 hd ox oy (by omega) (by omega)]
  unfold gtL
  have h1 := Fy hd ox nx
  have h2 := Fy hd oy ny
  rw [show ((bA d x).a.natAbs : Int) = (bA d x).a by omega, show ((bA d y).a.natAbs : Int) = (bA d y).a by omega]
theorem Rx (hd : aA d) (ox : Ok x) (oy : Ok y) (nx : norm d x < 0) (ny : norm d y < 0) : Pd d (bA d x) (bA d y) = 1 ↔ gtL d y x := by
  rw [S9 hd oy ox (by omega) (by omega)]
  unfold gtL
  have h1 := Co hd ox nx
  have h2 := Co hd oy ny
  rw [show ((bA d x).a.natAbs : Int) = -(bA d x).a by omega, show ((bA d y).a.natAbs : Int) = -(bA d y).a by omega, Int.neg_mul, Int.neg_mul]
  omega
end
end NM
set_option linter.all false
set_option maxRecDepth 100000
set_option maxHeartbeats 400000
namespace NM
section
variable {d : Int} {x y z k s o f : N3}
noncomputable def Lay (d : Int) (k s : N3) : Prop := (0 < norm d k ∧ 0 < norm d s ∧ s.b * s.b * (k.a * k.a) ≤ s.a * s.a * (k.b * k.b)) ∨ (norm d k < 0 ∧ norm d s < 0 ∧ s.a * s.a * (k.b * k.b) ≤ s.b * s.b * (k.a * k.a))
theorem M6 {u v : Int} (hv : 0 ≤ v) (h : u * u ≤ v * v) : 0 ≤ v + u ∧ 0 ≤ v - u := by
  rcases Int.lt_or_le u 0 with w | w
  · have := Ju (u := -u) (v := v) (by omega) (by rw [Int.neg_mul_neg]; exact h) hv
    omega
  · have := Ju w h hv
    omega
theorem ly1 {d P Q E F : Int} (hd : 0 < d) (hQ : Q ≠ 0) (hP : P ≠ 0) (hN : d * Q * Q < P * P) (h1 : 0 ≤ (E * Q + F * P) * (P * Q)) (h2 : 0 ≤ (E * Q - F * P) * (P * Q)) : F * F * (P * P) ≤ E * E * (Q * Q) ∧ d * F * F ≤ E * E := by
  have h := Int.mul_nonneg h1 h2
  have e : (E * Q + F * P) * (P * Q) * ((E * Q - F * P) * (P * Q)) = (E * E * (Q * Q) - F * F * (P * P)) * ((P * Q) * (P * Q)) := by grind
  rw [e, tY (Int.mul_ne_zero hP hQ)] at h
  refine ⟨by omega, ?_⟩
  have h3 : 0 ≤ (P * P - d * Q * Q) * (F * F) := Int.mul_nonneg (by omega) (sq_nonneg F)
  have e2 : (P * P - d * Q * Q) * (F * F) = F * F * (P * P) - d * F * F * (Q * Q) := by grind
  have h4 : 0 ≤ (E * E - d * F * F) * (Q * Q) := by
    have : (E * E - d * F * F) * (Q * Q) = E * E * (Q * Q) - d * F * F * (Q * Q) := by grind
    rw [this]; omega
  rw [tY hQ] at h4
  omega
theorem ly2 {P Q E F : Int} (hP : 0 < P) (hE : 0 ≤ E) (h : F * F * (P * P) ≤ E * E * (Q * Q)) : 0 ≤ (E * Q + F * P) * (P * Q) ∧ 0 ≤ (E * Q - F * P) * (P * Q) := by
  have hX : 0 ≤ E * P * (Q * Q) := Int.mul_nonneg (Int.mul_nonneg hE (by omega)) (sq_nonneg Q)
  have hs : (F * (P * P) * Q) * (F * (P * P) * Q) ≤ (E * P * (Q * Q)) * (E * P * (Q * Q)) := by
    have h1 := Int.mul_nonneg (show 0 ≤ E * E * (Q * Q) - F * F * (P * P) by omega) (sq_nonneg (P * Q))
    have e1 : (E * E * (Q * Q) - F * F * (P * P)) * (P * Q * (P * Q)) = (E * P * (Q * Q)) * (E * P * (Q * Q)) - (F * (P * P) * Q) * (F * (P * P) * Q) := by grind
    omega
  obtain ⟨a1, a2⟩ := M6 hX hs
  have e1 : (E * Q + F * P) * (P * Q) = E * P * (Q * Q) + F * (P * P) * Q := by grind
  have e2 : (E * Q - F * P) * (P * Q) = E * P * (Q * Q) - F * (P * P) * Q := by grind
  rw [e1, e2]
  exact ⟨a1, a2⟩
theorem ly3 {d P Q E F : Int} (hd : 0 < d) (hQ : Q ≠ 0) (hP : P ≠ 0) (hN : P * P < d * Q * Q) (h1 : 0 ≤ (E * Q + F * P) * (P * Q)) (h2 : (E * Q - F * P) * (P * Q) ≤ 0) : E * E * (Q * Q) ≤ F * F * (P * P) ∧ E * E ≤ d * F * F := by
  have h := Int.mul_nonneg h1 (show 0 ≤ -((E * Q - F * P) * (P * Q)) by omega)
  have e : (E * Q + F * P) * (P * Q) * -((E * Q - F * P) * (P * Q)) = (F * F * (P * P) - E * E * (Q * Q)) * ((P * Q) * (P * Q)) := by grind
  rw [e, tY (Int.mul_ne_zero hP hQ)] at h
  refine ⟨by omega, ?_⟩
  have h3 : 0 ≤ (d * Q * Q - P * P) * (F * F) := Int.mul_nonneg (by omega) (sq_nonneg F)
  have e2 : (d * Q * Q - P * P) * (F * F) = d * F * F * (Q * Q) - F * F * (P * P) := by grind
  have h4 : 0 ≤ (d * F * F - E * E) * (Q * Q) := by
    have : (d * F * F - E * E) * (Q * Q) = d * F * F * (Q * Q) - E * E * (Q * Q) := by grind
    rw [this]; omega
  rw [tY hQ] at h4
  omega
theorem ly4 {P Q E F : Int} (hQ : 0 < Q) (hF : 0 ≤ F) (h : E * E * (Q * Q) ≤ F * F * (P * P)) : 0 ≤ (E * Q + F * P) * (P * Q) ∧ (E * Q - F * P) * (P * Q) ≤ 0 := by
  have hY : 0 ≤ F * (P * P) * Q := Int.mul_nonneg (Int.mul_nonneg hF (sq_nonneg P)) (by omega)
  have hs : (E * P * (Q * Q)) * (E * P * (Q * Q)) ≤ (F * (P * P) * Q) * (F * (P * P) * Q) := by
    have h1 := Int.mul_nonneg (show 0 ≤ F * F * (P * P) - E * E * (Q * Q) by omega) (sq_nonneg (P * Q))
    have e1 : (F * F * (P * P) - E * E * (Q * Q)) * (P * Q * (P * Q)) = (F * (P * P) * Q) * (F * (P * P) * Q) - (E * P * (Q * Q)) * (E * P * (Q * Q)) := by grind
    omega
  obtain ⟨a1, a2⟩ := M6 hY hs
  have e1 : (E * Q + F * P) * (P * Q) = F * (P * P) * Q + E * P * (Q * Q) := by grind
  have e2 : (E * Q - F * P) * (P * Q) = -(F * (P * P) * Q - E * P * (Q * Q)) := by grind
  rw [e1, e2]
  exact ⟨a1, by omega⟩
theorem JL (hd : aA d) (hs : sg d s.a s.b = 1) (hn : 0 < norm d s) : 0 < s.a := by
  have h : d * s.b * s.b < s.a * s.a := by have : norm d s = s.a * s.a - d * s.b * s.b := rfl; omega
  exact (ni hd h).mp ((jH hd).mp hs)
theorem J6 (hd : aA d) (hs : sg d s.a s.b = 1) (hn : norm d s < 0) : 0 < s.b := by
  have h : s.a * s.a < d * s.b * s.b := by have : norm d s = s.a * s.a - d * s.b * s.b := rfl; omega
  exact (ko hd h).mp ((jH hd).mp hs)
theorem CC : cX d aw = true := by
  unfold cX
  rw [show aw.b = 0 from rfl, show aw.a = 0 from rfl, show sg d 0 0 = 0 from fk.mpr ⟨rfl, rfl⟩]
  rfl
theorem sgA (hd : aA d) (ok : Ok k) (os : Ok s) (hk : sg d k.a k.b = 1) (hs : sg d s.a s.b = 1) : sg d (shA d k s).a (shA d k s).b = 1 := by
  have hn := aK hd ok hk
  unfold shA
  rw [cb hd os (aB hn), hs, dX hd ok hk]
  rfl
theorem M9 (hd : aA d) (ok : Ok k) (os : Ok s) (hk : sg d k.a k.b = 1) (hs : sg d s.a s.b = 1) (hl : k.a * k.b = 0) : fT d k s = true ↔ s.b * k.a = s.a * k.b := by
  have hn := aK hd ok hk
  unfold fT vb uD
  rw [if_pos ((jl ok).mpr hl), if_pos ((jl ok).mpr hl), CC, Bool.and_true]
  unfold cX
  rw [sgA hd ok os hk hs]
  simp only [show decide ((0 : Int) ≤ 1) = true from rfl, Bool.and_true, decide_eq_true_eq]
  rw [zv (wk ok os hn (aq ok) (aq os)) (ik os hn)]
  constructor
  · intro h
    have := (Int.mul_eq_zero.mp h).resolve_left ok.cn
    omega
  · intro h
    rw [show s.b * k.a - s.a * k.b = 0 by omega, Int.mul_zero]
theorem N8 (hd : aA d) (ok : Ok k) (os : Ok s) (hk : sg d k.a k.b = 1) (hl : k.a * k.b ≠ 0) : fT d k s = true ↔ 0 ≤ (s.a * k.b + s.b * k.a) * (k.a * k.b) ∧ 0 ≤ norm d k * ((s.a * k.b - s.b * k.a) * (k.a * k.b)) := by
  have hn := aK hd ok hk
  have hl' : ¬ (times d k k).b = 0 := fun z => hl ((jl ok).mp z)
  unfold fT vb uD
  rw [if_neg hl', if_neg hl', Bool.and_eq_true]
  have ru := Pq ok os hn (aq ok) (aq os) hl
  have rv := LZ ok os hn (aq ok) (aq os) hl
  have ou : Ok (shU d k s) := lH (ik os hn) (ai (wU ok os hn hl) (Ao hn))
  rw [Cb ou ru, Cb (wU ok os hn hl) rv]
  have hc := ok.c
  have hg := os.c
  have e1 : k.c * (s.a * k.b + s.b * k.a) * (2 * (s.c * (k.a * k.b))) = (s.a * k.b + s.b * k.a) * (k.a * k.b) * (2 * (k.c * s.c)) := by grind
  have e2 : (k.a * k.a - d * k.b * k.b) * (s.a * k.b - s.b * k.a) * (2 * (s.c * k.c * (k.a * k.b))) = norm d k * ((s.a * k.b - s.b * k.a) * (k.a * k.b)) * (2 * (k.c * s.c)) := by
    show norm d k * _ * _ = _
    grind
  have hp : 0 < 2 * (k.c * s.c) := Int.mul_pos (by decide) (Int.mul_pos hc hg)
  rw [e1, e2, jw hp, jw hp]
theorem sZ (hd : aA d) (ok : Ok k) (os : Ok s) (hk : sg d k.a k.b = 1) (hs : sg d s.a s.b = 1) : fT d k s = true ↔ Lay d k s := by
  have hn := aK hd ok hk
  have hm := aK hd os hs
  have d0 : 0 < d := by have := hd.1; omega
  have nk : norm d k = k.a * k.a - d * k.b * k.b := rfl
  have ns : norm d s = s.a * s.a - d * s.b * s.b := rfl
  by_cases hl : k.a * k.b = 0
  · rw [M9 hd ok os hk hs hl]
    rcases Int.mul_eq_zero.mp hl with h0 | h0
    · have kb : k.b ≠ 0 := fun z => by rw [h0, z] at nk; simp at nk; exact hn nk
      have n1 : norm d k < 0 := by
        have := Int.mul_pos d0 (sq_pos kb)
        rw [nk, h0, Int.mul_assoc]; simp; omega
      rw [h0, Int.mul_zero]
      constructor
      · intro h
        have hE : s.a = 0 := (Int.mul_eq_zero.mp h.symm).resolve_right kb
        have sb : s.b ≠ 0 := fun z => by rw [hE, z] at ns; simp at ns; exact hm ns
        refine .inr ⟨n1, ?_, ?_⟩
        · have := Int.mul_pos d0 (sq_pos sb)
          rw [ns, hE, Int.mul_assoc]; simp; omega
        · rw [hE]; simp [h0]
      · rintro (⟨z, _⟩ | ⟨_, _, h⟩)
        · omega
        · rw [h0] at h
          simp only [Int.mul_zero] at h
          have h2 := Int.mul_nonneg (sq_nonneg s.a) (sq_nonneg k.b)
          have h3 : s.a * s.a * (k.b * k.b) = 0 := by omega
          have h4 := (Int.mul_eq_zero.mp h3).resolve_right (Int.mul_ne_zero kb kb)
          have h5 : s.a = 0 := by rcases Int.mul_eq_zero.mp h4 with w | w <;> exact w
          rw [h5]; simp
    · have ka : k.a ≠ 0 := fun z => by rw [h0, z] at nk; simp at nk; exact hn nk
      have n1 : 0 < norm d k := by
        have := sq_pos ka
        rw [nk, h0]; simp; omega
      rw [h0, Int.mul_zero]
      constructor
      · intro h
        have hF : s.b = 0 := (Int.mul_eq_zero.mp h).resolve_right ka
        have sa : s.a ≠ 0 := fun z => by rw [hF, z] at ns; simp at ns; exact hm ns
        refine .inl ⟨n1, ?_, ?_⟩
        · have := sq_pos sa
          rw [ns, hF]; simp; omega
        · rw [hF]; simp [h0]
      · rintro (⟨_, _, h⟩ | ⟨z, _⟩)
        · rw [h0] at h
          simp only [Int.mul_zero] at h
          have h2 := Int.mul_nonneg (sq_nonneg s.b) (sq_nonneg k.a)
          have h3 : s.b * s.b * (k.a * k.a) = 0 := by omega
          have h4 := (Int.mul_eq_zero.mp h3).resolve_right (Int.mul_ne_zero ka ka)
          have h5 : s.b = 0 := by rcases Int.mul_eq_zero.mp h4 with w | w <;> exact w
          rw [h5]; simp
        · omega
  · rw [N8 hd ok os hk hl]
    have ka : k.a ≠ 0 := fun z => hl (by rw [z, Int.zero_mul])
    have kb : k.b ≠ 0 := fun z => hl (by rw [z, Int.mul_zero])
    rcases Int.lt_or_le 0 (norm d k) with n1 | n1
    · have hk' := JL hd hk n1
      rw [show (0 ≤ norm d k * ((s.a * k.b - s.b * k.a) * (k.a * k.b))) ↔ 0 ≤ (s.a * k.b - s.b * k.a) * (k.a * k.b) from by rw [Int.mul_comm]; exact jw n1]
      constructor
      · rintro ⟨h1, h2⟩
        obtain ⟨a1, a2⟩ := ly1 d0 kb ka (by omega) h1 h2
        exact .inl ⟨n1, by omega, a1⟩
      · rintro (⟨_, n2, h⟩ | ⟨z, _⟩)
        · have := JL hd hs n2
          exact ly2 hk' (by omega) h
        · omega
    · have n1 : norm d k < 0 := by omega
      have hk' := J6 hd hk n1
      rw [show (0 ≤ norm d k * ((s.a * k.b - s.b * k.a) * (k.a * k.b))) ↔ (s.a * k.b - s.b * k.a) * (k.a * k.b) ≤ 0 from by rw [Int.mul_comm]; exact OR n1]
      constructor
      · rintro ⟨h1, h2⟩
        obtain ⟨a1, a2⟩ := ly3 d0 kb ka (by omega) h1 h2
        exact .inr ⟨n1, by omega, a1⟩
      · rintro (⟨z, _⟩ | ⟨_, n2, h⟩)
        · omega
        · have := J6 hd hs n2
          exact ly4 hk' (by omega) h
end
end NM
set_option linter.all false
set_option maxRecDepth 100000
set_option maxHeartbeats 400000
namespace NM
section
variable {d : Int} {x y z k s o f : N3}
structure Ray (d : Int) (s t : N3) : Prop where
  ex : ∃ p q : Int, p ≠ 0 ∧ q ≠ 0 ∧ t.a * p = s.a * q ∧ (t.b * p = s.b * q ∨ t.b * p = -s.b * q)
theorem GH {t : N3} (h : Ray d s t) : (0 < norm d t ↔ 0 < norm d s) ∧ (norm d t < 0 ↔ norm d s < 0) := by
  obtain ⟨p, q, hp, hq, h1, h2⟩ := h.ex
  have e := ry1 d _ _ _ _ p q h1 h2
  change norm d t * (p * p) = norm d s * (q * q) at e
  have a1 := tY (u := norm d t) hp
  have a2 := tY (u := norm d s) hq
  have b1 := tY (u := -norm d t) hp
  have b2 := tY (u := -norm d s) hq
  rw [Int.neg_mul] at b1 b2
  rw [e] at a1 b1
  omega
theorem Qk {t : N3} (h : Ray d s t) : ∃ p q : Int, 0 < p ∧ 0 < q ∧ t.a * t.a * p = s.a * s.a * q ∧ t.b * t.b * p = s.b * s.b * q := by
  obtain ⟨p, q, hp, hq, h1, h2⟩ := h.ex
  refine ⟨p * p, q * q, sq_pos hp, sq_pos hq, ?_, ?_⟩
  · have : (t.a * p) * (t.a * p) = (s.a * q) * (s.a * q) := by rw [h1]
    grind
  · have : (t.b * p) * (t.b * p) = (s.b * q) * (s.b * q) := by
      rcases h2 with h | h <;> rw [h] <;> grind
    grind
theorem LH {A B A' B' p q X Y : Int} (hp : 0 < p) (hq : 0 < q) (h1 : A' * p = A * q) (h2 : B' * p = B * q) : (A' * X ≤ B' * Y) ↔ (A * X ≤ B * Y) := by
  have a := jw (u := B' * Y - A' * X) hp
  have b := jw (u := B * Y - A * X) hq
  have e : (B' * Y - A' * X) * p = (B * Y - A * X) * q := by
    have : (B' * Y - A' * X) * p = B' * p * Y - A' * p * X := by grind
    rw [this, h1, h2]; grind
  rw [e] at a
  omega
theorem OA {t : N3} (h : Ray d s t) : Lay d k t ↔ Lay d k s := by
  obtain ⟨n1, n2⟩ := GH h
  obtain ⟨p, q, hp, hq, e1, e2⟩ := Qk h
  unfold Lay
  rw [n1, n2, LH hp hq e2 e1, LH hp hq e1 e2]
theorem vi (ox : Ok s) (hn : norm d s ≠ 0) : Ray d s (ao d s) :=
  ⟨_, _, hn, Int.mul_ne_zero ox.cn (aB hn).cn, Sj ox hn, .inr (Tj ox hn)⟩
theorem Tg (ok : Ok k) (os : Ok s) (hn : norm d k ≠ 0) : Ok (vb d k s) := by
  unfold vb
  split
  · exact ik os hn
  · rename_i h
    exact lH (ik os hn) (ai (wU ok os hn (fun z => h ((jl ok).mpr z))) (Ao hn))
theorem SE (ok : Ok k) (os : Ok s) (hn : norm d k ≠ 0) : Ok (uD d k s) := by
  unfold uD
  split
  · exact g0
  · rename_i h
    exact wU ok os hn (fun z => h ((jl ok).mpr z))
theorem Ir (hl : (times d k k).b = 0) : vb d k s = shA d k s := if_pos hl
theorem IP (hl : (times d k k).b = 0) : uD d k s = aw := if_pos hl
theorem Mg (hl : ¬ (times d k k).b = 0) : vb d k s = shU d k s := if_neg hl
theorem Li (hl : ¬ (times d k k).b = 0) : uD d k s = shV d k s := if_neg hl
theorem CO (h : cX d x = true) : x.b = 0 := by
  unfold cX at h
  simp only [Bool.and_eq_true, decide_eq_true_eq] at h
  exact h.1
theorem JQ (h : cX d x = true) : 0 ≤ x.a := by
  have hb := CO h
  unfold cX at h
  simp only [Bool.and_eq_true, decide_eq_true_eq] at h
  rw [hb] at h
  exact sg0.mp h.2
theorem GI (ok : Ok k) (hn : norm d k ≠ 0) : norm d (ao d k) ≠ 0 := by
  have o := aB hn
  intro z
  have t := gB ok hn
  have e := congrArg (norm d) t
  have n1 : norm d one = 1 := by unfold norm one; simp
  have r := (Rep.times (d := d) ok o (aq ok) (aq o)).norm (d := d)
  rw [e, n1] at r
  have e2 : (k.a * (ao d k).a + d * k.b * (ao d k).b) * (k.a * (ao d k).a + d * k.b * (ao d k).b) - d * (k.a * (ao d k).b + k.b * (ao d k).a) * (k.a * (ao d k).b + k.b * (ao d k).a) = norm d k * norm d (ao d k) := by
    unfold norm; grind
  rw [e2, z, Int.mul_zero, Int.zero_mul, Int.one_mul] at r
  have h1 := Int.mul_ne_zero ok.cn o.cn
  exact Int.mul_ne_zero h1 h1 r
theorem NV (ok : Ok k) (hn : norm d k ≠ 0) : ao d (ao d k) = k := by
  have r := (Dx hn).ao (aB hn) (GI ok hn)
  have e : k.c * k.a * (k.c * k.a) - d * (-k.c * k.b) * (-k.c * k.b) = k.c * k.c * norm d k := by unfold norm; grind
  rw [e] at r
  refine Rep.eq (aB (GI ok hn)) ok r (aq ok) ?_ ?_ <;> grind
theorem O5 (ok : Ok k) (os : Ok s) (hn : norm d k ≠ 0) : plus (times d (vb d k s) k) (times d (uD d k s) (ao d k)) = s := by
  have oc := aB hn
  by_cases hl : (times d k k).b = 0
  · rw [Ir hl, IP hl]
    have oa := ik os hn
    have r := Rep.plus (ai (d := d) oa ok) (ai (d := d) g0 oc) (Rep.times (d := d) oa ok (wk ok os hn (aq ok) (aq os)) (aq ok)) (Rep.times (d := d) g0 oc (aq g0) (Dx hn))
    refine Rep.eq (bM (ai oa ok) (ai g0 oc)) os r (aq os) ?_ ?_
    · show ((_ + _) * (1 * _) + (0 * _ + d * 0 * _) * _) * _ = _
      show _ = s.a * (s.c * norm d k * k.c * (1 * norm d k))
      have : norm d k = k.a * k.a - d * k.b * k.b := rfl
      generalize norm d k = N at *
      subst this
      grind
    · show ((_ + _) * (1 * _) + (0 * _ + 0 * _) * _) * _ = _
      show _ = s.b * (s.c * norm d k * k.c * (1 * norm d k))
      have : norm d k = k.a * k.a - d * k.b * k.b := rfl
      generalize norm d k = N at *
      subst this
      grind
  · have h' : k.a * k.b ≠ 0 := fun z => hl ((jl ok).mpr z)
    have ou := Tg (d := d) ok os hn
    have ov := SE (d := d) ok os hn
    rw [Mg hl] at ou ⊢
    rw [Li hl] at ov ⊢
    have r := Rep.plus (ai (d := d) ou ok) (ai (d := d) ov oc) (Rep.times (d := d) ou ok (Pq ok os hn (aq ok) (aq os) h') (aq ok)) (Rep.times (d := d) ov oc (LZ ok os hn (aq ok) (aq os) h') (Dx hn))
    refine Rep.eq (bM (ai ou ok) (ai ov oc)) os r (aq os) ?_ ?_
    · have : k.a * k.a - d * k.b * k.b = norm d k := rfl
      rw [this]
      generalize norm d k = N at *
      grind
    · have : k.a * k.a - d * k.b * k.b = norm d k := rfl
      rw [this]
      generalize norm d k = N at *
      grind
end
end NM
set_option Elab.async false
set_option linter.all false
set_option maxHeartbeats 4000000
namespace NM
section
variable {d : Int} {x y z u p q s t w h p' q' s' t' w' h' : N3}
theorem ip : Ok aw := ⟨by decide, by decide⟩
theorem M0 : Ok one := ⟨by decide, by decide⟩
theorem OE (ox : Ok x) : plus x aw = x :=
  ((aq ox).plus ox ip (aq ip)).eq (bM ox ip) ox (aq ox) (by simp only [aw]; grind) (by simp only [aw]; grind)
theorem IL (ox : Ok x) : plus aw x = x :=
  ((aq ip).plus ip ox (aq ox)).eq (bM ip ox) ox (aq ox) (by simp only [aw]; grind) (by simp only [aw]; grind)
theorem MQ (ox : Ok x) : times d one x = x :=
  ((aq M0).times M0 ox (aq ox)).eq (ai M0 ox) ox (aq ox) (by simp only [one]; grind) (by simp only [one]; grind)
theorem u4 (ox : Ok x) : times d aw x = aw :=
  ((aq ip).times ip ox (aq ox)).eq (ai ip ox) ip (aq ip) (by simp only [aw]; grind) (by simp only [aw]; grind)
def hf (d : Int) (p q h : N3) : N3 := plus (times d p h) (times d q (bH h))
end
end NM
set_option linter.all false
set_option maxRecDepth 100000
set_option maxHeartbeats 400000
namespace NM
section
variable {d : Int} {x y z k s o f u v : N3}
theorem Hq (ox : Ok x) (oy : Ok y) : times d x y = times d y x :=
  Rep.eq (ai ox oy) (ai oy ox) (Rep.times ox oy (aq ox) (aq oy)) (Rep.times oy ox (aq oy) (aq ox)) (by grind) (by grind)
theorem NU (ox : Ok x) (oy : Ok y) (oz : Ok z) : times d (times d x y) z = times d x (times d y z) :=
  Rep.eq (ai (ai ox oy) oz) (ai ox (ai oy oz)) (Rep.times (ai ox oy) oz (Rep.times ox oy (aq ox) (aq oy)) (aq oz)) (Rep.times ox (ai oy oz) (aq ox) (Rep.times oy oz (aq oy) (aq oz))) (by grind) (by grind)
theorem PM (ox : Ok x) (oy : Ok y) (oz : Ok z) (ou : Ok u) : times d (times d x y) (times d z u) = times d (times d x z) (times d y u) :=
  Rep.eq (ai (ai ox oy) (ai oz ou)) (ai (ai ox oz) (ai oy ou)) (Rep.times (ai ox oy) (ai oz ou) (Rep.times ox oy (aq ox) (aq oy)) (Rep.times oz ou (aq oz) (aq ou))) (Rep.times (ai ox oz) (ai oy ou) (Rep.times ox oz (aq ox) (aq oz)) (Rep.times oy ou (aq oy) (aq ou))) (by grind) (by grind)
theorem Pw (ox : Ok x) : times d x one = x := by rw [Hq ox kA, MQ ox]
theorem La (hd : aA d) (ox : Ok x) (hn : norm d x ≠ 0) : sg d (ao d x).a (ao d x).b = sg d x.a x.b := by
  have h := cb hd ox (aB hn)
  rw [gB ox hn, y6] at h
  rcases jv d x.a x.b with a | a | a <;> rcases jv d (ao d x).a (ao d x).b with b | b | b <;> rw [a, b] at h ⊢ <;> exact absurd h (by decide)
theorem vI {A C : Int} (hd : aA d) (ox : Ok x) (r : Rep x A 0 C) : (sg d x.a x.b = 1 ↔ 0 < A * C) ∧ (sg d x.a x.b = -1 ↔ A * C < 0) := by
  have hC := r.c
  have key : ∀ {A C : Int}, Rep x A 0 C → 0 < C → (sg d x.a x.b = 1 ↔ 0 < A * C) ∧ (sg d x.a x.b = -1 ↔ A * C < 0) := fun {A C} r hC => by
    rw [r.sg hd ox hC, kG]
    have p1 : 0 < A * C ↔ 0 < A := by
      constructor
      · intro h
        rcases Int.lt_trichotomy 0 A with w | w | w
        · exact w
        · rw [← w, Int.zero_mul] at h; omega
        · have := Int.mul_neg_of_neg_of_pos w hC; omega
      · intro h; exact Int.mul_pos h hC
    have p2 : A * C < 0 ↔ A < 0 := by
      constructor
      · intro h
        rcases Int.lt_trichotomy 0 A with w | w | w
        · have := Int.mul_pos w hC; omega
        · rw [← w, Int.zero_mul] at h; omega
        · exact w
      · intro h; exact Int.mul_neg_of_neg_of_pos h hC
    rw [p1, p2]
    split
    · omega
    · split <;> omega
  rcases Int.lt_or_gt_of_ne hC with h | h
  · have r2 := r.neg
    rw [Int.neg_zero] at r2
    have := key r2 (by omega)
    rw [Int.neg_mul_neg] at this
    exact this
  · exact key r h
theorem JI {B C : Int} (hd : aA d) (ox : Ok x) (r : Rep x 0 B C) : (sg d x.a x.b = 1 ↔ 0 < B * C) ∧ (sg d x.a x.b = -1 ↔ B * C < 0) := by
  have hC := r.c
  have key : ∀ {B C : Int}, Rep x 0 B C → 0 < C → (sg d x.a x.b = 1 ↔ 0 < B * C) ∧ (sg d x.a x.b = -1 ↔ B * C < 0) := fun {A C} r hC => by
    rw [r.sg hd ox hC, EB]
    have p1 : 0 < A * C ↔ 0 < A := by
      constructor
      · intro h
        rcases Int.lt_trichotomy 0 A with w | w | w
        · exact w
        · rw [← w, Int.zero_mul] at h; omega
        · have := Int.mul_neg_of_neg_of_pos w hC; omega
      · intro h; exact Int.mul_pos h hC
    have p2 : A * C < 0 ↔ A < 0 := by
      constructor
      · intro h
        rcases Int.lt_trichotomy 0 A with w | w | w
        · have := Int.mul_pos w hC; omega
        · rw [← w, Int.zero_mul] at h; omega
        · exact w
      · intro h; exact Int.mul_neg_of_neg_of_pos h hC
    rw [p1, p2]
    split
    · omega
    · split <;> omega
  rcases Int.lt_or_gt_of_ne hC with h | h
  · have r2 := r.neg
    rw [Int.neg_zero] at r2
    have := key r2 (by omega)
    rw [Int.neg_mul_neg] at this
    exact this
  · exact key r h
end
end NM
set_option Elab.async false
set_option linter.all false
set_option maxRecDepth 100000
set_option maxHeartbeats 4000000
namespace L2.DL
open PySem PySem.Spec PyProof.Rows NM
theorem hZ {n m : Nat} {i j : Int} (h : Sz n i) (g : Sz m j) (l : n + m ≤ 100000) : IntMulOk i j := by
  have b1 : ∀ {k : Nat} {z : Int}, Sz k z → Builtin.Int.intBits z ≤ k := fun {k z} hz => by
    unfold Builtin.Int.intBits
    split
    · exact Nat.zero_le _
    · rename_i q
      have hz' : z.natAbs ≠ 0 := by simp at q; omega
      have := (Nat.log2_lt hz').mpr hz.lt
      omega
  have e1 := b1 h
  have e2 := b1 g
  unfold IntMulOk
  intro z
  simp only [Bool.and_eq_true] at z
  have z3 := z.2
  unfold Builtin.Int.intTooBig at z3
  simp only [decide_eq_true_eq] at z3
  have : (100000 : Int) ≤ bitsLine := by decide
  omega
theorem J0 {n : Nat} {i j : Int} (h0 : j ≠ 0) (h : Sz n j) (l : n ≤ 8900) : xU i j := by
  refine ⟨h0, PyProof.noPylong_of_log2 ?_⟩
  have hz' : j.natAbs ≠ 0 := by omega
  have := (Nat.log2_lt hz').mpr h.lt
  omega
theorem divC {i j : Int} (h0 : j ≠ 0) (h1 : j.natAbs < 1073741824) : xU i j := ⟨h0, PyProof.noPylong_small h1⟩
theorem mulL {i j : Int} (h : i.natAbs < 2 ^ 64) : IntMulOk i j := Pg.ok (.inl (by omega))
theorem mulR {i j : Int} (h : j.natAbs < 2 ^ 64) : IntMulOk i j := Pg.ok (.inr (by omega))
def dN (x : N3) : PyData := .tuple [.int x.a, .int x.b, .int x.c]
def isWhole (d : PyData) : Bool := isT "int" d && !isT "bool" d
def isNum : PyData → Bool
  | .tuple [.int a, .int b, .int c] => decide (1 ≤ c) && (g3 a b c == 1)
  | _ => false
noncomputable def iw : DSp := fun ds μ Q => ∃ d, ds = [.v d] ∧ Q (.v (.bool (isWhole d))) μ
noncomputable def qX : DSp := fun ds μ Q => ∃ a b : Int, ds = [.v (.int a), .v (.int b)] ∧ Q (.v (.int (Int.gcd a b : Nat))) μ
noncomputable def zS : DSp := fun ds μ Q => ∃ a b c : Int, ds = [.v (.int a), .v (.int b), .v (.int c)] ∧ Q (.v (.int (g3 a b c : Nat))) μ
def Few : PyData → Prop
  | .tuple xs => xs.length ≤ 1000
  | _ => True
noncomputable def rD : DSp := fun ds μ Q => ∃ d, ds = [.v d] ∧ Few d ∧ Q (.v (.bool (isNum d))) μ
noncomputable def cY : DSp := fun ds μ Q => ∃ a b c : Int, ds = [.v (.int a), .v (.int b), .v (.int c)] ∧ c ≠ 0 ∧ Sz 8800 c ∧ Q (.v (dN (low a b c))) μ
noncomputable def eA : DSp := fun ds μ Q => ∃ x : N3, ds = [.v (dN x)] ∧ Q (.v (dN (bH x))) μ
noncomputable def sU : DSp := fun ds μ Q => ∃ x : N3, ds = [.v (dN x)] ∧ Q (.v (dN (minus x))) μ
noncomputable def sp2 (f : N3 → N3 → N3) : DSp := fun ds μ Q => ∃ x y : N3, ds = [.v (dN x), .v (dN y)] ∧ Ok x ∧ Ok y ∧ Bd 4300 x ∧ Bd 4300 y ∧ Q (.v (dN (f x y))) μ
noncomputable abbrev fB : DSp := sp2 plus
noncomputable abbrev zJ : DSp := sp2 less
noncomputable def bF : DSp := fun ds μ Q => ∃ (d : Int) (x y : N3), ds = [.v (.int d), .v (dN x), .v (dN y)] ∧ Sz 5 d ∧ Ok x ∧ Ok y ∧ Bd 4300 x ∧ Bd 4300 y ∧ Q (.v (dN (times d x y))) μ
noncomputable def bZ : DSp := fun ds μ Q => ∃ (d : Int) (x : N3), ds = [.v (.int d), .v (dN x)] ∧ Sz 5 d ∧ norm d x ≠ 0 ∧ Bd 4300 x ∧ Q (.v (dN (ao d x))) μ
noncomputable def nK : DSp := fun ds μ Q => ∃ (d : Int) (x y : N3), ds = [.v (.int d), .v (dN x), .v (dN y)] ∧ aA d ∧ Ok x ∧ Ok y ∧ y ≠ aw ∧ Bd 2100 x ∧ Bd 2100 y ∧ Q (.v (dN (times d x (ao d y)))) μ
noncomputable def yS : DSp := fun ds μ Q => ∃ d a b : Int, ds = [.v (.int d), .v (.int a), .v (.int b)] ∧ Sz 5 d ∧ Sz 9900 a ∧ Sz 9900 b ∧ Q (.v (.int (sg d a b))) μ
noncomputable def fg : DSp := fun ds μ Q => ∃ (d : Int) (x : N3), ds = [.v (.int d), .v (dN x)] ∧ aA d ∧ Bd 8900 x ∧ Q (.v (.int (sg d x.a x.b))) μ
def dif (d : Int) (x y : N3) : Int := sg d (x.a * y.c - y.a * x.c) (x.b * y.c - y.b * x.c)
noncomputable def tH : DSp := fun ds μ Q => ∃ (d : Int) (x y : N3), ds = [.v (.int d), .v (dN x), .v (dN y)] ∧ aA d ∧ Ok x ∧ Ok y ∧ Bd 4300 x ∧ Bd 4300 y ∧ Q (.v (.bool (decide (dif d y x = 1)))) μ
noncomputable def Bag (μ : Mu) (a : Addr) : Prop := ∃ g m : Int, μ a = some [.int g, .int m] ∧ 0 ≤ g ∧ 0 ≤ m ∧ m < 2147483648
noncomputable def Step (a : Addr) (μ μ' : Mu) : Prop := Bag μ' a ∧ ∀ b, b ≠ a → μ' b = μ b
noncomputable def JS : DSp := fun ds μ Q => ∃ (ns : List Int) (k : Int), ds = [.s ns, .v (.int k)] ∧ 0 ≤ k ∧ k ≤ 1000 ∧ ∀ p μ', μ p = none → Step p μ μ' → Q (.m p) μ'
noncomputable def ez : DSp := fun ds μ Q => ∃ (a : Addr) (n : Int), ds = [.m a, .v (.int n)] ∧ 1 ≤ n ∧ n ≤ 1000000000 ∧ Bag μ a ∧ ∀ r μ', 0 ≤ r → r < n → Step a μ μ' → Q (.v (.int r)) μ'
noncomputable def sP : DSp := fun ds μ Q => ∃ a : Addr, ds = [.m a] ∧ Bag μ a ∧ ∀ x μ', Ok x → Bd 20 x → Step a μ μ' → Q (.v (dN x)) μ'
noncomputable def y7 : DSp := fun ds μ Q => ∃ a : Addr, ds = [.m a] ∧ Bag μ a ∧ ∀ d μ', aA d → Step a μ μ' → Q (.v (.int d)) μ'
theorem Step.trans {a : Addr} {μ μ1 μ2 : Mu} (h : Step a μ μ1) (g : Step a μ1 μ2) : Step a μ μ2 := ⟨g.1, fun b n => (g.2 b n).trans (h.2 b n)⟩
theorem Step.set {a : Addr} {μ : Mu} {g m : Int} (h1 : 0 ≤ g) (h2 : 0 ≤ m) (h3 : m < 2147483648) : Step a μ (bD μ a [.int g, .int m]) := ⟨⟨g, m, bL, h1, h2, h3⟩, fun b n => bV n⟩
local macro_rules | `(tactic| walk_at "rd") => `(tactic| simp only [↓Ib, ↓IY, ↓Ij, ↓IE, ↓IZ, ↓HR, ↓Hj, ↓Hz, ↓IM, ↓Iu, ↓DP, ↓q_c, ↓P7, ↓q_B, ↓QS, ↓M7, ↓NK, ↓Hy, ↓Lp, ↓Hs, ↓Jf, ↓Lv, ↓GY, ↓RF, ↓NG, ↓Hr, ↓MO, ↓LO, ↓Il, ↓MR, ↓LM, ↓Nu, ↓Lw, ↓MT, ↓Mi, ↓M5, ↓HY, ↓Ja, ↓Hu, ↓CT, ↓Eb, ↓EY, ↓GR, ↓Ck, ↓zg, ↓LU, ↓Nv, ↓Ly, ↓HS, ↓Io, ↓H0, ↓Hn, ↓I0, ↓P2, ↓zE, ↓Hb, ↓MX, ↓Nh, ↓LK, ↓PR, ↓HX, ↓HI, ↓Hx, ↓IA, ↓Mp, ↓QW, ↓Je, ↓IJ, ↓Cv, ↓EW, ↓NI, ↓NP, ↓Lm, ↓MM, ↓Ek, ↓GU, ↓DH, ↓Ig, ↓IV, ↓Nx, ↓M3, ↓Ie, ↓Jj, ↓Lk, ↓Jb, ↓MD, ↓DC, ↓GZ, ↓Lx, ↓LA, ↓Ha, ↓EV, ↓HW, ↓zx, ↓Dz, ↓zO, ↓zX, ↓D7, ↓zV, ↓AB, ↓AE, ↓Nn, Kx, ↓HU, ↓D9, GX, IT, MY, Mf, LG, Option.bind_none, Option.bind_some, Option.join_some, List.getElem?_cons_zero, List.getElem?_cons_succ, aX, dN, wu, ye, B7, Gw, J1, List.map, List.append, List.replicate, List.length_cons, List.length_nil, Nat.reduceAdd, Nat.reduceSub, List.nil_append, List.cons_append, List.set_cons_zero, List.set_cons_succ, Option.map_some, ↓reduceIte, Bool.not_true, Bool.not_false, Bool.false_eq_true, Bool.true_eq_false, Bool.xor_false, Bool.false_xor])
noncomputable def mM : DTS :=
  (bI (ui (vw "int" (af 0)) (Ce (vw "bool" (af 0)))))
noncomputable def jD : DTS :=
  (aO (IH (dB (dOp (dD true) (af 1) (dC (.int 0)))) (AZ 0 1 (ab (af 1) (ab (yN (af 0) (af 1)) ar))))
  (bI (dCB sG (ab (af 0) ar))))
noncomputable def jm : DTS :=
  (bI (au qX (ab (au qX (ab (af 2) (ab (af 0) ar))) (ab (af 1) ar))))
noncomputable def mH : DTS :=
  (aO (AZ 0 1 (ab (dCB sG (ab (af 0) ar)) (ab (dCB sG (ab (af 1) ar)) ar)))
  (aO (IH (dB (dOp rGt (af 1) (dC (.int 0)))) (AZ 0 1 (ab (af 1) (ab (yN (af 0) (af 1)) ar))))
  (bI (af 0))))
section
theorem Js (x : Int) {y : Int} (h : y ≠ 0) : (x.fmod y).natAbs < y.natAbs := by
  have e := Int.mul_fdiv_add_fmod x y
  have := Int.fmod_def x y
  rcases Int.lt_or_gt_of_ne h with h | h
  · have k := Int.neg_fmod_neg (a := x) (b := y)
    have h1 := Int.fmod_nonneg_of_pos (-x) (show 0 < -y by omega)
    have h2 := Int.fmod_lt_of_pos (-x) (show 0 < -y by omega)
    omega
  · have h1 := Int.fmod_nonneg_of_pos x h
    have h2 := Int.fmod_lt_of_pos x h
    omega
theorem GK (x y : Int) : Int.gcd y (x.fmod y) = Int.gcd x y := by
  have e := Int.mul_fdiv_add_fmod x y
  have e' : x.fmod y = x + y * (-(x.fdiv y)) := by rw [Int.mul_neg]; omega
  rw [e', Int.gcd_add_mul_left_right, Int.gcd_comm]
theorem yd {μ Qd ds} (h : iw ds μ Qd) : mM { nx := fun _ μ' => Qd (.v .none) μ', rt := Qd } (aX ["thing"] ds) μ := by
  obtain ⟨d, rfl, q⟩ := h
  unfold mM
  walk_at "rd"
  unfold isWhole at q
  cases hb : isT "int" d <;> simp_all
theorem wd {μ Qd ds} (h : qX ds μ Qd) : jD { nx := fun _ μ' => Qd (.v .none) μ', rt := Qd } (aX ["a", "b"] ds) μ := by
  obtain ⟨a, b, rfl, q⟩ := h
  unfold jD
  walk_at "rd"
  refine ⟨fun m ρ μ' => ∃ x y : Int, ρ = [some (.v (.int x)), some (.v (.int y))] ∧ m = y.natAbs ∧ Int.gcd x y = Int.gcd a b ∧ μ' = μ, ⟨_, a, b, rfl, rfl, rfl, rfl⟩, ?_⟩
  rintro m ρ μ' ⟨x, y, rfl, rfl, hg, rfl⟩
  walk_at "rd"
  by_cases hy : y = 0
  · subst hy
    have e : Int.gcd x 0 = x.natAbs := Int.gcd_zero_right x
    rw [← hg, e] at q
    simpa using q
  · have z : (true ^^ decide (y = 0)) = true := by simp [hy]
    rw [if_pos z]
    exact ⟨hy, _, Js x hy, y, x.fmod y, rfl, rfl, (GK x y).trans hg, trivial⟩
theorem Aq {μ Qd ds} (h : qX ds μ Qd) : mH { nx := fun _ μ' => Qd (.v .none) μ', rt := Qd } (aX ["_law_one", "_law_other"] ds) μ := by
  obtain ⟨a, b, rfl, q⟩ := h
  unfold mH
  walk_at "rd"
  refine ⟨fun m ρ μ' => ∃ x y : Int, ρ = [some (.v (.int x)), some (.v (.int y))] ∧ m = y.natAbs ∧ 0 ≤ x ∧ 0 ≤ y ∧ Int.gcd x y = Int.gcd a b ∧ μ' = μ, ⟨_, _, _, rfl, rfl, by omega, by omega, by simp [Int.gcd], rfl⟩, ?_⟩
  rintro m ρ μ' ⟨x, y, rfl, rfl, hx, hy, hg, rfl⟩
  walk_at "rd"
  by_cases h0 : 0 < y
  · rw [if_pos (by simpa using h0)]
    have hy' : y ≠ 0 := by omega
    exact ⟨hy', _, Js x hy', y, x.fmod y, rfl, rfl, by omega, Int.fmod_nonneg_of_pos x h0, (GK x y).trans hg, trivial⟩
  · rw [if_neg (by simpa using h0)]
    have e : y = 0 := by omega
    subst e
    rw [Int.gcd_zero_right] at hg
    have : x = ((Int.gcd a b : Nat) : Int) := by omega
    rw [this]
    exact q
theorem vY {μ Qd ds} (h : zS ds μ Qd) : jm { nx := fun _ μ' => Qd (.v .none) μ', rt := Qd } (aX ["a", "b", "c"] ds) μ := by
  obtain ⟨a, b, c, rfl, q⟩ := h
  unfold jm
  walk_at "rd"
  rw [← O7] at q
  exact ⟨c, a, rfl, _, b, rfl, q⟩
end
open PySem PySem.Spec PyProof.Rows NM
noncomputable def xj : DTS :=
  (aO (cV (dB (dOp (dD false) (af 2) (dC (.int 0)))) xS bU)
  (aO (bJ (au zS (ab (af 0) (ab (af 1) (ab (af 2) ar)))) (ay 3))
  (aO (cV (dB (dOp rLt (af 2) (dC (.int 0)))) (bJ (yL (af 3)) (ay 3)) bU)
  (bI (eC (ab (AJ (af 0) (af 3)) (ab (AJ (af 1) (af 3)) (ab (AJ (af 2) (af 3)) ar))))))))
noncomputable def rV : DTS :=
  (aO (bJ (cM (au qX (ab (au qX (ab (af 0) (ab (af 1) ar))) (ab (af 2) ar))) (dOp aF (qS (ab (dC (.int 1)) (ab (yL (dC (.int 1))) ar))) (dCB rH (ab (dOp rLt (af 2) (dC (.int 0))) ar)))) (ay 3))
  (bI (eC (ab (AJ (af 0) (af 3)) (ab (AJ (af 1) (af 3)) (ab (AJ (af 2) (af 3)) ar))))))
noncomputable def qa : DTS :=
  (bI (eC (ab (dOp aF (af 0) (dC (.int 0))) (ab (qV (dC (.int 0)) (dOp aF (af 0) (dC (.int 1)))) (ab (dOp aF (af 0) (dC (.int 2))) ar)))))
noncomputable def nR : DTS :=
  (bI (eC (ab (qV (dC (.int 0)) (dOp aF (af 0) (dC (.int 0)))) (ab (qV (dC (.int 0)) (dOp aF (af 0) (dC (.int 1)))) (ab (dOp aF (af 0) (dC (.int 2))) ar)))))
noncomputable def Ep : DTS :=
  (bI (au cY (ab (mD (cM (dOp aF (af 0) (dC (.int 0))) (dOp aF (af 1) (dC (.int 2)))) (cM (dOp aF (af 1) (dC (.int 0))) (dOp aF (af 0) (dC (.int 2))))) (ab (mD (cM (dOp aF (af 0) (dC (.int 1))) (dOp aF (af 1) (dC (.int 2)))) (cM (dOp aF (af 1) (dC (.int 1))) (dOp aF (af 0) (dC (.int 2))))) (ab (cM (dOp aF (af 0) (dC (.int 2))) (dOp aF (af 1) (dC (.int 2)))) ar)))))
noncomputable def vN : DTS :=
  (bI (au cY (ab (mD (cM (dOp aF (af 0) (dC (.int 0))) (dOp aF (af 1) (dC (.int 2)))) (cM (dOp aF (af 1) (dC (.int 0))) (dOp aF (af 0) (dC (.int 2))))) (ab (mD (cM (dOp aF (af 0) (dC (.int 1))) (dOp aF (af 1) (dC (.int 2)))) (cM (dOp aF (af 1) (dC (.int 1))) (dOp aF (af 0) (dC (.int 2))))) (ab (cM (dOp aF (af 0) (dC (.int 2))) (dOp aF (af 1) (dC (.int 2)))) ar)))))
noncomputable def EA : DTS :=
  (bI (au cY (ab (qV (cM (dOp aF (af 0) (dC (.int 0))) (dOp aF (af 1) (dC (.int 2)))) (cM (dOp aF (af 1) (dC (.int 0))) (dOp aF (af 0) (dC (.int 2))))) (ab (qV (cM (dOp aF (af 0) (dC (.int 1))) (dOp aF (af 1) (dC (.int 2)))) (cM (dOp aF (af 1) (dC (.int 1))) (dOp aF (af 0) (dC (.int 2))))) (ab (cM (dOp aF (af 0) (dC (.int 2))) (dOp aF (af 1) (dC (.int 2)))) ar)))))
noncomputable def zZ : DTS :=
  (bI (au cY (ab (mD (cM (dOp aF (af 1) (dC (.int 0))) (dOp aF (af 2) (dC (.int 0)))) (cM (cM (af 0) (dOp aF (af 1) (dC (.int 1)))) (dOp aF (af 2) (dC (.int 1))))) (ab (mD (cM (dOp aF (af 1) (dC (.int 0))) (dOp aF (af 2) (dC (.int 1)))) (cM (dOp aF (af 1) (dC (.int 1))) (dOp aF (af 2) (dC (.int 0))))) (ab (cM (dOp aF (af 1) (dC (.int 2))) (dOp aF (af 2) (dC (.int 2)))) ar)))))
noncomputable def ue : DTS :=
  (bI (au cY (ab (mD (cM (dOp aF (af 1) (dC (.int 0))) (dOp aF (af 2) (dC (.int 0)))) (cM (cM (af 0) (dOp aF (af 1) (dC (.int 1)))) (dOp aF (af 2) (dC (.int 1))))) (ab (mD (cM (dOp aF (af 1) (dC (.int 0))) (dOp aF (af 2) (dC (.int 1)))) (cM (dOp aF (af 1) (dC (.int 1))) (dOp aF (af 2) (dC (.int 0))))) (ab (cM (dOp aF (af 1) (dC (.int 2))) (dOp aF (af 2) (dC (.int 2)))) ar)))))
noncomputable def rn : DTS :=
  (aO (bJ (qV (cM (dOp aF (af 1) (dC (.int 0))) (dOp aF (af 1) (dC (.int 0)))) (cM (cM (af 0) (dOp aF (af 1) (dC (.int 1)))) (dOp aF (af 1) (dC (.int 1))))) (ay 2))
  (bI (au cY (ab (cM (dOp aF (af 1) (dC (.int 2))) (dOp aF (af 1) (dC (.int 0)))) (ab (cM (yL (dOp aF (af 1) (dC (.int 2)))) (dOp aF (af 1) (dC (.int 1)))) (ab (af 2) ar))))))
noncomputable def jV : DTS :=
  (bI (au cY (ab (cM (dOp aF (af 1) (dC (.int 0))) (dOp aF (af 1) (dC (.int 2)))) (ab (qV (dC (.int 0)) (cM (dOp aF (af 1) (dC (.int 1))) (dOp aF (af 1) (dC (.int 2))))) (ab (qV (cM (dOp aF (af 1) (dC (.int 0))) (dOp aF (af 1) (dC (.int 0)))) (cM (cM (af 0) (dOp aF (af 1) (dC (.int 1)))) (dOp aF (af 1) (dC (.int 1))))) ar)))))
noncomputable def C6 : DTS :=
  (aO (cV (dB (dOp (dD false) (af 2) (dC (.tuple [.int 0, .int 0, .int 1])))) xS bU)
  (bI (au bF (ab (af 0) (ab (af 1) (ab (au bZ (ab (af 0) (ab (af 2) ar))) ar))))))
noncomputable def Dl : DTS :=
  (bI (eC (ab (dOp aF (af 0) (dC (.int 0))) (ab (yL (dOp aF (af 0) (dC (.int 1)))) (ab (dOp aF (af 0) (dC (.int 2))) ar)))))
section
variable {μ : Mu} {Qd : DK} {ds : List D}
theorem T9 (i j : Int) : PyData.eqv (.int i) (.int j) = decide (i = j) := by simp [PyData.eqv]; rfl
theorem gdv {a b c : Int} (h : Sz 8800 c) (hc : c ≠ 0) : Sz 8800 ((g3 a b c : Nat) : Int) := by
  have h1 := (MP a b c).2.2
  have h2 := Int.natAbs_dvd_natAbs.mpr h1
  exact h.le (Nat.le_of_dvd (by omega) h2)
theorem Kl (h : cY ds μ Qd) : xj { nx := fun _ μ' => Qd (.v .none) μ', rt := Qd } (aX ["a", "b", "c", "divisor"] ds) μ := by
  obtain ⟨a, b, c, rfl, hc, hz, q⟩ := h
  unfold xj
  walk_at "rd"
  rw [decide_eq_false hc]
  simp only [Bool.xor_false, Bool.false_eq_true, ↓reduceIte]
  refine ⟨a, b, c, rfl, ?_⟩
  walk_at "rd"
  have hp := Ey (a := a) (b := b) hc
  have hg := gdv (a := a) (b := b) hz hc
  unfold low NM.dv dN at q
  simp only at q
  by_cases hn : c < 0
  · rw [if_pos (by simpa using hn)]
    rw [if_pos hn] at q
    have o : ∀ i : Int, xU i (-((g3 a b c : Nat) : Int)) := fun i => J0 (by omega) hg.neg (by decide)
    exact ⟨o _, o _, o _, q⟩
  · rw [if_neg (by simpa using hn)]
    rw [if_neg hn] at q
    have o : ∀ i : Int, xU i ((g3 a b c : Nat) : Int) := fun i => J0 (by omega) hg (by decide)
    exact ⟨o _, o _, o _, q⟩
theorem E7 (h : cY ds μ Qd) : rV { nx := fun _ μ' => Qd (.v .none) μ', rt := Qd } (aX ["_law_a", "_law_b", "_law_c", "_law_common"] ds) μ := by
  obtain ⟨a, b, c, rfl, hc, hz, q⟩ := h
  unfold rV
  walk_at "rd"
  refine ⟨a, b, rfl, _, c, rfl, ?_⟩
  walk_at "rd"
  have hp := Ey (a := a) (b := b) hc
  have hg := gdv (a := a) (b := b) hz hc
  unfold low NM.dv dN at q
  simp only at q
  by_cases hn : c < 0
  · simp only [hn, decide_true, ↓reduceIte, B7]
    rw [if_pos hn] at q
    have e : ((Int.gcd (Int.gcd a b : Nat) c : Nat) : Int) * -1 = -((g3 a b c : Nat) : Int) := by unfold g3; omega
    walk_at "rd"
    rw [e]
    have o : ∀ i : Int, xU i (-((g3 a b c : Nat) : Int)) := fun i => J0 (by omega) hg.neg (by decide)
    exact ⟨mulR (by decide), o _, o _, o _, q⟩
  · simp only [hn, decide_false, Bool.false_eq_true, ↓reduceIte, ye]
    rw [if_neg hn] at q
    have e : ((Int.gcd (Int.gcd a b : Nat) c : Nat) : Int) * 1 = ((g3 a b c : Nat) : Int) := by unfold g3; omega
    walk_at "rd"
    rw [e]
    have o : ∀ i : Int, xU i ((g3 a b c : Nat) : Int) := fun i => J0 (by omega) hg (by decide)
    exact ⟨mulR (by decide), o _, o _, o _, q⟩
theorem N2 (h : eA ds μ Qd) : Dl { nx := fun _ μ' => Qd (.v .none) μ', rt := Qd } (aX ["x"] ds) μ := by
  obtain ⟨x, rfl, q⟩ := h
  unfold Dl
  walk_at "rd"
  exact q
theorem Er (h : eA ds μ Qd) : qa { nx := fun _ μ' => Qd (.v .none) μ', rt := Qd } (aX ["_law_x"] ds) μ := by
  obtain ⟨x, rfl, q⟩ := h
  unfold qa
  walk_at "rd"
  trace_state
  simp only [Int.zero_sub]
  exact q
theorem A0 (h : sU ds μ Qd) : nR { nx := fun _ μ' => Qd (.v .none) μ', rt := Qd } (aX ["_law_x"] ds) μ := by
  obtain ⟨x, rfl, q⟩ := h
  unfold nR
  walk_at "rd"
  simp only [Int.zero_sub]
  exact q
theorem Jq (h : fB ds μ Qd) : Ep { nx := fun _ μ' => Qd (.v .none) μ', rt := Qd } (aX ["x", "y"] ds) μ := by
  obtain ⟨x, y, rfl, ox, oy, bx, by', q⟩ := h
  unfold Ep
  walk_at "rd"
  have m : ∀ {i j : Int}, Sz 4300 i → Sz 4300 j → IntMulOk i j := fun h g => hZ h g (by decide)
  exact ⟨m bx.a by'.c, m by'.a bx.c, m bx.b by'.c, m by'.b bx.c, m bx.c by'.c, _, _, _, rfl, uE ox oy, (bx.c.mul by'.c).mono (by decide), q⟩
theorem DZ (h : fB ds μ Qd) : vN { nx := fun _ μ' => Qd (.v .none) μ', rt := Qd } (aX ["_law_x", "_law_y"] ds) μ := Jq h
theorem OW (h : zJ ds μ Qd) : EA { nx := fun _ μ' => Qd (.v .none) μ', rt := Qd } (aX ["x", "y"] ds) μ := by
  obtain ⟨x, y, rfl, ox, oy, bx, by', q⟩ := h
  unfold EA
  walk_at "rd"
  have m : ∀ {i j : Int}, Sz 4300 i → Sz 4300 j → IntMulOk i j := fun h g => hZ h g (by decide)
  exact ⟨m bx.a by'.c, m by'.a bx.c, m bx.b by'.c, m by'.b bx.c, m bx.c by'.c, _, _, _, rfl, uE ox oy, (bx.c.mul by'.c).mono (by decide), q⟩
theorem FI (h : bF ds μ Qd) : zZ { nx := fun _ μ' => Qd (.v .none) μ', rt := Qd } (aX ["d", "x", "y"] ds) μ := by
  obtain ⟨d, x, y, rfl, hd, ox, oy, bx, by', q⟩ := h
  unfold zZ
  walk_at "rd"
  have m : ∀ {i j : Int}, Sz 4300 i → Sz 4300 j → IntMulOk i j := fun h g => hZ h g (by decide)
  exact ⟨m bx.a by'.a, hZ hd bx.b (by decide), hZ (hd.mul bx.b) by'.b (by decide), m bx.a by'.b, m bx.b by'.a, m bx.c by'.c, _, _, _, rfl, uE ox oy, (bx.c.mul by'.c).mono (by decide), q⟩
theorem Bc (h : bF ds μ Qd) : ue { nx := fun _ μ' => Qd (.v .none) μ', rt := Qd } (aX ["_law_d", "_law_x", "_law_y"] ds) μ := FI h
theorem FV (h : bZ ds μ Qd) : rn { nx := fun _ μ' => Qd (.v .none) μ', rt := Qd } (aX ["d", "x", "norm"] ds) μ := by
  obtain ⟨d, x, rfl, hd, hn, bx, q⟩ := h
  unfold rn
  walk_at "rd"
  have m : ∀ {i j : Int}, Sz 4300 i → Sz 4300 j → IntMulOk i j := fun h g => hZ h g (by decide)
  exact ⟨m bx.a bx.a, hZ hd bx.b (by decide), hZ (hd.mul bx.b) bx.b (by decide), m bx.c bx.a, m bx.c.neg bx.b, _, _, _, rfl, hn, (tm hd bx).mono (by decide), q⟩
theorem xC (h : bZ ds μ Qd) : jV { nx := fun _ μ' => Qd (.v .none) μ', rt := Qd } (aX ["_law_d", "_law_x"] ds) μ := by
  obtain ⟨d, x, rfl, hd, hn, bx, q⟩ := h
  unfold jV
  walk_at "rd"
  have m : ∀ {i j : Int}, Sz 4300 i → Sz 4300 j → IntMulOk i j := fun h g => hZ h g (by decide)
  refine ⟨m bx.a bx.c, m bx.b bx.c, m bx.a bx.a, hZ hd bx.b (by decide), hZ (hd.mul bx.b) bx.b (by decide), _, _, _, rfl, hn, (tm hd bx).mono (by decide), ?_⟩
  have e1 : x.a * x.c = x.c * x.a := Int.mul_comm ..
  have e2 : 0 - x.b * x.c = -x.c * x.b := by grind
  rw [e1, e2]
  exact q
theorem RN (a b c a' b' c' : Int) : PyData.eqv (.tuple [.int a, .int b, .int c]) (.tuple [.int a', .int b', .int c']) = decide (a = a' ∧ b = b' ∧ c = c') := by
  simp [PyData.eqv, PyData.eqvAll]
  rfl
theorem ON (h : nK ds μ Qd) : C6 { nx := fun _ μ' => Qd (.v .none) μ', rt := Qd } (aX ["d", "x", "y"] ds) μ := by
  obtain ⟨d, x, y, rfl, hd, ox, oy, hy, bx, by', q⟩ := h
  unfold C6
  walk_at "rd"
  refine ⟨rfl, rfl, ?_⟩
  have hn : ¬ (y.a = 0 ∧ y.b = 0 ∧ y.c = 1) := fun z => hy (N3.ext' z.1 z.2.1 z.2.2)
  rw [RN, decide_eq_false hn]
  simp only [Bool.xor_false, Bool.false_eq_true, ↓reduceIte]
  have s5 := jt hd.1 hd.2.1
  have nz := hd.norm oy hy
  exact ⟨d, y, rfl, s5, nz, by'.mono (by decide), d, x, _, rfl, s5, ox, aB nz, bx.mono (by decide), (bT s5 nz by').mono (by decide), q⟩
end
open PySem PySem.Spec PyProof.Rows NM
noncomputable def jP : DTS :=
  (aO (cV (rj (dB (dOp (dD false) (af 1) (dC (.int 0)))) (dB (dOp (dD false) (af 2) (dC (.int 0))))) (bI (dC (.int 0))) bU)
  (aO (cV (rj (dB (dOp rGe (af 1) (dC (.int 0)))) (dB (dOp rGe (af 2) (dC (.int 0))))) (bI (dC (.int 1))) bU)
  (aO (cV (rj (dB (dOp rLe (af 1) (dC (.int 0)))) (dB (dOp rLe (af 2) (dC (.int 0))))) (bI (yL (dC (.int 1)))) bU)
  (aO (bJ (dIf (dB (dOp rGt (cM (af 1) (af 1)) (cM (cM (af 0) (af 2)) (af 2)))) (af 1) (af 2)) (ay 3))
  (bI (dIf (dB (dOp rGt (af 3) (dC (.int 0)))) (dC (.int 1)) (yL (dC (.int 1)))))))))
noncomputable def uv : DTS :=
  (bI (au yS (ab (af 0) (ab (dOp aF (af 1) (dC (.int 0))) (ab (dOp aF (af 1) (dC (.int 1))) ar)))))
noncomputable def qr : DTS :=
  (aO (AZ 2 3 (ab (cM (dOp aF (af 1) (dC (.int 0))) (dOp aF (af 1) (dC (.int 0)))) (ab (cM (cM (af 0) (dOp aF (af 1) (dC (.int 1)))) (dOp aF (af 1) (dC (.int 1)))) ar)))
  (aO (bJ (qS (ab (qV (dCB rH (ab (dOp rGt (dOp aF (af 1) (dC (.int 0))) (dC (.int 0))) ar)) (dCB rH (ab (dOp rLt (dOp aF (af 1) (dC (.int 0))) (dC (.int 0))) ar))) (ab (qV (dCB rH (ab (dOp rGt (dOp aF (af 1) (dC (.int 1))) (dC (.int 0))) ar)) (dCB rH (ab (dOp rLt (dOp aF (af 1) (dC (.int 1))) (dC (.int 0))) ar))) ar))) (ay 4))
  (aO (cV (dB (dOp rGe (cM (dOp aF (af 4) (dC (.int 0))) (dOp aF (af 4) (dC (.int 1)))) (dC (.int 0)))) (bI (dIf (dB (dOp (dD true) (dOp aF (af 4) (dC (.int 0))) (dC (.int 0)))) (dOp aF (af 4) (dC (.int 0))) (dOp aF (af 4) (dC (.int 1))))) bU)
  (bI (dIf (dB (dOp rGt (af 2) (af 3))) (dOp aF (af 4) (dC (.int 0))) (dOp aF (af 4) (dC (.int 1))))))))
noncomputable def nG : DTS :=
  (bI (dOp rGt (au fg (ab (af 0) (ab (au fB (ab (af 2) (ab (au sU (ab (af 1) ar)) ar))) ar))) (dC (.int 0))))
section
variable {μ : Mu} {Qd : DK} {ds : List D}
theorem xu (h : yS ds μ Qd) : jP { nx := fun _ μ' => Qd (.v .none) μ', rt := Qd } (aX ["d", "a", "b", "prevailing"] ds) μ := by
  obtain ⟨d, a, b, rfl, hd, ha, hb, q⟩ := h
  unfold jP
  walk_at "rd"
  have m1 : MulOk a a := hZ ha ha (by decide)
  have m2 : MulOk d b := hZ hd hb (by decide)
  have m3 : MulOk (d * b) b := hZ (hd.mul hb) hb (by decide)
  unfold sg at q
  by_cases h1 : a = 0
  · by_cases h2 : b = 0
    · subst h1 h2; simpa using q
    · subst h1
      rcases Int.lt_or_gt_of_ne h2 with h3 | h3
      · have e : ¬ (0 ≤ b) := by omega
        have e' : b ≤ 0 := by omega
        simp only [h2, e, e', and_false, true_and, if_true, if_false, decide_true, decide_false, Int.le_refl, ↓reduceIte, Bool.false_eq_true] at q ⊢
        exact q
      · have e : (0 ≤ b) := by omega
        simp only [h2, e, and_false, true_and, if_true, if_false, decide_true, decide_false, Int.le_refl, ↓reduceIte, Bool.false_eq_true] at q ⊢
        exact q
  · by_cases h3 : 0 ≤ a <;> by_cases h4 : 0 ≤ b <;> by_cases h5 : a ≤ 0 <;> by_cases h6 : b ≤ 0 <;> by_cases h7 : d * b * b < a * a <;> (try (exfalso; omega)) <;>
      simp only [h1, h3, h4, h5, h6, h7, and_false, false_and, and_true, true_and, if_true, if_false, decide_true, decide_false, ↓reduceIte, Bool.false_eq_true, and_self, m1, m2, m3, gt_iff_lt] at q ⊢ <;> (try exact q)
    all_goals
      first
      | (by_cases h8 : 0 < a <;> simp only [h8, if_true, if_false, decide_true, decide_false, ↓reduceIte, Bool.false_eq_true] at q ⊢ <;> exact q)
      | (by_cases h8 : 0 < b <;> simp only [h8, if_true, if_false, decide_true, decide_false, ↓reduceIte, Bool.false_eq_true] at q ⊢ <;> exact q)
theorem G7 (h : fg ds μ Qd) : uv { nx := fun _ μ' => Qd (.v .none) μ', rt := Qd } (aX ["d", "x"] ds) μ := by
  obtain ⟨d, x, rfl, hd, bx, q⟩ := h
  unfold uv
  walk_at "rd"
  exact ⟨d, x.a, x.b, rfl, jt hd.1 hd.2.1, bx.a.mono (by decide), bx.b.mono (by decide), q⟩
theorem PZ {d a b sa sb : Int} (ha : (a < 0 ∧ sa = -1) ∨ (a = 0 ∧ sa = 0) ∨ (0 < a ∧ sa = 1)) (hb : (b < 0 ∧ sb = -1) ∨ (b = 0 ∧ sb = 0) ∨ (0 < b ∧ sb = 1)) :
    sg d a b = if 0 ≤ sa * sb then (if sa ≠ 0 then sa else sb) else if d * b * b < a * a then sa else sb := by
  unfold sg
  by_cases h7 : d * b * b < a * a <;> rcases ha with ⟨h1, rfl⟩ | ⟨h1, rfl⟩ | ⟨h1, rfl⟩ <;> rcases hb with ⟨h2, rfl⟩ | ⟨h2, rfl⟩ | ⟨h2, rfl⟩ <;> simp only [h7, ↓reduceIte] <;> (repeat' split) <;> omega
theorem D0 (h : fg ds μ Qd) : qr { nx := fun _ μ' => Qd (.v .none) μ', rt := Qd } (aX ["_law_d", "_law_x", "_law_first", "_law_second", "_law_sides"] ds) μ := by
  obtain ⟨d, x, rfl, hd, bx, q⟩ := h
  unfold qr
  walk_at "rd"
  have s5 := jt hd.1 hd.2.1
  refine ⟨hZ bx.a bx.a (by decide), hZ s5 bx.b (by decide), hZ (s5.mul bx.b) bx.b (by decide), ?_⟩
  have sd : ∀ u : Int, (u < 0 ∧ ((if decide (0 < u) = true then 1 else 0) - if decide (u < 0) = true then 1 else 0 : Int) = -1) ∨ (u = 0 ∧ ((if decide (0 < u) = true then 1 else 0) - if decide (u < 0) = true then 1 else 0 : Int) = 0) ∨ (0 < u ∧ ((if decide (0 < u) = true then 1 else 0) - if decide (u < 0) = true then 1 else 0 : Int) = 1) := fun u => by
    simp only [decide_eq_true_eq]
    split <;> split <;> omega
  have ha := sd x.a
  have hb := sd x.b
  generalize ((if decide (0 < x.a) = true then 1 else 0) - if decide (x.a < 0) = true then 1 else 0 : Int) = sa at ha ⊢
  generalize ((if decide (0 < x.b) = true then 1 else 0) - if decide (x.b < 0) = true then 1 else 0 : Int) = sb at hb ⊢
  rw [PZ ha hb] at q
  refine ⟨mulL (by omega), ?_⟩
  by_cases c1 : 0 ≤ sa * sb <;> by_cases c2 : sa = 0 <;> by_cases c3 : d * x.b * x.b < x.a * x.a <;> simp only [c1, c2, c3, decide_true, decide_false, ↓reduceIte, Bool.false_eq_true, Bool.xor_false, Bool.xor_true, Bool.not_true, ne_eq, not_true_eq_false, not_false_eq_true, Int.zero_mul, Int.le_refl] at q ⊢ <;> exact q
theorem AR (h : tH ds μ Qd) : nG { nx := fun _ μ' => Qd (.v .none) μ', rt := Qd } (aX ["_law_d", "_law_x", "_law_y"] ds) μ := by
  obtain ⟨d, x, y, rfl, hd, ox, oy, bx, by', q⟩ := h
  unfold nG
  walk_at "rd"
  refine ⟨x, rfl, y, minus x, rfl, oy, oN ox, by'.mono (by decide), (wj bx).mono (by decide), d, plus y (minus x), rfl, hd, (fj oy (oN ox) by' (wj bx)).mono (by decide), ?_⟩
  walk_at "rd"
  have e : sg d (plus y (minus x)).a (plus y (minus x)).b = dif d y x := by
    obtain ⟨k, hk, hs, p1, p2, p3, _⟩ := kr (y.a * (minus x).c + (minus x).a * y.c) (y.b * (minus x).c + (minus x).b * y.c) (uE oy (oN ox))
    have hk0 : 0 < k := hs.mpr (Int.mul_pos oy.c (oN ox).c)
    unfold dif
    have e1 : y.a * x.c - x.a * y.c = k * (plus y (minus x)).a := by rw [show k * (plus y (minus x)).a = _ from p1.symm]; show _ = y.a * x.c + -x.a * y.c; grind
    have e2 : y.b * x.c - x.b * y.c = k * (plus y (minus x)).b := by rw [show k * (plus y (minus x)).b = _ from p2.symm]; show _ = y.b * x.c + -x.b * y.c; grind
    rw [e1, e2, nX hd hk0]
  rw [e]
  have t := jv d (y.a * x.c - x.a * y.c) (y.b * x.c - x.b * y.c)
  have f : decide (0 < dif d y x) = decide (dif d y x = 1) := by unfold dif; rcases t with z | z | z <;> rw [z] <;> decide
  rw [f]
  exact q
end
open PySem PySem.Spec PyProof.Rows NM
noncomputable def rf : DTS :=
  (aO (bJ (dC (.int 0)) (ay 2))
  (aO (cV (dB (dOp rLt (af 1) (dCB fE (ab (af 0) ar)))) (bJ (dOp aF (af 0) (af 1)) (ay 2)) bU)
  (aO (bJ (dC (.int 0)) (ay 3))
  (aO (cV (dB (dOp rGe (dCB sG (ab (af 2) ar)) (AK (dC (.int 10)) (dC (.int 18))))) (bJ (dCB sG (ab (af 2) ar)) (ay 3)) bU)
  (aO (bJ (qS (ab (dC (.int 2147483647)) (ab (dC (.int 2147483629)) (ab (dC (.int 2147483587)) (ab (dC (.int 2147483579)) (ab (dC (.int 2147483563)) (ab (dC (.int 2147483549)) (ab (dC (.int 2147483543)) (ab (dC (.int 2147483497)) ar))))))))) (ay 4))
  (aO (bJ (mD (mD (mD (cM (yN (af 2) (dC (.int 2147483647))) (dC (.int 69623))) (cM (cM (dC (.int 104729)) (af 1)) (af 1))) (cM (dC (.int 7919)) (af 1))) (dC (.int 12345))) (ay 5))
  (bI (B6 (ab (af 3) (ab (yN (af 5) (dOp aF (af 4) (yN (af 1) (dC (.int 8))))) ar))))))))))
noncomputable def p7 : DTS :=
  (aO (cV (dB (dOp rGt (dOp aF (af 0) (dC (.int 0))) (dC (.int 0)))) (aO (bJ (yN (dOp aF (af 0) (dC (.int 0))) (af 1)) (ay 2))
  (aO (bJ (AJ (dOp aF (af 0) (dC (.int 0))) (af 1)) (J5 (af 0) (dC (.int 0))))
  (bI (af 2)))) bU)
  (aO (bJ (yN (mD (cM (dOp aF (af 0) (dC (.int 1))) (dC (.int 48271))) (dC (.int 2531011))) (dC (.int 2147483647))) (J5 (af 0) (dC (.int 1))))
  (bI (yN (AJ (yN (AK (dOp aF (af 0) (dC (.int 1))) (dC (.int 3))) (dC (.int 2147483629))) (dC (.int 64))) (af 1)))))
section
variable {μ : Mu} {Qd : DK} {ds : List D}
theorem yQ {α : Type} {xs : List α} {i : Int} (h0 : 0 ≤ i) (h : i < (xs.length : Nat)) : ∃ d, atI xs i = some d ∧ d ∈ xs := by
  have hj : i.toNat < xs.length := by omega
  have e := k8 (xs := xs) (j := i.toNat) (v := xs[i.toNat]) (by simp [hj])
  rw [show ((i.toNat : Nat) : Int) = i by omega] at e
  exact ⟨_, e, List.getElem_mem _⟩
theorem lQ (x : Int) {y : Int} (h : 0 < y) : 0 ≤ x.fmod y ∧ x.fmod y < y := ⟨Int.fmod_nonneg_of_pos x h, Int.fmod_lt_of_pos x h⟩
theorem Oe {x y : Int} (hx : 0 ≤ x) (hy : 0 < y) : 0 ≤ x.fdiv y := by rw [Int.fdiv_eq_ediv_of_nonneg _ (by omega)]; exact Int.ediv_nonneg hx (by omega)
def sX : List PyData := [.int 2147483647, .int 2147483629, .int 2147483587, .int 2147483579, .int 2147483563, .int 2147483549, .int 2147483543, .int 2147483497]
theorem Fj (h : JS ds μ Qd) : rf { nx := fun _ μ' => Qd (.v .none) μ', rt := Qd } (aX ["_law_script", "_law_at", "_law_cell", "_law_great", "_law_primes", "_law_mixed"] ds) μ := by
  obtain ⟨ns, k, rfl, h0, h1, q⟩ := h
  unfold rf
  have hp : ∃ pr : Int, atI sX (k.fmod 8) = some (.int pr) ∧ 0 < pr ∧ pr < 2147483648 := by
    obtain ⟨h2, h3⟩ := lQ k (show (0 : Int) < 8 by decide)
    obtain ⟨p, e, hm⟩ := yQ (xs := sX) h2 (by exact h3)
    simp only [sX, List.mem_cons, List.not_mem_nil, or_false] at hm
    rcases hm with rfl | rfl | rfl | rfl | rfl | rfl | rfl | rfl <;> exact ⟨_, e, by decide, by decide⟩
  obtain ⟨pr, hpe, hp0, hp1⟩ := hp
  unfold sX at hpe
  walk_at "rd"
  rw [hpe]
  walk_at "rd"
  have c1 : Kf 10 18 := ⟨by decide, by decide, by decide⟩
  have z1 : (2147483647 : Int) ≠ 0 := by decide
  have z2 : (8 : Int) ≠ 0 := by decide
  have m1 : ∀ i : Int, MulOk i 69623 := fun i => mulR (by decide)
  have m2 : MulOk 104729 k := mulL (by decide)
  have m3 : MulOk (104729 * k) k := mulR (by omega)
  have m4 : MulOk 7919 k := mulL (by decide)
  have z3 : pr ≠ 0 := by omega
  have fin : ∀ G x : Int, 0 ≤ G → ∀ p, μ p = none → Qd (.m p) (bD μ p [.int G, .int (x.fmod pr)]) := fun G x hG p hp => by
    obtain ⟨h2, h3⟩ := lQ x hp0
    exact q p _ hp (Step.set hG h2 (by omega))
  by_cases hk : k < (ns.length : Nat)
  · rw [if_pos (by simpa using hk)]
    obtain ⟨c, hc, _⟩ := yQ h0 hk
    rw [hc]
    walk_at "rd"
    refine ⟨c1, ?_⟩
    split
    · exact ⟨z1, m1 _, m2, m3, m4, z2, z3, fin _ _ (by omega)⟩
    · exact ⟨z1, m1 _, m2, m3, m4, z2, z3, fin _ _ (by omega)⟩
  · rw [if_neg (by simpa using hk)]
    refine ⟨c1, ?_⟩
    split
    · exact ⟨z1, m1 _, m2, m3, m4, z2, z3, fin _ _ (by omega)⟩
    · exact ⟨z1, m1 _, m2, m3, m4, z2, z3, fin _ _ (by omega)⟩
theorem DR (h : ez ds μ Qd) : p7 { nx := fun _ μ' => Qd (.v .none) μ', rt := Qd } (aX ["_law_bag_here", "_law_many", "_law_digit"] ds) μ := by
  obtain ⟨a, n, rfl, h0, h1, ⟨g, m, hb, hg, hm, hm'⟩, q⟩ := h
  unfold p7
  walk_at "rd"
  rw [hb]
  walk_at "rd"
  rw [hb]
  walk_at "rd"
  have n0 : n ≠ 0 := by omega
  have i0 : ixN 2 0 = some 0 := by rfl
  have i1 : ixN 2 1 = some 1 := by rfl
  by_cases hg0 : 0 < g
  · rw [if_pos (by simpa using hg0)]
    simp only [hb]
    walk_at "rd"
    obtain ⟨r0, r1⟩ := lQ g (show 0 < n by omega)
    refine ⟨n0, ?_⟩
    simp only [hb]
    walk_at "rd"
    refine ⟨divC n0 (by omega), ?_⟩
    simp only [hb, List.length_cons, List.length_nil, Nat.reduceAdd, i0, List.set_cons_zero]
    exact q _ _ r0 r1 (Step.set (Oe hg (by omega)) hm hm')
  · rw [if_neg (by simpa using hg0)]
    simp only [hb, i1, bL]
    walk_at "rd"
    obtain ⟨s0, s1⟩ := lQ (m * 48271 + 2531011) (show (0 : Int) < 2147483647 by decide)
    generalize (m * 48271 + 2531011).fmod 2147483647 = w at s0 s1 ⊢
    obtain ⟨r0, r1⟩ := lQ ((((w ^ Int.toNat 3).fmod 2147483629).fdiv 64)) (show 0 < n by omega)
    refine ⟨mulL (by omega), by decide, ?_⟩
    refine ⟨⟨by decide, by decide, by omega⟩, (by show (2147483629 : Int) ≠ 0; decide), divC (by decide) (by decide), n0, ?_⟩
    exact q _ _ r0 r1 (Step.set hg s0 (by omega))
end
open PySem PySem.Spec PyProof.Rows NM
section
variable {μ : Mu} {Qd : DK} {ds : List D}
end
open PySem PySem.Spec PyProof.Rows NM
noncomputable def qx : DTS :=
  (aO (cV (jX (eZ (dB (vw "tuple" (af 0)))) (dB (dOp (dD true) (dCB fE (ab (af 0) ar)) (dC (.int 3))))) (bI (dC (.bool false))) bU)
  (aO (bJ (af 0) (sE 3 (dF (ay 1) (dF (ay 2) (dF (ay 3) ug)))))
  (aO (cV (jX (eZ (dB (au iw (ab (af 1) ar)))) (jX (eZ (dB (au iw (ab (af 2) ar)))) (eZ (dB (au iw (ab (af 3) ar)))))) (bI (dC (.bool false))) bU)
  (bI (ui (dOp rGe (af 3) (dC (.int 1))) (dOp (dD false) (au zS (ab (af 1) (ab (af 2) (ab (af 3) ar)))) (dC (.int 1))))))))
section
variable {μ : Mu} {Qd : DK} {ds : List D}
def Jz (i : Int) : Bool := decide (2 ≤ i) && decide (i ≤ 30) && !(decide (i = 4) || decide (i = 9) || decide (i = 16) || decide (i = 25))
theorem fW (d : PyData) : (∃ i, d = .int i ∧ isWhole d = true) ∨ ((∀ i, d ≠ .int i) ∧ isWhole d = false) := by
  cases d <;> first | exact .inl ⟨_, rfl, rfl⟩ | exact .inr ⟨fun _ z => (by cases z), rfl⟩
theorem DJ (d : PyData) : (∃ xs, d = .tuple xs ∧ isT "tuple" d = true) ∨ ((∀ xs, d ≠ .tuple xs) ∧ isT "tuple" d = false) := by
  cases d <;> first | exact .inl ⟨_, rfl, rfl⟩ | exact .inr ⟨fun _ z => (by cases z), rfl⟩
theorem Cm {d : PyData} (h : ∀ xs, d ≠ .tuple xs) : isNum d = false := by cases d <;> first | rfl | exact absurd rfl (h _)
theorem Cn {xs : List PyData} (h : xs.length ≠ 3) : isNum (.tuple xs) = false := by
  unfold isNum
  split
  · rename_i e; cases e; exact absurd rfl h
  · rfl
theorem three {α : Type} {xs : List α} (h : xs.length = 3) : ∃ a b c, xs = [a, b, c] := by
  match xs, h with
  | [a, b, c], _ => exact ⟨a, b, c, rfl⟩
theorem C2 (h : rD ds μ Qd) : qx { nx := fun _ μ' => Qd (.v .none) μ', rt := Qd } (aX ["thing", "a", "b", "c"] ds) μ := by
  obtain ⟨d, rfl, _, q⟩ := h
  unfold qx
  walk_at "rd"
  rcases DJ d with ⟨xs, rfl, e⟩ | ⟨hn, e⟩
  · rw [e]
    walk_at "rd"
    by_cases hl : xs.length = 3
    · obtain ⟨a, b, c, rfl⟩ := three hl
      have e3 : decide ((([a, b, c].length : Nat) : Int) = 3) = true := rfl
      have e3' : [a, b, c].length = 3 := rfl
      simp only [e3, Bool.xor_self, Bool.false_eq_true, ↓reduceIte]
      refine ⟨rfl, ?_⟩
      walk_at "rd"
      refine ⟨a, rfl, ?_⟩
      rcases fW a with ⟨i, rfl, e⟩ | ⟨hn, e⟩
      · rw [e]
        walk_at "rd"
        refine ⟨b, rfl, ?_⟩
        rcases fW b with ⟨j, rfl, e⟩ | ⟨hn, e⟩
        · rw [e]
          walk_at "rd"
          refine ⟨c, rfl, ?_⟩
          rcases fW c with ⟨k, rfl, e⟩ | ⟨hn, e⟩
          · rw [e]
            walk_at "rd"
            have q' : Qd (.v (.bool (decide (1 ≤ k) && (g3 i j k == 1)))) μ := q
            by_cases hk : 1 ≤ k
            · rw [if_pos (by simpa using hk)]
              refine ⟨i, j, k, rfl, ?_⟩
              walk_at "rd"
              have ee : decide (((g3 i j k : Nat) : Int) = 1) = (decide (1 ≤ k) && (g3 i j k == 1)) := by
                rw [decide_eq_true hk, Bool.true_and, Bool.eq_iff_iff]; simp; omega
              rw [ee]
              exact q'
            · rw [if_neg (by simpa using hk)]
              rw [decide_eq_false hk] at q'
              exact q'
          · rw [e]
            walk_at "rd"
            have : isNum (.tuple [.int i, .int j, c]) = false := by cases c <;> first | rfl | exact absurd rfl (hn _)
            rw [this] at q
            exact q
        · rw [e]
          walk_at "rd"
          have : isNum (.tuple [.int i, b, c]) = false := by cases b <;> first | rfl | exact absurd rfl (hn _)
          rw [this] at q
          exact q
      · rw [e]
        walk_at "rd"
        have : isNum (.tuple [a, b, c]) = false := by cases a <;> first | rfl | exact absurd rfl (hn _)
        rw [this] at q
        exact q
    · rw [Cn hl] at q
      have : decide (((xs.length : Nat) : Int) = 3) = false := by simp; omega
      rw [this]
      simp only [Bool.xor_false, ↓reduceIte]
      exact q
  · rw [e]
    rw [Cm hn] at q
    walk_at "rd"
    exact q
end
open PySem PySem.Spec PyProof.Rows NM
noncomputable def jG : DTS :=
  (aO (cV (jX (eZ (dB (vw "tuple" (af 0)))) (jX (dB (dOp (dD true) (dCB fE (ab (af 0) ar)) (dC (.int 3)))) (eZ (dB (dCB xW (ab (vJ [none] (oj (af 0)) (ay 0) qM (au iw (ab (af 0) ar))) ar)))))) (bI (dC (.bool false))) bU)
  (bI (ui (dOp rGt (dOp aF (af 0) (dC (.int 2))) (dC (.int 0))) (dOp (dD false) (au qX (ab (au qX (ab (dOp aF (af 0) (dC (.int 0))) (ab (dOp aF (af 0) (dC (.int 1))) ar))) (ab (dOp aF (af 0) (dC (.int 2))) ar))) (dC (.int 1))))))
noncomputable def l7 : DTS :=
  (aO (bJ (dOp aF (qS (ab (dC (.int 4)) (ab (dC (.int 10)) (ab (dC (.int 100)) (ab (dC (.int 1000000)) ar))))) (au ez (ab (af 0) (ab (dC (.int 4)) ar)))) (ay 1))
  (aO (AZ 2 3 (ab (qV (au ez (ab (af 0) (ab (af 1) ar))) (AJ (af 1) (dC (.int 2)))) (ab (qV (au ez (ab (af 0) (ab (af 1) ar))) (AJ (af 1) (dC (.int 2)))) ar)))
  (aO (bJ (mD (dC (.int 1)) (au ez (ab (af 0) (ab (qV (af 1) (dC (.int 1))) ar)))) (ay 4))
  (aO (bJ (au ez (ab (af 0) (ab (dC (.int 8)) ar))) (ay 5))
  (bI (au cY (ab (dOp aF (qS (ab (af 2) (ab (af 2) (ab (af 2) (ab (af 2) (ab (af 2) (ab (af 2) (ab (af 2) (ab (dC (.int 0)) ar))))))))) (af 5)) (ab (dOp aF (qS (ab (af 3) (ab (af 3) (ab (af 3) (ab (af 3) (ab (af 3) (ab (dC (.int 0)) (ab (dC (.int 0)) (ab (af 3) ar))))))))) (af 5)) (ab (dOp aF (qS (ab (af 4) (ab (af 4) (ab (dC (.int 1)) (ab (af 4) (ab (dC (.int 1)) (ab (af 4) (ab (dC (.int 1)) (ab (af 4) ar))))))))) (af 5)) ar)))))))))
section
variable {μ : Mu} {Qd : DK} {ds : List D}
theorem vP (h : rD ds μ Qd) : jG { nx := fun _ μ' => Qd (.v .none) μ', rt := Qd } (aX ["_law_thing"] ds) μ := by
  obtain ⟨d, rfl, few, q⟩ := h
  unfold jG
  walk_at "rd"
  rcases DJ d with ⟨xs, rfl, e⟩ | ⟨hn, e⟩
  · rw [e]
    walk_at "rd"
    by_cases hl : xs.length = 3
    · obtain ⟨a, b, c, rfl⟩ := three hl
      have e3 : decide ((([a, b, c].length : Nat) : Int) = 3) = true := rfl
      simp only [e3, Bool.xor_self, Bool.false_eq_true, ↓reduceIte]
      refine ⟨by simp, fun x => some (.bool (isWhole x)), fun x hx μ' hs => ⟨trivial, x, rfl, rfl, rfl⟩, ?_⟩
      rw [Kb (fun x => PyData.bool (isWhole x)), yk]
      simp only [List.map_cons, List.map_nil, List.all_cons, List.all_nil, id, Bool.and_true]
      rcases fW a with ⟨i, rfl, ea⟩ | ⟨hn, ea⟩
      · rcases fW b with ⟨j, rfl, e1⟩ | ⟨hn, e1⟩
        · rcases fW c with ⟨k, rfl, e2⟩ | ⟨hn, e2⟩
          · rw [ea, e1, e2]
            simp only [Bool.and_self]
            walk_at "rd"
            have q' : Qd (.v (.bool (decide (1 ≤ k) && (g3 i j k == 1)))) μ := q
            by_cases hk : 1 ≤ k
            · rw [if_pos (by simp; omega)]
              refine ⟨i, j, rfl, _, k, rfl, ?_⟩
              walk_at "rd"
              have ee : decide (((Int.gcd (Int.gcd i j : Nat) k : Nat) : Int) = 1) = (decide (1 ≤ k) && (g3 i j k == 1)) := by
                unfold g3
                rw [decide_eq_true hk, Bool.true_and, Bool.eq_iff_iff]; simp; omega
              rw [ee]
              exact q'
            · rw [if_neg (by simp; omega)]
              rw [decide_eq_false hk] at q'
              exact q'
          · rw [ea, e1, e2]
            simp only [Bool.and_false]
            walk_at "rd"
            have : isNum (.tuple [.int i, .int j, c]) = false := by cases c <;> first | rfl | exact absurd rfl (hn _)
            rw [this] at q
            exact q
        · rw [ea, e1]
          simp only [Bool.and_false, Bool.false_and]
          walk_at "rd"
          have : isNum (.tuple [.int i, b, c]) = false := by cases b <;> first | rfl | exact absurd rfl (hn _)
          rw [this] at q
          exact q
      · rw [ea]
        simp only [Bool.and_false, Bool.false_and]
        walk_at "rd"
        have : isNum (.tuple [a, b, c]) = false := by cases a <;> first | rfl | exact absurd rfl (hn _)
        rw [this] at q
        exact q
    · rw [Cn hl] at q
      have : decide (((xs.length : Nat) : Int) = 3) = false := by simp; omega
      rw [this]
      simp only [Bool.xor_false, ↓reduceIte]
      exact q
  · rw [e]
    rw [Cm hn] at q
    walk_at "rd"
    exact q
theorem pick {P : PyData → Prop} {xs : List PyData} {i : Int} (h0 : 0 ≤ i) (h1 : i < (xs.length : Nat)) (h : ∀ x ∈ xs, P x) : ∃ d, atI xs i = some d ∧ P d := let ⟨d, e, m⟩ := yQ h0 h1; ⟨d, e, h d m⟩
theorem Step.refl {a : Addr} (h : Bag μ a) : Step a μ μ := ⟨h, fun _ _ => rfl⟩
theorem Fx {i : Int} (h1 : -1048576 < i) (h2 : i < 1048576) : Sz 20 i := Sz.of (by show i.natAbs < 1048576; omega)
theorem AH (h : sP ds μ Qd) : l7 { nx := fun _ μ' => Qd (.v .none) μ', rt := Qd } (aX ["_law_bag_here", "_law_wide", "_law_a", "_law_b", "_law_c", "_law_way"] ds) μ := by
  obtain ⟨a, rfl, hb, q⟩ := h
  unfold l7
  walk_at "rd"
  refine ⟨a, 4, rfl, by decide, by decide, hb, fun r0 μ1 h0 h1 s1 => ?_⟩
  walk_at "rd"
  obtain ⟨w, e, i, rfl, w0, w1⟩ := pick (P := fun d => ∃ i : Int, d = .int i ∧ 4 ≤ i ∧ i ≤ 1000000) (xs := [PyData.int 4, PyData.int 10, PyData.int 100, PyData.int 1000000]) h0 (by exact h1) (by
    intro x hx
    simp only [List.mem_cons, List.not_mem_nil, or_false] at hx
    rcases hx with rfl | rfl | rfl | rfl <;> exact ⟨_, rfl, by decide, by decide⟩)
  rw [e]
  walk_at "rd"
  refine ⟨a, i, rfl, by omega, by omega, s1.1, fun r1 μ2 h2 h3 s2 => ?_⟩
  walk_at "rd"
  refine ⟨divC (by decide) (by decide), a, i, rfl, by omega, by omega, s2.1, fun r2 μ3 h4 h5 s3 => ?_⟩
  walk_at "rd"
  refine ⟨divC (by decide) (by decide), a, i - 1, rfl, by omega, by omega, s3.1, fun r3 μ4 h6 h7 s4 => ?_⟩
  walk_at "rd"
  refine ⟨a, 8, rfl, by decide, by decide, s4.1, fun r4 μ5 h8 h9 s5 => ?_⟩
  walk_at "rd"
  have ef : i.fdiv 2 = i / 2 := Int.fdiv_eq_ediv_of_nonneg _ (by omega)
  rw [ef]
  have za : Sz 20 (r1 - i / 2) := Fx (by omega) (by omega)
  have zb : Sz 20 (r2 - i / 2) := Fx (by omega) (by omega)
  have zc : Sz 20 (1 + r3) := Fx (by omega) (by omega)
  have z0 : Sz 20 0 := Fx (by omega) (by omega)
  have z1 : Sz 20 1 := Fx (by omega) (by omega)
  obtain ⟨d1, e1, i1, rfl, b1⟩ := pick (P := fun d => ∃ i : Int, d = .int i ∧ Sz 20 i) (xs := [PyData.int (r1 - i / 2), PyData.int (r1 - i / 2), PyData.int (r1 - i / 2), PyData.int (r1 - i / 2), PyData.int (r1 - i / 2), PyData.int (r1 - i / 2), PyData.int (r1 - i / 2), PyData.int 0]) h8 (by exact h9) (by
    intro x hx
    simp only [List.mem_cons, List.not_mem_nil, or_false] at hx
    rcases hx with rfl | rfl | rfl | rfl | rfl | rfl | rfl | rfl <;> exact ⟨_, rfl, by assumption⟩)
  rw [e1]
  walk_at "rd"
  obtain ⟨d2, e2, i2, rfl, b2⟩ := pick (P := fun d => ∃ i : Int, d = .int i ∧ Sz 20 i) (xs := [PyData.int (r2 - i / 2), PyData.int (r2 - i / 2), PyData.int (r2 - i / 2), PyData.int (r2 - i / 2), PyData.int (r2 - i / 2), PyData.int 0, PyData.int 0, PyData.int (r2 - i / 2)]) h8 (by exact h9) (by
    intro x hx
    simp only [List.mem_cons, List.not_mem_nil, or_false] at hx
    rcases hx with rfl | rfl | rfl | rfl | rfl | rfl | rfl | rfl <;> exact ⟨_, rfl, by assumption⟩)
  rw [e2]
  walk_at "rd"
  obtain ⟨d3, e3, i3, rfl, b3, p3⟩ := pick (P := fun d => ∃ i : Int, d = .int i ∧ Sz 20 i ∧ 0 < i) (xs := [PyData.int (1 + r3), PyData.int (1 + r3), PyData.int 1, PyData.int (1 + r3), PyData.int 1, PyData.int (1 + r3), PyData.int 1, PyData.int (1 + r3)]) h8 (by exact h9) (by
    intro x hx
    simp only [List.mem_cons, List.not_mem_nil, or_false] at hx
    rcases hx with rfl | rfl | rfl | rfl | rfl | rfl | rfl | rfl <;> exact ⟨_, rfl, by assumption, by omega⟩)
  rw [e3]
  walk_at "rd"
  have n3 : i3 ≠ 0 := by omega
  exact ⟨i1, i2, i3, rfl, n3, b3.mono (by decide), q _ _ (iP _ _ n3) (lR n3 b1 b2 b3) (s1.trans (s2.trans (s3.trans (s4.trans s5))))⟩
end
open PySem PySem.Spec PyProof.Rows NM
noncomputable def pY : DTS :=
  (aO (cV (dB (dOp (dD false) (au ez (ab (af 0) (ab (dC (.int 2)) ar))) (dC (.int 0)))) (bI (dOp aF (qS (ab (dC (.int 2)) (ab (dC (.int 3)) (ab (dC (.int 5)) ar)))) (au ez (ab (af 0) (ab (dC (.int 3)) ar))))) bU)
  (aO (bJ (rN [none] (zu (ab (dC (.int 2)) (ab (dC (.int 31)) ar))) (ay 0) (dB (dOp (Gi true) (af 0) (qS (ab (dC (.int 4)) (ab (dC (.int 9)) (ab (dC (.int 16)) (ab (dC (.int 25)) ar))))))) (af 0)) (ay 1))
  (bI (dOp aF (af 1) (au ez (ab (af 0) (ab (dC (.int 25)) ar)))))))
noncomputable def nA : DTS :=
  (aO (bJ (au sP (ab (af 0) ar)) (ay 2))
  (aO (bJ (au fg (ab (af 1) (ab (af 2) ar))) (ay 3))
  (aO (cV (dB (dOp (dD false) (af 3) (dC (.int 0)))) (bI (eC (ab (mD (dC (.int 1)) (au ez (ab (af 0) (ab (dC (.int 5)) ar)))) (ab (dC (.int 0)) (ab (dC (.int 1)) ar))))) bU)
  (bI (dIf (dB (dOp rGt (af 3) (dC (.int 0)))) (af 2) (au sU (ab (af 2) ar)))))))
section
variable {μ : Mu} {Qd : DK} {ds : List D}
theorem N4 {lo : Int} {n : Nat} {x : PyData} (h : x ∈ sJ lo n) : ∃ i : Int, x = .int i ∧ lo ≤ i ∧ i < lo + n := by
  unfold sJ at h
  obtain ⟨k, hk, rfl⟩ := List.mem_map.mp h
  have := List.mem_range.mp hk
  exact ⟨_, rfl, by omega, by omega⟩
def Fo : PyData → Option PyData
  | .int i => if Jz i then some (.int i) else none
  | _ => none
def EZ : List PyData := [2, 3, 5, 6, 7, 8, 10, 11, 12, 13, 14, 15, 17, 18, 19, 20, 21, 22, 23, 24, 26, 27, 28, 29, 30].map PyData.int
theorem in4 (i : Int) : (List.any [PyData.int 4, PyData.int 9, PyData.int 16, PyData.int 25] fun b => PyData.eqv b (.int i)) = (decide (i = 4) || decide (i = 9) || decide (i = 16) || decide (i = 25)) := by
  have ev : ∀ j : Int, PyData.eqv (.int j) (.int i) = decide (i = j) := fun j => by rw [T9]; simp [eq_comm]
  simp only [List.any_cons, List.any_nil, ev, Bool.or_false, Bool.or_assoc]
theorem EG (h : y7 ds μ Qd) : pY { nx := fun _ μ' => Qd (.v .none) μ', rt := Qd } (aX ["_law_bag_here", "_law_some"] ds) μ := by
  obtain ⟨a, rfl, hb, q⟩ := h
  unfold pY
  walk_at "rd"
  refine ⟨a, 2, rfl, by decide, by decide, hb, fun r0 μ1 h0 h1 s1 => ?_⟩
  walk_at "rd"
  by_cases hr : r0 = 0
  · rw [if_pos (by simpa using hr)]
    refine ⟨a, 3, rfl, by decide, by decide, s1.1, fun r1 μ2 h2 h3 s2 => ?_⟩
    walk_at "rd"
    obtain ⟨w, e, i, rfl, w0⟩ := pick (P := fun d => ∃ i : Int, d = .int i ∧ aA i) (xs := [PyData.int 2, PyData.int 3, PyData.int 5]) h2 (by exact h3) (by
      intro x hx
      simp only [List.mem_cons, List.not_mem_nil, or_false] at hx
      rcases hx with rfl | rfl | rfl <;> exact ⟨_, rfl, by unfold aA; omega⟩)
    rw [e]
    exact q _ _ w0 (s1.trans s2)
  · rw [if_neg (by simpa using hr)]
    refine ⟨⟨by decide, by decide, by decide, by decide⟩, by decide, fun p hp => ⟨fun i acc μ' => acc = ((sJ 2 29).take i).filterMap Fo ∧ μ' = bD μ1 p acc, ⟨rfl, rfl⟩, ?_, ?_⟩⟩
    · rintro i x acc μ' hx hpa ⟨e0, e1⟩
      obtain ⟨k, rfl, i0, i1⟩ := N4 (List.mem_of_getElem? hx)
      refine ⟨trivial, rfl, rfl, by show 0 ≤ 60; decide, ?_⟩
      rw [in4]
      have i1' : k < 31 := by simpa using i1
      have e : Fo (.int k) = if Jz k then some (.int k) else none := rfl
      have e2 : Jz k = !(decide (k = 4) || decide (k = 9) || decide (k = 16) || decide (k = 25)) := by
        unfold Jz
        rw [decide_eq_true i0, decide_eq_true (show k ≤ 30 by omega)]
        rfl
      have ft : ((sJ 2 29).take (i + 1)).filterMap Fo = ((sJ 2 29).take i).filterMap Fo ++ (Fo (.int k)).toList := RG hx
      rw [e, e2] at ft
      cases hh : (decide (k = 4) || decide (k = 9) || decide (k = 16) || decide (k = 25))
      · rw [hh] at ft
        simp only [Bool.true_xor, Bool.not_false, ↓reduceIte] at ft ⊢
        refine ⟨hpa, ?_, ?_⟩
        · rw [ft, e0]; rfl
        · rw [e1, xg]
      · rw [hh] at ft
        simp only [Bool.true_xor, Bool.not_true, ↓reduceIte, Bool.false_eq_true] at ft ⊢
        refine ⟨hpa, ?_, e1⟩
        rw [ft, e0]; simp
    rintro acc μ' ⟨e0, e1⟩ _
    have ed : il μ' p = μ1 := by rw [e1]; exact B1 hp
    rw [ed]
    have e0' : acc = EZ := by rw [e0]; rfl
    rw [e0']
    refine ⟨a, 25, rfl, by decide, by decide, s1.1, fun r1 μ2 h2 h3 s2 => ?_⟩
    walk_at "rd"
    obtain ⟨w, e, i, rfl, w0⟩ := pick (P := fun d => ∃ i : Int, d = .int i ∧ aA i) (xs := EZ) h2 (by exact h3) (by
      intro x hx
      unfold EZ at hx
      obtain ⟨k, hk, rfl⟩ := List.mem_map.mp hx
      refine ⟨_, rfl, ?_⟩
      simp only [List.mem_cons, List.not_mem_nil, or_false] at hk
      unfold aA
      omega)
    rw [e]
    exact q _ _ w0 (s1.trans s2)
def JN : List PyData := [.none, .bool true, .bool false, .str "1", .str "", .int (-1), .int 0, .int 1, .int (10 ^ Int.toNat 59), .tuple [], .list [], .list [.int 0], .tuple [.int 0, .int 0], .tuple [.int 1, .int 0, .int 0], .tuple [.int 2, .int 0, .int 2], .tuple [.int 1, .bool true, .int 1], .tuple [.int 1, .int 1, .int (-1)], .list [.int 1, .int 0, .int 1], .tuple [.int 1, .int 0], .str "a"]
noncomputable def lP : DSp := fun ds μ Q => ∃ (a : Addr) (d : Int), ds = [.m a, .v (.int d)] ∧ aA d ∧ Bag μ a ∧ ∀ x μ', Ok x → Bd 20 x → sg d x.a x.b = 1 → Step a μ μ' → Q (.v (dN x)) μ'
theorem Bf (h : lP ds μ Qd) : nA { nx := fun _ μ' => Qd (.v .none) μ', rt := Qd } (aX ["_law_bag_here", "_law_d", "_law_x", "_law_sign_here"] ds) μ := by
  obtain ⟨a, d, rfl, hd, hb, q⟩ := h
  unfold nA
  walk_at "rd"
  refine ⟨a, rfl, hb, fun x μ1 ox bx s1 => ?_⟩
  walk_at "rd"
  refine ⟨d, x, rfl, hd, bx.mono (by decide), ?_⟩
  walk_at "rd"
  have t := jv d x.a x.b
  by_cases h0 : sg d x.a x.b = 0
  · rw [if_pos (by simpa using h0)]
    refine ⟨a, 5, rfl, by decide, by decide, s1.1, fun r μ2 r0 r1 s2 => ?_⟩
    walk_at "rd"
    have ok : Ok ⟨1 + r, 0, 1⟩ := ⟨by show (0 : Int) < 1; decide, by unfold g3; simp⟩
    refine q ⟨1 + r, 0, 1⟩ μ2 ok ⟨Fx (by show -1048576 < 1 + r; omega) (by show 1 + r < 1048576; omega), Fx (by show -1048576 < (0 : Int); decide) (by show (0 : Int) < 1048576; decide), Fx (by show -1048576 < (1 : Int); decide) (by show (1 : Int) < 1048576; decide)⟩ ?_ (s1.trans s2)
    show sg d (1 + r) 0 = 1
    unfold sg
    rw [if_neg (by omega), if_pos (by omega)]
  · rw [if_neg (by simpa using h0)]
    by_cases h1 : 0 < sg d x.a x.b
    · rw [if_pos (by simpa using h1)]
      exact q x μ1 ox bx (by omega) s1
    · rw [if_neg (by simpa using h1)]
      refine ⟨x, rfl, ?_⟩
      refine q (minus x) μ1 (oN ox) (wj bx) ?_ s1
      show sg d (-x.a) (-x.b) = 1
      rw [C4 hd]
      omega
end
open PySem PySem.Spec PyProof.Rows NM
section
variable {μ : Mu} {Q : DK} {ds : List D}
noncomputable def zp : DSp := fun ds μ Q => ∃ ns : List Int, ds = [.s ns] ∧ ns.length ≤ 63 ∧ ∀ μ', Q (.v (.bool true)) μ'
theorem yg (h : iw ds μ Q) : ds.length = 1 := by obtain ⟨_, rfl, _⟩ := h; rfl
theorem Ca (h : qX ds μ Q) : ds.length = 2 := by obtain ⟨_, _, rfl, _⟩ := h; rfl
theorem Im (h : zS ds μ Q) : ds.length = 3 := by obtain ⟨_, _, _, rfl, _⟩ := h; rfl
theorem zz (h : rD ds μ Q) : ds.length = 1 := by obtain ⟨_, rfl, _⟩ := h; rfl
theorem wx (h : cY ds μ Q) : ds.length = 3 := by obtain ⟨_, _, _, rfl, _⟩ := h; rfl
theorem Ax (h : eA ds μ Q) : ds.length = 1 := by obtain ⟨_, rfl, _⟩ := h; rfl
theorem FX (h : sU ds μ Q) : ds.length = 1 := by obtain ⟨_, rfl, _⟩ := h; rfl
theorem zF (h : fB ds μ Q) : ds.length = 2 := by obtain ⟨_, _, rfl, _⟩ := h; rfl
theorem HC (h : zJ ds μ Q) : ds.length = 2 := by obtain ⟨_, _, rfl, _⟩ := h; rfl
theorem yh (h : bF ds μ Q) : ds.length = 3 := by obtain ⟨_, _, _, rfl, _⟩ := h; rfl
theorem rC (h : bZ ds μ Q) : ds.length = 2 := by obtain ⟨_, _, rfl, _⟩ := h; rfl
theorem IC (h : nK ds μ Q) : ds.length = 3 := by obtain ⟨_, _, _, rfl, _⟩ := h; rfl
theorem FK (h : yS ds μ Q) : ds.length = 3 := by obtain ⟨_, _, _, rfl, _⟩ := h; rfl
theorem As (h : fg ds μ Q) : ds.length = 2 := by obtain ⟨_, _, rfl, _⟩ := h; rfl
theorem Gq (h : tH ds μ Q) : ds.length = 3 := by obtain ⟨_, _, _, rfl, _⟩ := h; rfl
theorem K1 (h : JS ds μ Q) : ds.length = 2 := by obtain ⟨_, _, rfl, _⟩ := h; rfl
theorem IS (h : ez ds μ Q) : ds.length = 2 := by obtain ⟨_, _, rfl, _⟩ := h; rfl
theorem A1 (h : sP ds μ Q) : ds.length = 1 := by obtain ⟨_, rfl, _⟩ := h; rfl
theorem FL (h : y7 ds μ Q) : ds.length = 1 := by obtain ⟨_, rfl, _⟩ := h; rfl
theorem DY (h : lP ds μ Q) : ds.length = 2 := by obtain ⟨_, _, rfl, _⟩ := h; rfl
theorem Kk (h : zp ds μ Q) : ds.length = 1 := by obtain ⟨_, rfl, _⟩ := h; rfl
end
noncomputable def oF : DTS := mM
theorem xF {μ Qd ds} (h : iw ds μ Qd) : oF { nx := fun _ μ' => Qd (.v .none) μ', rt := Qd } (aX ["_law_thing"] ds) μ := yd h
structure QU (K : PySem.W.Frag) (mg : Str → Option Value) (x : Str) (g : Addr) (a b c : Int) : Prop where
  m : mg x = some (.ref g)
  l : ∃ (od : Option Addr) (n : Nat) (sl : Array (Option Value)) (t u v : Tok), K.lookup g = some ⟨.type "tuple", od, .seq #[.int a t, .int b u, .int c v] n, sl⟩
theorem ir {X : Cx} {x : Str} {g : Addr} {a b c : Int} {pos : Pos} (hg : Gl X x) (h : QU X.K X.mg x g a b c) (hd : (x == ("__debug__" : Str)) = false := by decide) : DE X (.Name x pos) (dC (.tuple [.int a, .int b, .int c])) := by
  obtain ⟨od, n, sl, t, u, v, e⟩ := h.l
  refine JK (u := .ref g) hg h.m rfl (fun μ H _ => Rp.tuple (xs := [.int a, .int b, .int c]) (.inr ⟨_, _, _, e, rfl, rfl, (by show 3 ≤ sizeLine; decide), .cons ⟨t, rfl⟩ (.cons ⟨u, rfl⟩ (.cons ⟨v, rfl⟩ .nil))⟩) (.cons (.int a) (.cons (.int b) (.cons (.int c) .nil)))) hd
theorem Ks {K : PySem.W.Frag} {H : Hp} {a : Addr} {ns : List Int} (hl : ns.length ≤ 63) (hT : Fc K H) (hS : SqL K H a (ns.map V.int)) : spD K zp [.ref a] H (fun v _ => v = .bl true) fun _ _ _ => False := by
  refine ⟨[.s ns], fun _ => none, fun d _ => d = .v (.bool true), ⟨fun a ds h => (by cases h), hT⟩, .cons ⟨a, rfl, hS, rfl⟩ .nil, ⟨ns, rfl, hl, fun _ => rfl⟩, fun d u μ' H' _ _ r q => ?_⟩
  subst q
  cases r
  rfl
open PySem PySem.Spec PyProof.Rows NM
section
variable {μ : Mu} {Q : DK} {ds : List D} {x y : N3}
theorem Pl (a b c : Int) : PyData.tuple [.int a, .int b, .int c] = dN ⟨a, b, c⟩ := rfl
theorem MF : aF (.v (dN x)) (.v (.int 0)) μ Q = Q (.v (.int x.a)) μ := by unfold dN; rw [CT]
theorem Nk : aF (.v (dN x)) (.v (.int 1)) μ Q = Q (.v (.int x.b)) μ := by unfold dN; rw [Eb]
theorem Mh : aF (.v (dN x)) (.v (.int 2)) μ Q = Q (.v (.int x.c)) μ := by unfold dN; rw [EY]
theorem eqN : PyData.eqv (dN x) (dN y) = decide (x = y) := by
  unfold dN
  rw [RN, Bool.eq_iff_iff]
  simp only [decide_eq_true_eq]
  exact ⟨fun h => N3.ext' h.1 h.2.1 h.2.2, fun h => by subst h; exact ⟨rfl, rfl, rfl⟩⟩
theorem NB {neg : Bool} : dD neg (.v (dN x)) (.v (dN y)) μ Q = Q (.v (.bool (neg ^^ decide (x = y)))) μ := by
  rw [Gk, eqN]
  exact propext ⟨fun h => h.2.2, fun h => ⟨rfl, rfl, h⟩⟩
theorem oO (h : Ok x) : isNum (dN x) = true := by
  have := h.c
  show (decide (1 ≤ x.c) && (g3 x.a x.b x.c == 1)) = true
  rw [h.g]
  simp; omega
theorem Kd : Few (dN x) := by simp [dN, Few]
theorem Nz {d a b c : Int} (h : aA d) (hc : 0 < c) : sg d (low a b c).a (low a b c).b = sg d a b := by
  obtain ⟨k, hk, hs, p1, p2, p3, _⟩ := kr a b (show c ≠ 0 by omega)
  have e := nX (a := (low a b c).a) (b := (low a b c).b) h (hs.mpr hc)
  rw [← p1, ← p2] at e
  exact e.symm
theorem Ar {d : Int} (h : aA d) (ox : Ok x) (oy : Ok y) : sg d (times d x y).a (times d x y).b = sg d x.a x.b * sg d y.a y.b := by
  unfold times
  rw [Nz h (Int.mul_pos ox.c oy.c), ED h]
theorem Of {d : Int} (h : aA d) (ox : Ok x) (oy : Ok y) : sg d (less x y).a (less x y).b = dif d x y := by
  unfold less dif
  rw [Nz h (Int.mul_pos ox.c oy.c)]
theorem Ld {d : Int} : dif d x x = 0 := by unfold dif; rw [Int.sub_self, Int.sub_self]; exact fk.mpr ⟨rfl, rfl⟩
theorem L1 {d a b : Int} : (sg d a b).natAbs < 2 ^ 64 := by have := jv d a b; omega
theorem GC {lo : Int} {n i : Nat} {x : PyData} (h : (sJ lo n)[i]? = some x) : x = .int (lo + i) ∧ i < n := by
  unfold sJ at h
  rw [List.getElem?_map] at h
  by_cases hi : i < n
  · rw [List.getElem?_range hi] at h
    cases h
    exact ⟨rfl, hi⟩
  · rw [List.getElem?_eq_none (by simpa using hi)] at h
    cases h
theorem wR {lo : Int} {n : Nat} : (sJ lo n).length = n := by unfold sJ; simp
theorem yR (a : Int) : Ok ⟨a, 0, 1⟩ := ⟨by show (0 : Int) < 1; decide, by unfold g3; simp⟩
end
open PySem PySem.Spec PyProof.Rows NM
local macro_rules | `(tactic| walk_at "rn") => `(tactic| simp only [↓Ib, ↓IY, ↓Ij, ↓IE, ↓IZ, ↓HR, ↓Hj, ↓Hz, ↓IM, ↓Iu, ↓DP, ↓q_c, ↓P7, ↓q_B, ↓QS, ↓M7, ↓NK, ↓Hy, ↓Lp, ↓Hs, ↓Jf, ↓Lv, ↓GY, ↓RF, ↓NG, ↓Hr, ↓MO, ↓LO, ↓Il, ↓MR, ↓LM, ↓Nu, ↓Lw, ↓MT, ↓Mi, ↓M5, ↓HY, ↓Ja, ↓Hu, ↓CT, ↓Eb, ↓EY, ↓GR, ↓Ck, ↓zg, ↓LU, ↓Nv, ↓Ly, ↓HS, ↓Io, ↓H0, ↓Hn, ↓I0, ↓P2, ↓zE, ↓Hb, ↓MX, ↓Nh, ↓LK, ↓PR, ↓HX, ↓HI, ↓Hx, ↓IA, ↓Mp, ↓QW, ↓Je, ↓IJ, ↓Cv, ↓EW, ↓NI, ↓NP, ↓Lm, ↓MM, ↓Ek, ↓GU, ↓DH, ↓Ig, ↓IV, ↓Nx, ↓M3, ↓Ie, ↓Jj, ↓Lk, ↓Jb, ↓MD, ↓DC, ↓GZ, ↓Lx, ↓LA, ↓Ha, ↓EV, ↓HW, ↓zx, ↓Dz, ↓zO, ↓zX, ↓D7, ↓zV, ↓AB, ↓AE, ↓Nn, Kx, ↓HU, ↓D9, GX, IT, MY, Mf, LG, Option.bind_none, Option.bind_some, Option.join_some, List.getElem?_cons_zero, List.getElem?_cons_succ, aX, Pl, MF, Nk, Mh, NB, wu, ye, B7, Gw, J1, List.map, List.append, List.replicate, List.length_cons, List.length_nil, Nat.reduceAdd, Nat.reduceSub, List.nil_append, List.cons_append, List.set_cons_zero, List.set_cons_succ, Option.map_some, ↓reduceIte, Bool.not_true, Bool.not_false, Bool.false_eq_true, Bool.true_eq_false, Bool.xor_false, Bool.false_xor])
def nB (d : Int) : PyData → Bool
  | .tuple [.int a, .int b, .int c] => isNum (.tuple [.int a, .int b, .int c]) && decide (sg d a b = 1)
  | _ => false
noncomputable def rg : DSp := fun ds μ Q => ∃ (d : Int) (t : PyData), ds = [.v (.int d), .v t] ∧ aA d ∧ Few t ∧ (∀ x, t = dN x → Bd 8900 x) ∧ Q (.v (.bool (nB d t))) μ
theorem CL {μ : Mu} {Q : DK} {ds : List D} (h : rg ds μ Q) : ds.length = 2 := by obtain ⟨_, _, rfl, _⟩ := h; rfl
noncomputable def gG : DSp := fun ds μ Q => ∃ (d : Int) (x : N3), ds = [.v (.int d), .v (dN x)] ∧ aA d ∧ Ok x ∧ Bd 8900 x ∧ sg d x.a x.b = 1 ∧ Q (.v .none) μ
theorem yI {μ : Mu} {Q : DK} {ds : List D} (h : gG ds μ Q) : ds.length = 2 := by obtain ⟨_, _, rfl, _⟩ := h; rfl
noncomputable def wz : DSp := fun ds μ Q => ∃ (d : Int) (x : N3), ds = [.v (.int d), .v (dN x)] ∧ aA d ∧ Ok x ∧ Bd 450 x ∧ sg d x.a x.b = 1 ∧ Q (.v (dN (bA d x))) μ
theorem FW {μ : Mu} {Q : DK} {ds : List D} (h : wz ds μ Q) : ds.length = 2 := by obtain ⟨_, _, rfl, _⟩ := h; rfl
noncomputable def nY : DSp := fun ds μ Q => ∃ (d : Int) (x : N3), ds = [.v (.int d), .v (dN x)] ∧ aA d ∧ Ok x ∧ norm d x ≠ 0 ∧ Bd 480 x ∧ Q (.v (dN (bA d x))) μ
theorem CU {μ : Mu} {Q : DK} {ds : List D} (h : nY ds μ Q) : ds.length = 2 := by obtain ⟨_, _, rfl, _⟩ := h; rfl
noncomputable def wm (a : Addr) (μ μ' : Mu) : Prop := Bag μ' a ∧ ∀ b, b ≠ a → ∀ ds, μ b = some ds → μ' b = some ds
structure KindsOk (d : Int) (ks : List N3) : Prop where
  l1 : 1 ≤ ks.length
  l3 : ks.length ≤ 3
  ok : ∀ k ∈ ks, Ok k ∧ Bd 60 k ∧ sg d k.a k.b = 1
noncomputable def vX : DSp := fun ds μ Q => ∃ (a : Addr) (d : Int), ds = [.m a, .v (.int d)] ∧ aA d ∧ Bag μ a ∧ ∀ ks μ', KindsOk d ks → wm a μ μ' → Q (.v (.tuple (ks.map dN))) μ'
theorem DV {μ : Mu} {Q : DK} {ds : List D} (h : vX ds μ Q) : ds.length = 2 := by obtain ⟨_, _, rfl, _⟩ := h; rfl
structure Fr0 (x : N3) : Prop where
  ok : Ok x
  b : x.b = 0
  a0 : 0 ≤ x.a
  a1 : x.a < 16384
  c1 : x.c < 16384
noncomputable def qh : DSp := fun ds μ Q => ∃ a : Addr, ds = [.m a] ∧ Bag μ a ∧ ∀ x μ', Fr0 x → 0 < x.a → Step a μ μ' → Q (.v (dN x)) μ'
theorem Gj {μ : Mu} {Q : DK} {ds : List D} (h : qh ds μ Q) : ds.length = 1 := by obtain ⟨_, rfl, _⟩ := h; rfl
noncomputable def wH : DSp := fun ds μ Q => ∃ (a : Addr) (d : Int) (ks : List N3), ds = [.m a, .v (.int d), .v (.tuple (ks.map dN))] ∧ aA d ∧ KindsOk d ks ∧ Bag μ a ∧ ∀ x μ', Ok x → Bd 230 x → sg d x.a x.b = 1 → Step a μ μ' → Q (.v (dN x)) μ'
theorem Dw {μ : Mu} {Q : DK} {ds : List D} (h : wH ds μ Q) : ds.length = 3 := by obtain ⟨_, _, _, rfl, _⟩ := h; rfl
noncomputable def iL : DTS :=
  (bI (ui (au rD (ab (af 1) ar)) (dOp (dD false) (au fg (ab (af 0) (ab (af 1) ar))) (dC (.int 1)))))
noncomputable def fI : DTS :=
  (cV (eZ (dB (au rg (ab (af 0) (ab (af 1) ar))))) xS bU)
noncomputable def gg : DTS :=
  (aO (bJ (au fB (ab (af 1) (ab (au eA (ab (af 1) ar)) ar))) (ay 2))
  (bI (au bF (ab (af 0) (ab (au bF (ab (af 0) (ab (af 2) (ab (af 2) ar)))) (ab (au bZ (ab (af 0) (ab (au bF (ab (af 0) (ab (af 1) (ab (au eA (ab (af 1) ar)) ar)))) ar))) ar))))))
noncomputable def nN : DTS :=
  (aO (bJ (B6 (ab (au lP (ab (af 0) (ab (af 1) ar))) ar)) (ay 2))
  (aO (vG (uq (ab (au ez (ab (af 0) (ab (dC (.int 3)) ar))) ar)) (ay 3) (aO (bJ (au ez (ab (af 0) (ab (dC (.int 6)) ar))) (ay 4))
  (aO (bJ (eC (ab (mD (dC (.int 1)) (au ez (ab (af 0) (ab (dC (.int 9)) ar)))) (ab (dC (.int 0)) (ab (mD (dC (.int 1)) (au ez (ab (af 0) (ab (dC (.int 9)) ar)))) ar)))) (ay 5))
  (aO (bJ (dOp aF (qS (ab (dOp aF (af 2) (dC (.int 0))) (ab (au bZ (ab (af 1) (ab (dOp aF (af 2) (dC (.int 0))) ar))) ar))) (yN (af 4) (dC (.int 2)))) (ay 6))
  (aO (cV (dB (dOp rGt (af 4) (dC (.int 3)))) (bJ (au lP (ab (af 0) (ab (af 1) ar))) (ay 6)) (cV (dB (dOp rGt (af 4) (dC (.int 1)))) (bJ (au bF (ab (af 1) (ab (af 6) (ab (au cY (ab (dOp aF (af 5) (dC (.int 0))) (ab (dOp aF (af 5) (dC (.int 1))) (ab (dOp aF (af 5) (dC (.int 2))) ar)))) ar)))) (ay 6)) bU))
  (qD (II (af 2) (af 6))))))))
  (bI (dCB pE (ab (af 2) ar)))))
noncomputable def jZ : DTS :=
  (aO (bJ (dOp aF (qS (ab (dC (.int 2)) (ab (dC (.int 9)) (ab (dC (.int 9)) (ab (dC (.int 9999)) ar))))) (au ez (ab (af 0) (ab (dC (.int 4)) ar)))) (ay 1))
  (bI (au cY (ab (mD (dC (.int 1)) (au ez (ab (af 0) (ab (af 1) ar)))) (ab (dC (.int 0)) (ab (mD (dC (.int 1)) (au ez (ab (af 0) (ab (af 1) ar)))) ar))))))
noncomputable def nC : DTS :=
  (aO (bJ (dOp aF (af 2) (au ez (ab (af 0) (ab (dCB fE (ab (af 2) ar)) ar)))) (ay 3))
  (aO (bJ (dOp aF (af 2) (au ez (ab (af 0) (ab (dCB fE (ab (af 2) ar)) ar)))) (ay 4))
  (aO (AZ 5 6 (ab (au qh (ab (af 0) ar)) (ab (au qh (ab (af 0) ar)) ar)))
  (aO (bJ (au ez (ab (af 0) (ab (dC (.int 10)) ar))) (ay 7))
  (aO (bJ (au bZ (ab (af 1) (ab (af 3) ar))) (ay 8))
  (aO (bJ (qS (ab (au lP (ab (af 0) (ab (af 1) ar))) (ab (au bF (ab (af 1) (ab (af 3) (ab (af 5) ar)))) (ab (au bF (ab (af 1) (ab (af 8) (ab (af 5) ar)))) (ab (au fB (ab (au bF (ab (af 1) (ab (af 3) (ab (af 5) ar)))) (ab (au bF (ab (af 1) (ab (af 8) (ab (af 6) ar)))) ar))) (ab (au fB (ab (af 3) (ab (au bF (ab (af 1) (ab (af 4) (ab (af 6) ar)))) ar))) (ab (af 5) (ab (au bF (ab (af 1) (ab (eC (ab (dC (.int 0)) (ab (dC (.int 1)) (ab (dC (.int 1)) ar)))) (ab (af 5) ar)))) (ab (au fB (ab (au bF (ab (af 1) (ab (af 8) (ab (af 5) ar)))) (ab (eC (ab (dC (.int 0)) (ab (dC (.int 1)) (ab (dC (.int 999999)) ar)))) ar))) (ab (au fB (ab (au bF (ab (af 1) (ab (af 3) (ab (af 5) ar)))) (ab (au bF (ab (af 1) (ab (af 6) (ab (eC (ab (dC (.int 1)) (ab (dC (.int 0)) (ab (dC (.int 99999)) ar)))) ar)))) ar))) (ab (au lP (ab (af 0) (ab (af 1) ar))) ar))))))))))) (ay 9))
  (bI (dOp aF (af 9) (af 7)))))))))
noncomputable def j5 : DTS :=
  (aO (qD (au gG (ab (af 0) (ab (af 1) ar))))
  (aO (bJ (au fB (ab (af 1) (ab (au eA (ab (af 1) ar)) ar))) (ay 2))
  (bI (au nK (ab (af 0) (ab (au bF (ab (af 0) (ab (af 2) (ab (af 2) ar)))) (ab (au bF (ab (af 0) (ab (af 1) (ab (au eA (ab (af 1) ar)) ar)))) ar)))))))
section
variable {μ : Mu} {Qd : DK} {ds : List D}
theorem CY {x y : Int} (h : 0 < x * y) (hy : 0 < y) : 0 < x := by
  rcases Int.lt_trichotomy 0 x with z | z | z
  · exact z
  · rw [← z, Int.zero_mul] at h; omega
  · have := Int.mul_neg_of_neg_of_pos z hy; omega
theorem Ac {d : Int} {x : N3} (ox : Ok x) : nB d (dN x) = decide (sg d x.a x.b = 1) := by
  show (isNum (dN x) && decide (sg d x.a x.b = 1)) = _
  rw [oO ox, Bool.true_and]
theorem Ae {d : Int} {t : PyData} (h : isNum t = false) : nB d t = false := by
  unfold nB
  split
  · rw [h, Bool.false_and]
  · rfl
theorem ID {t : PyData} (h : isNum t = true) : ∃ x : N3, t = dN x ∧ Ok x := by
  unfold isNum at h
  split at h
  · rename_i a b c
    simp only [Bool.and_eq_true, decide_eq_true_eq, beq_iff_eq] at h
    exact ⟨⟨a, b, c⟩, rfl, by show 0 < c; omega, h.2⟩
  · cases h
theorem uk (h : rg ds μ Qd) : iL { nx := fun _ μ' => Qd (.v .none) μ', rt := Qd } (aX ["d", "thing"] ds) μ := by
  obtain ⟨d, t, rfl, hd, ft, bt, q⟩ := h
  unfold iL
  walk_at "rn"
  refine ⟨t, rfl, ft, ?_⟩
  walk_at "rn"
  cases e : isNum t with
  | true =>
    walk_at "rn"
    obtain ⟨x, rfl, ox⟩ := ID e
    refine ⟨d, x, rfl, hd, bt x rfl, ?_⟩
    walk_at "rn"
    rw [Ac ox] at q
    exact q
  | false =>
    walk_at "rn"
    rw [Ae e] at q
    exact q
theorem nZ (h : gG ds μ Qd) : fI { nx := fun _ μ' => Qd (.v .none) μ', rt := Qd } (aX ["d", "thing"] ds) μ := by
  obtain ⟨d, x, rfl, hd, ox, bx, hx, q⟩ := h
  unfold fI
  walk_at "rn"
  refine ⟨d, dN x, rfl, hd, Kd, fun y e => ?_, ?_⟩
  · have : y = x := by
      simp only [dN, PyData.tuple.injEq, List.cons.injEq, PyData.int.injEq, and_true] at e
      exact N3.ext' e.1.symm e.2.1.symm e.2.2.symm
    rw [this]; exact bx
  · walk_at "rn"
    rw [Ac ox, hx]
    simp only [decide_true, Bool.not_true, Bool.false_eq_true, ↓reduceIte]
    exact q
theorem xq (h : wz ds μ Qd) : j5 { nx := fun _ μ' => Qd (.v .none) μ', rt := Qd } (aX ["d", "shape", "together"] ds) μ := by
  obtain ⟨d, x, rfl, hd, ox, bx, hx, q⟩ := h
  have s5 := jt hd.1 hd.2.1
  have omx := aD ox
  have bmx := dM bx
  have op := bM ox omx
  have bp := fj ox omx bx bmx
  have nx := aK hd ox hx
  have ot := ai (d := d) ox omx
  unfold j5
  walk_at "rn"
  refine ⟨d, x, rfl, hd, ox, bx.mono (by decide), hx, ?_⟩
  walk_at "rn"
  refine ⟨x, rfl, x, bH x, rfl, ox, omx, bx.mono (by decide), bmx.mono (by decide), ?_⟩
  walk_at "rn"
  refine ⟨d, _, _, rfl, s5, op, op, bp.mono (by decide), bp.mono (by decide), ?_⟩
  walk_at "rn"
  have hy : times d x (bH x) ≠ aw := fun e => by
    have := oZ hd ox nx
    rw [e] at this
    exact this (by unfold norm aw; simp)
  exact ⟨x, rfl, d, x, bH x, rfl, s5, ox, omx, bx.mono (by decide), bmx.mono (by decide), d, _, _, rfl, hd, ai op op, ot, hy, (aT s5 op op bp bp).mono (by decide), (aT s5 ox omx bx bmx).mono (by decide), q⟩
theorem QP {x y : N3} (e : dN x = dN y) : x = y := by
  simp only [dN, PyData.tuple.injEq, List.cons.injEq, PyData.int.injEq, and_true] at e
  exact N3.ext' e.1 e.2.1 e.2.2
theorem E9 {n : Nat} {d : Int} {x : N3} (s5 : Sz 5 d) (hd : aA d) (ox : Ok x) (nx : norm d x ≠ 0) (bx : Bd n x) : Bd ((n + n + 1) + (n + n + 1) + 6 + (2 * (n + n + 6) + 6) + 6) (bA d x) := by
  have omx := aD ox
  have bmx := dM bx
  have op := bM ox omx
  have bp := fj ox omx bx bmx
  have np := oZ hd ox nx
  exact aT s5 (ai op op) (aB np) (aT s5 op op bp bp) (bT s5 np (aT s5 ox omx bx bmx))
noncomputable def Ud (d : Int) (t : PyData) : Prop := Few t ∧ (∀ x, t = dN x → Bd 8900 x) ∧ nB d t = false
theorem To {d : Int} {t : PyData} (h : t ∈ JN) : Ud d t := by
  unfold JN at h
  simp only [List.mem_cons, List.not_mem_nil, or_false] at h
  rcases h with rfl | rfl | rfl | rfl | rfl | rfl | rfl | rfl | rfl | rfl | rfl | rfl | rfl | rfl | rfl | rfl | rfl | rfl | rfl | rfl
  all_goals
    refine ⟨by simp [Few], ?_, by first | rfl | exact Ae (by decide +kernel)⟩
    (intro x e
     simp only [dN, PyData.tuple.injEq, List.cons.injEq, PyData.int.injEq, and_true, reduceCtorEq, false_and, and_false, List.nil_eq] at e
     try (obtain ⟨e1, e2, e3⟩ := e
          exact ⟨Sz.of (by rw [← e1]; decide +kernel), Sz.of (by rw [← e2]; decide +kernel), Sz.of (by rw [← e3]; decide +kernel)⟩))
theorem wm.trans {a : Addr} {μ μ1 μ2 : Mu} (h : wm a μ μ1) (g : wm a μ1 μ2) : wm a μ μ2 := ⟨g.1, fun b n ds e => g.2 b n ds (h.2 b n ds e)⟩
theorem Step.w {a : Addr} {μ μ' : Mu} (h : Step a μ μ') : wm a μ μ' := ⟨h.1, fun b n ds e => by rw [h.2 b n]; exact e⟩
theorem qT (h : nY ds μ Qd) : gg { nx := fun _ μ' => Qd (.v .none) μ', rt := Qd } (aX ["_law_d", "_law_shape_here", "_law_both"] ds) μ := by
  obtain ⟨d, x, rfl, hd, ox, nx, bx, q⟩ := h
  have s5 := jt hd.1 hd.2.1
  have omx := aD ox
  have bmx := dM bx
  have op := bM ox omx
  have bp := fj ox omx bx bmx
  have ot := ai (d := d) ox omx
  have bt := aT s5 ox omx bx bmx
  have np := oZ hd ox nx
  unfold gg
  walk_at "rn"
  refine ⟨x, rfl, x, bH x, rfl, ox, omx, bx.mono (by decide), bmx.mono (by decide), ?_⟩
  walk_at "rn"
  refine ⟨d, _, _, rfl, s5, op, op, bp.mono (by decide), bp.mono (by decide), ?_⟩
  walk_at "rn"
  exact ⟨x, rfl, d, x, bH x, rfl, s5, ox, omx, bx.mono (by decide), bmx.mono (by decide), d, _, rfl, s5, np, bt.mono (by decide), d, _, _, rfl, s5, ai op op, aB np, (aT s5 op op bp bp).mono (by decide), (bT s5 np bt).mono (by decide), q⟩
noncomputable def GG (a p : Addr) (d : Int) (x : N3) (μ : Mu) (i : Nat) (ρ : Rho) (μ' : Mu) : Prop := ∃ (ks : List N3) (r3 r4 r5 r6 : Option D), ρ = [some (.m a), some (.v (.int d)), some (.m p), r3, r4, r5, r6] ∧ Bag μ' a ∧ (∀ b, b ≠ a → ∀ ds, μ b = some ds → μ' b = some ds) ∧ μ' p = some ((x :: ks).map dN) ∧ ks.length = i ∧ (∀ k ∈ x :: ks, Ok k ∧ Bd 60 k ∧ sg d k.a k.b = 1)
theorem Bj (h : vX ds μ Qd) : nN { nx := fun _ μ' => Qd (.v .none) μ', rt := Qd } (aX ["_law_bag_here", "_law_d", "_law_found", "_law_turn", "_law_way", "_law_part", "_law_kind"] ds) μ := by
  obtain ⟨a, d, rfl, hd, hb, q⟩ := h
  have s5 := jt hd.1 hd.2.1
  unfold nN
  walk_at "rn"
  refine ⟨a, d, rfl, hd, hb, fun x μ1 ox bx sx s1 => ?_⟩
  walk_at "rn"
  intro p hp
  have hap : a ≠ p := fun z => by obtain ⟨g, m, e, _⟩ := s1.1; rw [z, hp] at e; cases e
  have sb : Bag (bD μ1 p [dN x]) a := by obtain ⟨g, m, e, z⟩ := s1.1; exact ⟨g, m, by rw [bV hap]; exact e, z⟩
  rw [rP]
  walk_at "rn"
  refine ⟨a, 3, rfl, by decide, by decide, sb, fun n μ2 n0 n1 s2 => ?_⟩
  walk_at "rn"
  have keep2 : ∀ b, b ≠ a → ∀ ds, μ b = some ds → μ2 b = some ds := fun b hb' ds e => by
    have e1 := (s1.2 b hb').trans e
    have : b ≠ p := fun z => by rw [z, hp] at e1; cases e1
    rw [s2.2 b hb', bV this]; exact e1
  have hp2 : μ2 p = some ([x].map dN) := by rw [s2.2 p (fun z => hap z.symm)]; exact bL
  refine ⟨⟨by omega, by omega⟩, GG a p d x μ, ⟨[], _, _, _, _, rfl, s2.1, keep2, hp2, rfl, fun k hk => by rw [List.mem_singleton.mp hk]; exact ⟨ox, bx.mono (by decide), sx⟩⟩, ?_, ?_⟩
  · rintro i v ρ μ3 hv ⟨ks, r3, r4, r5, r6, rfl, hb3, kp, hpk, hl, hok⟩
    obtain ⟨rfl, hi⟩ := GC hv
    have hi2 : i < 2 := by omega
    walk_at "rn"
    refine ⟨a, 6, rfl, by decide, by decide, hb3, fun way μ4 w0 w1 s4 => ?_⟩
    walk_at "rn"
    refine ⟨a, 9, rfl, by decide, by decide, s4.1, fun t μ5 t0 t1 s5' => ?_⟩
    walk_at "rn"
    refine ⟨a, 9, rfl, by decide, by decide, s5'.1, fun u μ6 u0 u1 s6 => ?_⟩
    walk_at "rn"
    have s46 := s4.trans (s5'.trans s6)
    have hp6 : μ6 p = some (dN x :: ks.map dN) := by rw [s46.2 p (fun z => hap z.symm)]; exact hpk
    simp only [hp6]
    walk_at "rn"
    have nx := aK hd ox sx
    have ocx := aB nx
    have bcx := bT s5 nx bx
    refine ⟨d, x, rfl, s5, nx, bx.mono (by decide), ?_⟩
    walk_at "rn"
    obtain ⟨m0, m1⟩ := lQ way (show (0 : Int) < 2 by decide)
    obtain ⟨_, e1, k1, rfl, ok1, bk1, sk1⟩ := pick (P := fun v => ∃ k, v = dN k ∧ Ok k ∧ Bd 46 k ∧ sg d k.a k.b = 1) (xs := [dN x, dN (ao d x)]) m0 (by exact m1) (by
      intro v hv
      simp only [List.mem_cons, List.not_mem_nil, or_false] at hv
      rcases hv with rfl | rfl
      · exact ⟨_, rfl, ox, bx.mono (by decide), sx⟩
      · exact ⟨_, rfl, ocx, bcx.mono (by decide), dX hd ox sx⟩)
    rw [e1]
    refine ⟨by decide, ?_⟩
    walk_at "rn"
    have fin : ∀ (μ7 : Mu) (k : N3) (r3 r4 r5 : Option D), Step a μ6 μ7 → Ok k → Bd 60 k → sg d k.a k.b = 1 → II (af 2) (af 6) [some (.m a), some (.v (.int d)), some (.m p), r3, r4, r5, some (.v (dN k))] μ7 (fun _ μ' => GG a p d x μ (i + 1) [some (.m a), some (.v (.int d)), some (.m p), r3, r4, r5, some (.v (dN k))] μ') := fun μ7 k r3 r4 r5 s7 ok bk sk => by
      have s47 := s46.trans s7
      have hp7 : μ7 p = some (dN x :: ks.map dN) := by rw [s47.2 p (fun z => hap z.symm)]; exact hpk
      walk_at "rn"
      simp only [hp7]
      refine ⟨by simp; omega, ks ++ [k], _, _, _, _, rfl, ?_, fun b hb' ds e => ?_, ?_, by simp [hl], fun z hz => ?_⟩
      · obtain ⟨g, m, e, z⟩ := s47.1; exact ⟨g, m, by rw [bV hap]; exact e, z⟩
      · have h3 := kp b hb' ds e
        by_cases hbp : b = p
        · subst hbp
          exfalso
          have e1 := (s1.2 b hb').trans e
          rw [hp] at e1; cases e1
        · rw [bV hbp, s47.2 b hb']; exact h3
      · rw [bL]; simp
      · rcases List.mem_cons.mp hz with z' | z'
        · exact hok z (by rw [z']; exact List.mem_cons_self)
        · rcases List.mem_append.mp z' with z'' | z''
          · exact hok z (List.mem_cons_of_mem _ z'')
          · rw [List.mem_singleton.mp z'']; exact ⟨ok, bk, sk⟩
    by_cases c1 : 3 < way
    · rw [if_pos (by simpa using c1)]
      refine ⟨a, d, rfl, hd, s6.1, fun k μ7 ok bk sk s7 => ?_⟩
      have := fin μ7 k (some (.v (.int (0 + (i : Int))))) (some (.v (.int way))) (some (.v (dN ⟨1 + t, 0, 1 + u⟩))) s7 ok (bk.mono (by decide)) sk
      walk_at "rn"
      exact this
    · rw [if_neg (by simpa using c1)]
      by_cases c2 : 1 < way
      · rw [if_pos (by simpa using c2)]
        have un : 1 + u ≠ 0 := by omega
        have z4 : ∀ v : Int, 0 ≤ v → v < 9 → Sz 4 (1 + v) := fun v h1 h2 => Sz.of (by show (1 + v).natAbs < 16; omega)
        have op := iP (1 + t) 0 un
        have bp : Bd 4 (low (1 + t) 0 (1 + u)) := lR un (z4 t t0 t1) (Sz.of (by show (0 : Int).natAbs < 16; decide)) (z4 u u0 u1)
        have hp' : sg d (low (1 + t) 0 (1 + u)).a (low (1 + t) 0 (1 + u)).b = 1 := by
          rw [JW hd (by omega)]
          unfold sg
          rw [if_neg (by omega), if_pos (by omega)]
        refine ⟨_, _, _, rfl, un, (z4 u u0 u1).mono (by decide), d, k1, _, rfl, s5, ok1, op, bk1.mono (by decide), bp.mono (by decide), ?_⟩
        exact fin μ6 _ _ _ _ (Step.refl s6.1) (ai ok1 op) ((aT s5 ok1 op bk1 bp).mono (by decide)) (by rw [Ar hd ok1 op, sk1, hp']; rfl)
      · rw [if_neg (by simpa using c2)]
        exact fin μ6 k1 _ _ _ (Step.refl s6.1) ok1 (bk1.mono (by decide)) sk1
  · rintro ρ μ3 ⟨ks, r3, r4, r5, r6, rfl, hb3, kp, hpk, hl, hok⟩
    rw [wR] at hl
    walk_at "rn"
    simp only [hpk]
    exact q (x :: ks) μ3 ⟨by simp, by simp; omega, hok⟩ ⟨hb3, kp⟩
theorem wO (h : qh ds μ Qd) : jZ { nx := fun _ μ' => Qd (.v .none) μ', rt := Qd } (aX ["_law_bag_here", "_law_wide"] ds) μ := by
  obtain ⟨a, rfl, hb, q⟩ := h
  unfold jZ
  walk_at "rn"
  refine ⟨a, 4, rfl, by decide, by decide, hb, fun r μ1 r0 r1 s1 => ?_⟩
  walk_at "rn"
  obtain ⟨_, e1, w, rfl, w0, w1⟩ := pick (P := fun v => ∃ w : Int, v = .int w ∧ 2 ≤ w ∧ w ≤ 9999) (xs := [.int 2, .int 9, .int 9, .int 9999]) r0 (by exact r1) (by
    intro v hv
    simp only [List.mem_cons, List.not_mem_nil, or_false] at hv
    rcases hv with rfl | rfl | rfl | rfl <;> exact ⟨_, rfl, by decide, by decide⟩)
  rw [e1]
  walk_at "rn"
  refine ⟨a, w, rfl, by omega, by omega, s1.1, fun t μ2 t0 t1 s2 => ?_⟩
  walk_at "rn"
  refine ⟨a, w, rfl, by omega, by omega, s2.1, fun u μ3 u0 u1 s3 => ?_⟩
  walk_at "rn"
  have un : 1 + u ≠ 0 := by omega
  have z : ∀ v : Int, 0 ≤ v → v < w → Sz 14 (1 + v) := fun v h1 h2 => Sz.of (by show (1 + v).natAbs < 16384; omega)
  refine ⟨_, _, _, rfl, un, (z u u0 u1).mono (by decide), q _ μ3 ?_ ?_ (s1.trans (s2.trans s3))⟩
  · have r := jh (a := 1 + t) (b := 0) un
    have ok := iP (1 + t) 0 un
    obtain ⟨l1, l2, l3⟩ := Ll (1 + t) 0 un
    have hp : 0 < (low (1 + t) 0 (1 + u)).a := by
      have e := r.a
      have hc := ok.c
      have : 0 < (low (1 + t) 0 (1 + u)).a * (1 + u) := by rw [e]; exact Int.mul_pos (by omega) hc
      exact CY this (by omega)
    exact ⟨ok, (by have := l2; omega), by omega, by omega, by have := ok.c; omega⟩
  · have r := jh (a := 1 + t) (b := 0) un
    have ok := iP (1 + t) 0 un
    have e := r.a
    have hc := ok.c
    have : 0 < (low (1 + t) 0 (1 + u)).a * (1 + u) := by rw [e]; exact Int.mul_pos (by omega) hc
    exact CY this (by omega)
theorem Fr0.bd {x : N3} (h : Fr0 x) : Bd 14 x := by
  have hc := h.ok.c
  have a0 := h.a0
  have a1 := h.a1
  have c1 := h.c1
  exact ⟨Sz.of (by show x.a.natAbs < 16384; omega), by rw [h.b]; exact Sz.of (by show (0 : Int).natAbs < 16384; decide), Sz.of (by show x.c.natAbs < 16384; omega)⟩
theorem Me {d : Int} {ks : List N3} (ho : KindsOk d ks) {r : Int} (r0 : 0 ≤ r) (r1 : r < (ks.length : Nat)) : ∃ k ∈ ks, atI (ks.map dN) r = some (dN k) := by
  obtain ⟨v, e, m⟩ := yQ (xs := ks.map dN) r0 (by rw [List.length_map]; exact r1)
  obtain ⟨k, hk, rfl⟩ := List.mem_map.mp m
  exact ⟨k, hk, e⟩
theorem Am {d : Int} {x y : N3} (hd : aA d) (ox : Ok x) (oy : Ok y) (hx : sg d x.a x.b = 1) (hy : sg d y.a y.b = 1) : sg d (plus x y).a (plus x y).b = 1 := OB.pos hd (bM ox oy) (KP ox oy) hx hy
theorem BG (h : wH ds μ Qd) : nC { nx := fun _ μ' => Qd (.v .none) μ', rt := Qd } (aX ["_law_bag_here", "_law_d", "_law_kinds_here", "_law_kind", "_law_other", "_law_u", "_law_v", "_law_way", "_law_turned_kind", "_law_some"] ds) μ := by
  obtain ⟨a, d, ks, rfl, hd, ho, hb, q⟩ := h
  have s5 := jt hd.1 hd.2.1
  have l1 := ho.l1
  have l3 := ho.l3
  unfold nC
  walk_at "rn"
  rw [List.length_map]
  refine ⟨a, _, rfl, by omega, by omega, hb, fun r μ1 r0 r1 s1 => ?_⟩
  obtain ⟨k, hk, e1⟩ := Me ho r0 r1
  walk_at "rn"
  rw [e1]
  obtain ⟨ok, bk, sk⟩ := ho.ok k hk
  walk_at "rn"
  refine ⟨a, _, rfl, by omega, by omega, s1.1, fun r' μ2 r0' r1' s2 => ?_⟩
  obtain ⟨o, ho', e2⟩ := Me ho r0' r1'
  walk_at "rn"
  rw [e2]
  obtain ⟨oo, bo, so⟩ := ho.ok o ho'
  walk_at "rn"
  refine ⟨a, rfl, s2.1, fun u μ3 fu u0 s3 => ?_⟩
  walk_at "rn"
  refine ⟨a, rfl, s3.1, fun v μ4 fv v0 s4 => ?_⟩
  walk_at "rn"
  refine ⟨a, 10, rfl, by decide, by decide, s4.1, fun w μ5 w0 w1 s5' => ?_⟩
  walk_at "rn"
  have nk := aK hd ok sk
  refine ⟨d, k, rfl, s5, nk, bk.mono (by decide), ?_⟩
  walk_at "rn"
  refine ⟨a, d, rfl, hd, s5'.1, fun x μ6 ox bx sx s6 => ?_⟩
  have oc := aB nk
  have bc := bT s5 nk bk
  have sc := dX hd ok sk
  have bu := fu.bd
  have bv := fv.bd
  have su : sg d u.a u.b = 1 := JJ u0 fu.b
  have sv : sg d v.a v.b = 1 := JJ v0 fv.b
  have o2 := ai (d := d) ok fu.ok
  have b2 := aT s5 ok fu.ok bk bu
  have g2 : sg d (times d k u).a (times d k u).b = 1 := by rw [cb hd ok fu.ok, sk, su]; rfl
  have o3 := ai (d := d) oc fu.ok
  have b3 := aT s5 oc fu.ok bc bu
  have g3 : sg d (times d (ao d k) u).a (times d (ao d k) u).b = 1 := by rw [cb hd oc fu.ok, sc, su]; rfl
  have o4 := ai (d := d) oc fv.ok
  have b4 := aT s5 oc fv.ok bc bv
  have g4 : sg d (times d (ao d k) v).a (times d (ao d k) v).b = 1 := by rw [cb hd oc fv.ok, sc, sv]; rfl
  have o5 := ai (d := d) oo fv.ok
  have b5 := aT s5 oo fv.ok bo bv
  have g5 : sg d (times d o v).a (times d o v).b = 1 := by rw [cb hd oo fv.ok, so, sv]; rfl
  have or' : Ok ⟨0, 1, 1⟩ := ⟨by decide, by decide⟩
  have br : Bd 2 ⟨0, 1, 1⟩ := ⟨Sz.of (by decide), Sz.of (by decide), Sz.of (by decide)⟩
  have gr : sg d (⟨0, 1, 1⟩ : N3).a (⟨0, 1, 1⟩ : N3).b = 1 := by show sg d 0 1 = 1; rw [EB]; rfl
  have ot : Ok ⟨0, 1, 999999⟩ := ⟨by decide, by decide⟩
  have bt : Bd 20 ⟨0, 1, 999999⟩ := ⟨Sz.of (by decide), Sz.of (by decide), Sz.of (by decide)⟩
  have gt : sg d (⟨0, 1, 999999⟩ : N3).a (⟨0, 1, 999999⟩ : N3).b = 1 := by show sg d 0 1 = 1; rw [EB]; rfl
  have oh : Ok ⟨1, 0, 99999⟩ := ⟨by decide, by decide⟩
  have bh : Bd 20 ⟨1, 0, 99999⟩ := ⟨Sz.of (by decide), Sz.of (by decide), Sz.of (by decide)⟩
  have gh : sg d (⟨1, 0, 99999⟩ : N3).a (⟨1, 0, 99999⟩ : N3).b = 1 := by show sg d 1 0 = 1; rw [kG]; rfl
  have o6 := ai (d := d) or' fu.ok
  have b6 := aT s5 or' fu.ok br bu
  have g6 : sg d (times d ⟨0, 1, 1⟩ u).a (times d ⟨0, 1, 1⟩ u).b = 1 := by rw [cb hd or' fu.ok, gr, su]; rfl
  have o7 := ai (d := d) fv.ok oh
  have b7 := aT s5 fv.ok oh bv bh
  have g7 : sg d (times d v ⟨1, 0, 99999⟩).a (times d v ⟨1, 0, 99999⟩).b = 1 := by rw [cb hd fv.ok oh, sv, gh]; rfl
  refine ⟨d, k, u, rfl, s5, ok, fu.ok, bk.mono (by decide), bu.mono (by decide), d, _, u, rfl, s5, oc, fu.ok, bc.mono (by decide), bu.mono (by decide), d, k, u, rfl, s5, ok, fu.ok, bk.mono (by decide), bu.mono (by decide), d, _, v, rfl, s5, oc, fv.ok, bc.mono (by decide), bv.mono (by decide), _, _, rfl, o2, o4, b2.mono (by decide), b4.mono (by decide), d, o, v, rfl, s5, oo, fv.ok, bo.mono (by decide), bv.mono (by decide), k, _, rfl, ok, o5, bk.mono (by decide), b5.mono (by decide), d, ⟨0, 1, 1⟩, u, rfl, s5, or', fu.ok, br.mono (by decide), bu.mono (by decide), d, _, u, rfl, s5, oc, fu.ok, bc.mono (by decide), bu.mono (by decide), _, ⟨0, 1, 999999⟩, rfl, o3, ot, b3.mono (by decide), bt.mono (by decide), d, k, u, rfl, s5, ok, fu.ok, bk.mono (by decide), bu.mono (by decide), d, v, ⟨1, 0, 99999⟩, rfl, s5, fv.ok, oh, bv.mono (by decide), bh.mono (by decide), _, _, rfl, o2, o7, b2.mono (by decide), b7.mono (by decide), a, d, rfl, hd, s6.1, fun y μ7 oy by' sy s7 => ?_⟩
  walk_at "rn"
  have hst := s1.trans (s2.trans (s3.trans (s4.trans (s5'.trans (s6.trans s7)))))
  obtain ⟨_, e, z, rfl, oz, bz, sz⟩ := pick (P := fun t => ∃ z, t = dN z ∧ Ok z ∧ Bd 230 z ∧ sg d z.a z.b = 1) (xs := [dN x, dN (times d k u), dN (times d (ao d k) u), dN (plus (times d k u) (times d (ao d k) v)), dN (plus k (times d o v)), dN u, dN (times d ⟨0, 1, 1⟩ u), dN (plus (times d (ao d k) u) ⟨0, 1, 999999⟩), dN (plus (times d k u) (times d v ⟨1, 0, 99999⟩)), dN y]) w0 (by exact w1) (by
    intro t ht
    simp only [List.mem_cons, List.not_mem_nil, or_false] at ht
    rcases ht with rfl | rfl | rfl | rfl | rfl | rfl | rfl | rfl | rfl | rfl
    · exact ⟨_, rfl, ox, bx.mono (by decide), sx⟩
    · exact ⟨_, rfl, o2, b2.mono (by decide), g2⟩
    · exact ⟨_, rfl, o3, b3.mono (by decide), g3⟩
    · exact ⟨_, rfl, bM o2 o4, (fj o2 o4 b2 b4).mono (by decide), Am hd o2 o4 g2 g4⟩
    · exact ⟨_, rfl, bM ok o5, (fj ok o5 bk b5).mono (by decide), Am hd ok o5 sk g5⟩
    · exact ⟨_, rfl, fu.ok, bu.mono (by decide), su⟩
    · exact ⟨_, rfl, o6, b6.mono (by decide), g6⟩
    · exact ⟨_, rfl, bM o3 ot, (fj o3 ot b3 bt).mono (by decide), Am hd o3 ot g3 gt⟩
    · exact ⟨_, rfl, bM o2 o7, (fj o2 o7 b2 b7).mono (by decide), Am hd o2 o7 g2 g7⟩
    · exact ⟨_, rfl, oy, by'.mono (by decide), sy⟩)
  rw [e]
  exact q z _ oz bz sz hst
end
open PySem PySem.Spec PyProof.Rows NM
def AN (d : Int) (f g s : N3) : N3 := low ((shA d f s).b * (shA d f g).c) 0 ((shA d f s).c * (shA d f g).b)
def Ke (d : Int) (f g s : N3) : N3 := less (shA d f s) (times d (AN d f g s) (shA d f g))
noncomputable def sH : DSp := fun ds μ Q => ∃ (d : Int) (f g s : N3), ds = [.v (.int d), .v (dN f), .v (dN g), .v (dN s)] ∧ aA d ∧ Ok f ∧ f ≠ aw ∧ Ok g ∧ Ok s ∧ (∃ n m p : Nat, Bd n f ∧ Bd m g ∧ Bd p s ∧ n ≤ 2000 ∧ m ≤ 2000 ∧ p ≤ 2000 ∧ (p + (2 * n + 12)) + 2 * (m + (2 * n + 12)) + 6 ≤ 4300) ∧ (shA d f g).b ≠ 0 ∧ Q (.v (.tuple [dN (Ke d f g s), dN (AN d f g s)])) μ
theorem Ez {μ : Mu} {Q : DK} {ds : List D} (h : sH ds μ Q) : ds.length = 4 := by obtain ⟨_, _, _, _, rfl, _⟩ := h; rfl
noncomputable def tf : DSp := fun ds μ Q => ∃ (d : Int) (x : N3), ds = [.v (.int d), .v (dN x)] ∧ aA d ∧ Bd 8900 x ∧ Q (.v (.bool (cX d x))) μ
theorem By {μ : Mu} {Q : DK} {ds : List D} (h : tf ds μ Q) : ds.length = 2 := by obtain ⟨_, _, rfl, _⟩ := h; rfl
def lT (x : N3) (w : Int) : N3 := if 0 < w then less x (bH x) else plus x (bH x)
noncomputable def zy : DSp := fun ds μ Q => ∃ (x : N3) (w : Int), ds = [.v (dN x), .v (.int w)] ∧ Ok x ∧ Bd 2100 x ∧ Q (.v (dN (lT x w))) μ
theorem Ik {μ : Mu} {Q : DK} {ds : List D} (h : zy ds μ Q) : ds.length = 2 := by obtain ⟨_, _, rfl, _⟩ := h; rfl
def aJ (d : Int) (s : N3) (w : Int) : Int := sg d (lT s w).a (lT s w).b
def bLast (d : Int) (s : N3) (w : Int) : N3 := times d (times d ⟨aJ d s w, 0, 2⟩ (lT s w)) (ao d (bH s))
def nc (d : Int) (k : N3) (w : Int) : N3 := times d (times d (lT k w) (lT k w)) (ao d (times d ⟨4, 0, 1⟩ (times d k (bH k))))
def aU (d : Int) (k : N3) : Int := sg d (bH k).a (bH k).b
def Ho (d : Int) (k s : N3) : PyData :=
  if aU d s = aU d k then .tuple [dN one, .tuple [dN (times d (nc d k (aU d k)) (ao d (bLast d s (aU d k)))), dN ⟨aU d k * aJ d s (aU d k), 0, 1⟩, dN ⟨-aJ d s (aU d k), 0, 1⟩, dN (bLast d s (aU d k))]]
  else .tuple [dN one, .tuple [dN aw, dN aw, dN aw, dN ⟨aU d k, 0, 1⟩]]
def N5 (d : Int) (k s : N3) : PyData := if fT d k s = true then .tuple [.str "mixture", dN (vb d k s), dN (uD d k s)] else .tuple [.str "bar", Ho d k s]
structure BdM (d : Int) (k s : N3) : Prop where
  big : Bd 1300 s
  low : fT d k s = false → Bd 1000 s
theorem BdM.of {d : Int} {k s : N3} {n : Nat} (h : Bd n s) (l : n ≤ 1000) : BdM d k s := ⟨h.mono (by omega), fun _ => h.mono l⟩
noncomputable def vD : DSp := fun ds μ Q => ∃ (d : Int) (k s : N3), ds = [.v (.int d), .v (dN k), .v (dN s)] ∧ aA d ∧ Ok k ∧ Bd 140 k ∧ sg d k.a k.b = 1 ∧ Ok s ∧ Bd 1000 s ∧ sg d s.a s.b = 1 ∧ fT d k s = false ∧ Q (.v (Ho d k s)) μ
theorem Ee {μ : Mu} {Q : DK} {ds : List D} (h : vD ds μ Q) : ds.length = 3 := by obtain ⟨_, _, _, rfl, _⟩ := h; rfl
noncomputable def tF : DSp := fun ds μ Q => ∃ (d : Int) (k s : N3), ds = [.v (.int d), .v (dN k), .v (dN s)] ∧ aA d ∧ Ok k ∧ Bd 140 k ∧ sg d k.a k.b = 1 ∧ Ok s ∧ BdM d k s ∧ sg d s.a s.b = 1 ∧ Q (.v (N5 d k s)) μ
theorem BS {μ : Mu} {Q : DK} {ds : List D} (h : tF ds μ Q) : ds.length = 3 := by obtain ⟨_, _, _, rfl, _⟩ := h; rfl
noncomputable def qv : DTS :=
  (aO (bJ (au nK (ab (af 0) (ab (af 3) (ab (af 1) ar)))) (ay 4))
  (aO (bJ (au nK (ab (af 0) (ab (af 2) (ab (af 1) ar)))) (ay 5))
  (aO (bJ (au cY (ab (cM (dOp aF (af 4) (dC (.int 1))) (dOp aF (af 5) (dC (.int 2)))) (ab (dC (.int 0)) (ab (cM (dOp aF (af 4) (dC (.int 2))) (dOp aF (af 5) (dC (.int 1)))) ar)))) (ay 6))
  (aO (bJ (au zJ (ab (af 4) (ab (au bF (ab (af 0) (ab (af 6) (ab (af 5) ar)))) ar))) (ay 7))
  (bI (eC (ab (af 7) (ab (af 6) ar))))))))
noncomputable def sD : DTS :=
  (bI (ui (dOp (dD false) (dOp aF (af 1) (dC (.int 1))) (dC (.int 0))) (dOp rGe (au fg (ab (af 0) (ab (af 1) ar))) (dC (.int 0)))))
noncomputable def Es : DTS :=
  (bI (dIf (dB (dOp rGt (af 1) (dC (.int 0)))) (au zJ (ab (af 0) (ab (au eA (ab (af 0) ar)) ar))) (au fB (ab (af 0) (ab (au eA (ab (af 0) ar)) ar)))))
noncomputable def ve : DTS :=
  (aO (bJ (au fg (ab (af 0) (ab (au eA (ab (af 1) ar)) ar))) (ay 3))
  (aO (cV (dB (dOp (dD true) (au fg (ab (af 0) (ab (au eA (ab (af 2) ar)) ar))) (af 3))) (bI (eC (ab (dC (.tuple [.int 1, .int 0, .int 1])) (ab (eC (ab (dC (.tuple [.int 0, .int 0, .int 1])) (ab (dC (.tuple [.int 0, .int 0, .int 1])) (ab (dC (.tuple [.int 0, .int 0, .int 1])) (ab (eC (ab (af 3) (ab (dC (.int 0)) (ab (dC (.int 1)) ar)))) ar))))) ar)))) bU)
  (aO (bJ (au zy (ab (af 1) (ab (af 3) ar))) (ay 4))
  (aO (bJ (au zy (ab (af 2) (ab (af 3) ar))) (ay 5))
  (aO (bJ (au fg (ab (af 0) (ab (af 5) ar))) (ay 6))
  (aO (bJ (au nK (ab (af 0) (ab (au bF (ab (af 0) (ab (eC (ab (af 6) (ab (dC (.int 0)) (ab (dC (.int 2)) ar)))) (ab (af 5) ar)))) (ab (au eA (ab (af 2) ar)) ar)))) (ay 7))
  (aO (bJ (au nK (ab (af 0) (ab (au bF (ab (af 0) (ab (af 4) (ab (af 4) ar)))) (ab (au bF (ab (af 0) (ab (eC (ab (dC (.int 4)) (ab (dC (.int 0)) (ab (dC (.int 1)) ar)))) (ab (au bF (ab (af 0) (ab (af 1) (ab (au eA (ab (af 1) ar)) ar)))) ar)))) ar)))) (ay 8))
  (bI (eC (ab (dC (.tuple [.int 1, .int 0, .int 1])) (ab (eC (ab (au nK (ab (af 0) (ab (af 8) (ab (af 7) ar)))) (ab (eC (ab (cM (af 3) (af 6)) (ab (dC (.int 0)) (ab (dC (.int 1)) ar)))) (ab (eC (ab (yL (af 6)) (ab (dC (.int 0)) (ab (dC (.int 1)) ar)))) (ab (af 7) ar))))) ar)))))))))))
noncomputable def nP : DTS :=
  (aO (qD (au gG (ab (af 0) (ab (af 1) ar))))
  (aO (qD (au gG (ab (af 0) (ab (af 2) ar))))
  (aO (cV (dB (dOp (dD false) (dOp aF (au bF (ab (af 0) (ab (af 1) (ab (af 1) ar)))) (dC (.int 1))) (dC (.int 0)))) (bJ (eC (ab (au nK (ab (af 0) (ab (af 2) (ab (af 1) ar)))) (ab (dC (.tuple [.int 0, .int 0, .int 1])) ar))) (ay 3)) (bJ (au sH (ab (af 0) (ab (af 1) (ab (au bZ (ab (af 0) (ab (af 1) ar))) (ab (af 2) ar))))) (ay 3)))
  (aO (cV (dB (dCB xW (ab (vJ [none, some 0] (oj (af 3)) (ay 0) qM (au tf (ab (af 1) (ab (af 0) ar)))) ar))) (bI (eC (ab (dC (.str "mixture")) (ab (dOp aF (af 3) (dC (.int 0))) (ab (dOp aF (af 3) (dC (.int 1))) ar))))) bU)
  (bI (eC (ab (dC (.str "bar")) (ab (au vD (ab (af 0) (ab (af 1) (ab (af 2) ar)))) ar))))))))
section
variable {μ : Mu} {Qd : DK} {ds : List D}
theorem eL {d : Int} {x : N3} (h : sg d x.a x.b = 1) : x ≠ aw := fun e => by subst e; have : sg d aw.a aw.b = 0 := fk.mpr ⟨rfl, rfl⟩; omega
theorem EE (h : sH ds μ Qd) : qv { nx := fun _ μ' => Qd (.v .none) μ', rt := Qd } (aX ["d", "first", "second", "shape", "whole", "part", "of_second", "of_first"] ds) μ := by
  obtain ⟨d, f, g, s, rfl, hd, of, nf, og, os, ⟨n, m, p, bf, bg, bs, ln, lm, lp, lt⟩, hp, q⟩ := h
  have s5 := jt hd.1 hd.2.1
  have hn := hd.norm of nf
  have oa : Ok (shA d f s) := ik os hn
  have op : Ok (shA d f g) := ik og hn
  have ba : Bd (p + (2 * n + 6) + 6) (shA d f s) := aT s5 os (aB hn) bs (bT s5 hn bf)
  have bp : Bd (m + (2 * n + 6) + 6) (shA d f g) := aT s5 og (aB hn) bg (bT s5 hn bf)
  unfold qv
  walk_at "rn"
  refine ⟨d, s, f, rfl, hd, os, of, nf, bs.mono (by omega), bf.mono (by omega), ?_⟩
  walk_at "rn"
  refine ⟨d, g, f, rfl, hd, og, of, nf, bg.mono (by omega), bf.mono (by omega), ?_⟩
  walk_at "rn"
  have hc : (shA d f s).c * (shA d f g).b ≠ 0 := Int.mul_ne_zero oa.cn hp
  have sc := ba.c.mul bp.b
  have sb := ba.b.mul bp.c
  refine ⟨hZ ba.b bp.c (by omega), hZ ba.c bp.b (by omega), _, _, _, rfl, hc, sc.mono (by omega), ?_⟩
  have ov : Ok (AN d f g s) := iP _ _ hc
  have bv : Bd (p + (2 * n + 6) + 6 + (m + (2 * n + 6) + 6)) (AN d f g s) := lR hc sb (sz0) sc
  walk_at "rn"
  refine ⟨d, AN d f g s, shA d f g, rfl, s5, ov, op, bv.mono (by omega), bp.mono (by omega), shA d f s, _, rfl, oa, ai ov op, ba.mono (by omega), (aT s5 ov op bv bp).mono (by omega), ?_⟩
  exact q
theorem FE (h : tf ds μ Qd) : sD { nx := fun _ μ' => Qd (.v .none) μ', rt := Qd } (aX ["d", "x"] ds) μ := by
  obtain ⟨d, x, rfl, hd, bx, q⟩ := h
  unfold sD
  walk_at "rn"
  unfold cX at q
  cases e : decide (x.b = 0) with
  | true =>
    rw [e, Bool.true_and] at q
    exact ⟨d, x, rfl, hd, bx, q⟩
  | false =>
    rw [e, Bool.false_and] at q
    exact q
theorem OL (h : zy ds μ Qd) : Es { nx := fun _ μ' => Qd (.v .none) μ', rt := Qd } (aX ["shape", "way"] ds) μ := by
  obtain ⟨x, w, rfl, ox, bx, q⟩ := h
  unfold Es
  walk_at "rn"
  unfold lT at q
  by_cases hw : 0 < w
  · rw [if_pos hw] at q
    rw [if_pos (by simpa using hw)]
    exact ⟨x, rfl, x, bH x, rfl, ox, aD ox, bx.mono (by decide), (dM bx).mono (by decide), q⟩
  · rw [if_neg hw] at q
    rw [if_neg (by simpa using hw)]
    exact ⟨x, rfl, x, bH x, rfl, ox, aD ox, bx.mono (by decide), (dM bx).mono (by decide), q⟩
theorem cA {x : N3} {w : Int} (ox : Ok x) : Ok (lT x w) := by
  unfold lT
  split
  · exact lH ox (aD ox)
  · exact bM ox (aD ox)
theorem _root_.NM.Rep.bd {x : N3} {A B C : Int} {n : Nat} (ox : Ok x) (r : Rep x A B C) (ha : Sz n A) (hb : Sz n B) (hc : Sz n C) : Bd n x := by
  have e : x = NM.low A B C := ox.QB r.c r.a r.b
  rw [e]
  exact lR r.c ha hb hc
theorem MV {n : Nat} {i : Int} (h : Sz n i) : Sz (n + 1) (2 * i) := by
  have := h.add h
  rw [show i + i = 2 * i by omega] at this
  exact this
theorem Jr {x : N3} {w : Int} {n : Nat} (ox : Ok x) (bx : Bd n x) : Bd (n + 1) (lT x w) := by
  unfold lT
  split
  · have r := Rep.less ox (aD ox) (aq ox) (aq (aD ox))
    have r2 : Rep (less x (bH x)) 0 (2 * x.b) x.c := r.conv ox.cn (by show (x.a * x.c - x.a * x.c) * x.c = 0 * _; grind) (by show (x.b * x.c - -x.b * x.c) * x.c = 2 * x.b * (x.c * x.c); grind)
    exact r2.bd (lH ox (aD ox)) sz0 (MV bx.b) (bx.c.mono (by omega))
  · have r := Rep.plus ox (aD ox) (aq ox) (aq (aD ox))
    have r2 : Rep (plus x (bH x)) (2 * x.a) 0 x.c := r.conv ox.cn (by show (x.a * x.c + x.a * x.c) * x.c = 2 * x.a * (x.c * x.c); grind) (by show (x.b * x.c + -x.b * x.c) * x.c = 0 * _; grind)
    exact r2.bd (bM ox (aD ox)) (MV bx.a) sz0 (bx.c.mono (by omega))
theorem Rb {d : Int} {k : N3} (hd : aA d) (ok : Ok k) (hk : sg d k.a k.b = 1) : aU d k = sg d (norm d k) 0 := C0 hd ok hk
theorem iS {d : Int} {k : N3} (hd : aA d) (ok : Ok k) (hk : sg d k.a k.b = 1) : (aU d k = 1 ∧ 0 < norm d k) ∨ (aU d k = -1 ∧ norm d k < 0) := by
  have hn := aK hd ok hk
  rw [Rb hd ok hk, kG, if_neg hn]
  by_cases h : 0 < norm d k
  · rw [if_pos h]; exact .inl ⟨rfl, h⟩
  · rw [if_neg h]; exact .inr ⟨rfl, by omega⟩
theorem JP {d : Int} {k s : N3} (hd : aA d) (ok : Ok k) (hk : sg d k.a k.b = 1) (os : Ok s) (hs : sg d s.a s.b = 1) (hm : fT d k s = false) (hw : aU d s = aU d k) : lT s (aU d k) ≠ aw := fun e => by
  have hl : ¬ Lay d k s := fun z => by rw [(sZ hd ok os hk hs).mpr z] at hm; cases hm
  rcases iS hd ok hk with ⟨w1, n1⟩ | ⟨w1, n1⟩ <;> rcases iS hd os hs with ⟨w2, n2⟩ | ⟨w2, n2⟩
  · rw [w1] at e
    unfold lT at e
    rw [if_pos (by decide)] at e
    have r := Rep.less os (aD os) (aq os) (aq (aD os))
    rw [e] at r
    have rb := r.b
    have h0 : s.b * (bH s).c - (bH s).b * s.c = 0 := by
      have e1 : aw.b = 0 := rfl
      have e2 : aw.c = 1 := rfl
      rw [e1, e2] at rb; omega
    have h1 : s.b * s.c - -s.b * s.c = 0 := h0
    have h2 : s.b * s.c = 0 := by rw [Int.neg_mul] at h1; omega
    have h3 : s.b = 0 := (Int.mul_eq_zero.mp h2).resolve_right os.cn
    refine hl (.inl ⟨n1, n2, ?_⟩)
    rw [h3, Int.zero_mul, Int.zero_mul]
    exact Int.mul_nonneg (sq_nonneg _) (sq_nonneg _)
  · rw [w1, w2] at hw; exact absurd hw (by decide)
  · rw [w1, w2] at hw; exact absurd hw (by decide)
  · rw [w1] at e
    unfold lT at e
    rw [if_neg (by decide)] at e
    have r := Rep.plus os (aD os) (aq os) (aq (aD os))
    rw [e] at r
    have ra := r.a
    have h0 : s.a * (bH s).c + (bH s).a * s.c = 0 := by
      have e1 : aw.a = 0 := rfl
      have e2 : aw.c = 1 := rfl
      rw [e1, e2] at ra; omega
    have h1 : s.a * s.c + s.a * s.c = 0 := h0
    have h2 : s.a * s.c = 0 := by omega
    have h3 : s.a = 0 := (Int.mul_eq_zero.mp h2).resolve_right os.cn
    refine hl (.inr ⟨n1, n2, ?_⟩)
    rw [h3, Int.zero_mul, Int.zero_mul]
    exact Int.mul_nonneg (sq_nonneg _) (sq_nonneg _)
theorem Gp {d : Int} {x : N3} (ox : Ok x) (h : x ≠ aw) : sg d x.a x.b = 1 ∨ sg d x.a x.b = -1 := by
  rcases jv d x.a x.b with z | z | z
  · exfalso
    obtain ⟨h1, h2⟩ := fk.mp z
    have g := ox.g
    rw [h1, h2] at g
    have hc := ox.c
    refine h (N3.ext' h1 h2 ?_)
    show x.c = 1
    simp [g3] at g
    omega
  · exact .inl z
  · exact .inr z
theorem kv {d : Int} {x y : N3} (hd : aA d) (ox : Ok x) (oy : Ok y) (hx : x ≠ aw) (hy : y ≠ aw) : times d x y ≠ aw := fun e => by
  have h := cb hd ox oy
  rw [e] at h
  have z : sg d aw.a aw.b = 0 := fk.mpr ⟨rfl, rfl⟩
  rw [z] at h
  rcases Gp (d := d) ox hx with a | a <;> rcases Gp (d := d) oy hy with b | b <;> rw [a, b] at h <;> exact absurd h (by decide)
theorem Lf {d : Int} {x : N3} (hd : aA d) (ox : Ok x) (hx : x ≠ aw) : ao d x ≠ aw := fun e => by
  have hn := hd.norm ox hx
  have t := gB ox hn
  rw [e] at t
  have h := cb hd ox g0
  rw [t, show sg d aw.a aw.b = 0 from fk.mpr ⟨rfl, rfl⟩, y6] at h
  simp at h
theorem tI {x : N3} (hx : x ≠ aw) : bH x ≠ aw := fun e => hx (by
  have h1 : x.a = 0 := congrArg N3.a e
  have h2 : -x.b = 0 := congrArg N3.b e
  have h3 : x.c = 1 := congrArg N3.c e
  exact N3.ext' h1 (show x.b = 0 by omega) h3)
theorem iG {t : Int} (h : t = 1 ∨ t = -1) : Ok ⟨t, 0, 2⟩ := by
  rcases h with rfl | rfl
  · exact ⟨by decide, by decide⟩
  · exact ⟨by decide, by decide⟩
theorem JY {t : Int} (h : t = 1 ∨ t = -1) : Bd 3 ⟨t, 0, 2⟩ := ⟨Sz.of (by show t.natAbs < 8; omega), Sz.of (by show (0 : Int).natAbs < 8; decide), Sz.of (by show (2 : Int).natAbs < 8; decide)⟩
theorem JF {t : Int} (h : t = 1 ∨ t = -1) : (⟨t, 0, 2⟩ : N3) ≠ aw := fun e => by
  have : (2 : Int) = 1 := congrArg N3.c e
  exact absurd this (by decide)
structure LastOk (d : Int) (s : N3) (w : Int) : Prop where
  ok : Ok (bLast d s w)
  bd : Bd 2090 (bLast d s w)
  ne : bLast d s w ≠ aw
theorem wq {n : Nat} {d : Int} {s : N3} {w : Int} (hd : Sz 5 d) (os : Ok s) (bs : Bd n s) (nm : norm d (bH s) ≠ 0) {t : Int} (ht : t = 1 ∨ t = -1) : Bd (2 * n + 10) (times d (times d ⟨t, 0, 2⟩ (lT s w)) (ao d (bH s))) := by
  have oh := iG ht
  have of := cA (w := w) os
  have oc := aB nm
  have o1 := ai (d := d) oh of
  have hmc : (bH s).c = s.c := rfl
  have hma : (bH s).a = s.a := rfl
  have hmb : (bH s).b = -s.b := rfl
  have nn : norm d (bH s) = norm d s := Cs
  have hN : Sz (2 * n + 6) (norm d s) := tm hd bs
  have tb : t.natAbs = 1 := by omega
  have st : ∀ {k : Nat} {i : Int}, Sz k i → Sz k (t * i) := fun h => h.le (by rw [Int.natAbs_mul, tb]; omega)
  unfold lT at *
  split
  · have r0 := Rep.less os (aD os) (aq os) (aq (aD os))
    have r2 : Rep (less s (bH s)) 0 (2 * s.b) s.c := r0.conv os.cn (by show (s.a * s.c - s.a * s.c) * s.c = 0 * _; grind) (by show (s.b * s.c - -s.b * s.c) * s.c = 2 * s.b * (s.c * s.c); grind)
    have olm := lH os (aD os)
    have r3 := Rep.times (d := d) (ai (d := d) oh olm) oc (Rep.times (d := d) oh olm (aq oh) r2) ((aq (aD os)).ao (d := d) (aD os) nm)
    have r4 : Rep (times d (times d ⟨t, 0, 2⟩ (less s (bH s))) (ao d (bH s))) (t * (d * s.b * s.b)) (t * (s.b * s.a)) (norm d s) := by
      refine r3.conv (by rw [← nn]; exact nm) ?_ ?_
      · show ((t * 0 + d * 0 * (2 * s.b)) * (s.c * s.a) + d * (t * (2 * s.b) + 0 * 0) * (-s.c * -s.b)) * norm d s = t * (d * s.b * s.b) * (2 * s.c * (s.a * s.a - d * -s.b * -s.b))
        unfold norm; grind
      · show ((t * 0 + d * 0 * (2 * s.b)) * (-s.c * -s.b) + (t * (2 * s.b) + 0 * 0) * (s.c * s.a)) * norm d s = t * (s.b * s.a) * (2 * s.c * (s.a * s.a - d * -s.b * -s.b))
        unfold norm; grind
    refine r4.bd (ai (ai oh olm) oc) (st ?_) (st ?_) (hN.mono (by omega))
    · exact ((hd.mul bs.b).mul bs.b).mono (by omega)
    · exact (bs.b.mul bs.a).mono (by omega)
  · have r0 := Rep.plus os (aD os) (aq os) (aq (aD os))
    have r2 : Rep (plus s (bH s)) (2 * s.a) 0 s.c := r0.conv os.cn (by show (s.a * s.c + s.a * s.c) * s.c = 2 * s.a * (s.c * s.c); grind) (by show (s.b * s.c + -s.b * s.c) * s.c = 0 * _; grind)
    have olm := bM os (aD os)
    have r3 := Rep.times (d := d) (ai (d := d) oh olm) oc (Rep.times (d := d) oh olm (aq oh) r2) ((aq (aD os)).ao (d := d) (aD os) nm)
    have r4 : Rep (times d (times d ⟨t, 0, 2⟩ (plus s (bH s))) (ao d (bH s))) (t * (s.a * s.a)) (t * (s.a * s.b)) (norm d s) := by
      refine r3.conv (by rw [← nn]; exact nm) ?_ ?_
      · show ((t * (2 * s.a) + d * 0 * 0) * (s.c * s.a) + d * (t * 0 + 0 * (2 * s.a)) * (-s.c * -s.b)) * norm d s = t * (s.a * s.a) * (2 * s.c * (s.a * s.a - d * -s.b * -s.b))
        unfold norm; grind
      · show ((t * (2 * s.a) + d * 0 * 0) * (-s.c * -s.b) + (t * 0 + 0 * (2 * s.a)) * (s.c * s.a)) * norm d s = t * (s.a * s.b) * (2 * s.c * (s.a * s.a - d * -s.b * -s.b))
        unfold norm; grind
    refine r4.bd (ai (ai oh olm) oc) (st ?_) (st ?_) (hN.mono (by omega))
    · exact (bs.a.mul bs.a).mono (by omega)
    · exact (bs.a.mul bs.b).mono (by omega)
theorem Ot {d : Int} {s : N3} {w : Int} (hd : aA d) (os : Ok s) (bs : Bd 1000 s) (ns : s ≠ aw) (hk : lT s w ≠ aw) : LastOk d s w := by
  have s5 := jt hd.1 hd.2.1
  have of := cA (w := w) os
  have ht : aJ d s w = 1 ∨ aJ d s w = -1 := Gp of hk
  have nm := hd.norm (aD os) (tI ns)
  have oc := aB nm
  have o1 := ai (d := d) (iG ht) of
  exact ⟨ai o1 oc, (wq s5 os bs nm ht).mono (by decide), kv hd o1 oc (kv hd (iG ht) of (JF ht) hk) (Lf hd (aD os) (tI ns))⟩
theorem IQ (h : vD ds μ Qd) : ve { nx := fun _ μ' => Qd (.v .none) μ', rt := Qd } (aX ["d", "kind", "shape", "way", "own", "floor", "turn", "last", "both"] ds) μ := by
  obtain ⟨d, k, s, rfl, hd, ok, bk, hk, os, bs, hs, hm, q⟩ := h
  have s5 := jt hd.1 hd.2.1
  have nk := aK hd ok hk
  have ns := eL hs
  unfold ve
  walk_at "rn"
  refine ⟨k, rfl, d, bH k, rfl, hd, (dM bk).mono (by decide), ?_⟩
  walk_at "rn"
  refine ⟨s, rfl, d, bH s, rfl, hd, (dM bs).mono (by decide), ?_⟩
  unfold Ho at q
  by_cases hw : aU d s = aU d k
  · rw [if_pos hw] at q
    have hw' : sg d (bH s).a (bH s).b = sg d (bH k).a (bH k).b := hw
    walk_at "rn"
    rw [if_neg (by rw [hw']; simp)]
    have of := cA (w := aU d k) os
    have bf := Jr (w := aU d k) os bs
    have oo := cA (w := aU d k) ok
    have bo := Jr (w := aU d k) ok bk
    have hf := JP hd ok hk os hs hm hw
    have ht : aJ d s (aU d k) = 1 ∨ aJ d s (aU d k) = -1 := Gp of hf
    have L := Ot (w := aU d k) hd os bs ns hf
    refine ⟨k, aU d k, rfl, ok, bk.mono (by decide), ?_⟩
    walk_at "rn"
    refine ⟨s, aU d k, rfl, os, bs.mono (by decide), ?_⟩
    walk_at "rn"
    refine ⟨d, _, rfl, hd, bf.mono (by decide), ?_⟩
    walk_at "rn"
    have o1 := ai (d := d) (iG ht) of
    have b1 := aT s5 (iG ht) of (JY ht) bf
    refine ⟨d, ⟨aJ d s (aU d k), 0, 2⟩, lT s (aU d k), rfl, s5, iG ht, of, (JY ht).mono (by decide), bf.mono (by decide), s, rfl, d, _, bH s, rfl, hd, o1, aD os, tI ns, b1.mono (by decide), (dM bs).mono (by decide), ?_⟩
    walk_at "rn"
    have o2 := ai (d := d) oo oo
    have b2 := aT s5 oo oo bo bo
    have o3 := ai (d := d) ok (aD ok)
    have b3 := aT s5 ok (aD ok) bk (dM bk)
    have n3 : times d k (bH k) ≠ aw := kv hd ok (aD ok) (eL hk) (tI (eL hk))
    have o4 : Ok ⟨4, 0, 1⟩ := yR 4
    have b4 : Bd 4 ⟨4, 0, 1⟩ := ⟨Sz.of (by decide), Sz.of (by decide), Sz.of (by decide)⟩
    have o5 := ai (d := d) o4 o3
    have b5 := aT s5 o4 o3 b4 b3
    have n5 : times d ⟨4, 0, 1⟩ (times d k (bH k)) ≠ aw := kv hd o4 o3 (fun e => absurd (congrArg N3.a e) (by decide)) n3
    refine ⟨d, _, _, rfl, s5, oo, oo, bo.mono (by decide), bo.mono (by decide), k, rfl, d, k, bH k, rfl, s5, ok, aD ok, bk.mono (by decide), (dM bk).mono (by decide), d, ⟨4, 0, 1⟩, _, rfl, s5, o4, o3, b4.mono (by decide), b3.mono (by decide), d, _, _, rfl, hd, o2, o5, n5, b2.mono (by decide), b5.mono (by decide), ?_⟩
    walk_at "rn"
    have nn5 := hd.norm o5 n5
    have ob : Ok (nc d k (aU d k)) := ai o2 (aB nn5)
    have bb : Bd 1902 (nc d k (aU d k)) := (aT s5 o2 (aB nn5) b2 (bT s5 nn5 b5)).mono (by decide)
    refine ⟨d, nc d k (aU d k), bLast d s (aU d k), rfl, hd, ob, L.ok, L.ne, bb.mono (by decide), L.bd.mono (by decide), ?_⟩
    refine ⟨mulR L1, ?_⟩
    exact q
  · rw [if_neg hw] at q
    have hw' : ¬ sg d (bH s).a (bH s).b = sg d (bH k).a (bH k).b := hw
    walk_at "rn"
    rw [if_pos (by simpa using hw')]
    exact q
structure RU (d : Int) (k s : N3) (n : Nat) : Prop where
  ou : Ok (vb d k s)
  ov : Ok (uD d k s)
  bu : Bd n (vb d k s)
  bv : Bd n (uD d k s)
theorem Mb {d : Int} {k s : N3} {n m : Nat} (hd : aA d) (ok : Ok k) (bk : Bd n k) (hk : sg d k.a k.b = 1) (os : Ok s) (bs : Bd m s) : RU d k s ((m + (2 * n + 6) + 6) + ((m + (2 * n + 6) + 6) + ((2 * n + 6) + (2 * n + 6) + 6) + ((2 * n + 6) + (2 * n + 6) + 6) + 6) + 1) := by
  have s5 := jt hd.1 hd.2.1
  have hn := aK hd ok hk
  have oc := aB hn
  have bc := bT s5 hn bk
  have oa := ik (s := s) os hn
  have ba : Bd (m + (2 * n + 6) + 6) (shA d k s) := aT s5 os oc bs bc
  have op := Ao (k := k) hn
  have bp : Bd ((2 * n + 6) + (2 * n + 6) + 6) (prt d k) := aT s5 oc oc bc bc
  refine ⟨Tg ok os hn, SE ok os hn, ?_, ?_⟩
  · unfold vb
    split
    · exact ba.mono (by omega)
    · rename_i hl
      have h' : k.a * k.b ≠ 0 := fun z => hl ((jl ok).mpr z)
      have hc : (shA d k s).c * (prt d k).b ≠ 0 := Int.mul_ne_zero oa.cn (GO ok hn (aq ok) h')
      have bv : Bd ((m + (2 * n + 6) + 6) + ((2 * n + 6) + (2 * n + 6) + 6)) (shV d k s) := lR hc (ba.b.mul bp.c) sz0 (ba.c.mul bp.b)
      have ov := wU ok os hn h'
      exact (O4 oa (ai ov op) ba (aT s5 ov op bv bp)).mono (by omega)
  · unfold uD
    split
    · exact ⟨Sz.of (by show (0 : Int).natAbs < _; exact Nat.pos_of_ne_zero (by simp)), Sz.of (by show (0 : Int).natAbs < _; exact Nat.pos_of_ne_zero (by simp)), Sz.of (by show (1 : Int).natAbs < _; exact Nat.one_lt_two_pow (by omega))⟩
    · rename_i hl
      have h' : k.a * k.b ≠ 0 := fun z => hl ((jl ok).mpr z)
      have hc : (shA d k s).c * (prt d k).b ≠ 0 := Int.mul_ne_zero oa.cn (GO ok hn (aq ok) h')
      exact (lR hc (ba.b.mul bp.c) sz0 (ba.c.mul bp.b)).mono (by omega)
def Lc (d : Int) : PyData → Option PyData
  | .tuple [.int a, .int b, .int c] => some (.bool (cX d ⟨a, b, c⟩))
  | _ => none
theorem AW (h : tF ds μ Qd) : nP { nx := fun _ μ' => Qd (.v .none) μ', rt := Qd } (aX ["d", "kind", "shape", "shares"] ds) μ := by
  obtain ⟨d, k, s, rfl, hd, ok, bk, hk, os, bm, hs, q⟩ := h
  have bs := bm.big
  have s5 := jt hd.1 hd.2.1
  have nk := aK hd ok hk
  have M := Mb (s := s) hd ok bk hk os bs
  unfold nP
  walk_at "rn"
  refine ⟨d, k, rfl, hd, ok, bk.mono (by decide), hk, d, s, rfl, hd, os, bs.mono (by decide), hs, d, k, k, rfl, s5, ok, ok, bk.mono (by decide), bk.mono (by decide), ?_⟩
  walk_at "rn"
  by_cases hl : (times d k k).b = 0
  · rw [if_pos (by simpa using hl)]
    have bu := M.bu
    have bv := M.bv
    unfold N5 at q
    rw [Ir hl] at bu q
    rw [IP hl] at bv q
    refine ⟨d, s, k, rfl, hd, os, ok, eL hk, bs.mono (by decide), bk.mono (by decide), ?_⟩
    refine ⟨(by show 2 ≤ 1000; decide), Lc d, fun x hx μ2 h2 => ⟨⟨trivial, trivial⟩, ?_⟩, ?_⟩
    · simp only [List.mem_cons, List.not_mem_nil, or_false] at hx
      rcases hx with rfl | rfl
      · exact ⟨d, _, rfl, hd, bu.mono (by decide), rfl, rfl⟩
      · exact ⟨d, _, rfl, hd, bv.mono (by decide), rfl, rfl⟩
    · show (if List.all [cX d (shA d k s), cX d aw] id = true then _ else _)
      have e3 : List.all [cX d (shA d k s), cX d aw] id = fT d k s := by simp [fT, Ir hl, IP hl]
      rw [e3]
      cases hm : fT d k s with
      | true =>
        rw [hm, if_pos rfl] at q
        exact q
      | false =>
        rw [hm, if_neg (by decide)] at q
        exact ⟨d, k, s, rfl, hd, ok, bk, hk, os, bm.low hm, hs, hm, q⟩
  · rw [if_neg (by simpa using hl)]
    have h' : k.a * k.b ≠ 0 := fun z => hl ((jl ok).mpr z)
    have bu := M.bu
    have bv := M.bv
    unfold N5 at q
    rw [Mg hl] at bu q
    rw [Li hl] at bv q
    refine ⟨d, k, rfl, s5, nk, bk.mono (by decide), d, k, ao d k, s, rfl, hd, ok, eL hk, aB nk, os, ⟨140, 2 * 140 + 6, 1300, bk, bT s5 nk bk, bs, by decide, by decide, by decide, by decide⟩, GO ok nk (aq ok) h', ?_⟩
    refine ⟨(by show 2 ≤ 1000; decide), Lc d, fun x hx μ2 h2 => ⟨⟨trivial, trivial⟩, ?_⟩, ?_⟩
    · simp only [List.mem_cons, List.not_mem_nil, or_false] at hx
      rcases hx with rfl | rfl
      · exact ⟨d, _, rfl, hd, bu.mono (by decide), rfl, rfl⟩
      · exact ⟨d, _, rfl, hd, bv.mono (by decide), rfl, rfl⟩
    · show (if List.all [cX d (shU d k s), cX d (shV d k s)] id = true then _ else _)
      have e3 : List.all [cX d (shU d k s), cX d (shV d k s)] id = fT d k s := by simp [fT, Mg hl, Li hl]
      rw [e3]
      cases hm : fT d k s with
      | true =>
        rw [hm, if_pos rfl] at q
        exact q
      | false =>
        rw [hm, if_neg (by decide)] at q
        exact ⟨d, k, s, rfl, hd, ok, bk, hk, os, bm.low hm, hs, hm, q⟩
end
open PySem PySem.Spec PyProof.Rows NM
structure da (d : Int) (ks : List N3) : Prop where
  l1 : 1 ≤ ks.length
  l3 : ks.length ≤ 3
  ok : ∀ k ∈ ks, Ok k ∧ Bd 140 k ∧ sg d k.a k.b = 1
theorem KindsOk.wide {d : Int} {ks : List N3} (h : KindsOk d ks) : da d ks := ⟨h.l1, h.l3, fun k hk => ⟨(h.ok k hk).1, (h.ok k hk).2.1.mono (by decide), (h.ok k hk).2.2⟩⟩
noncomputable def ku : DSp := fun ds μ Q => ∃ (d : Int) (ks : List N3), ds = [.v (.int d), .v (.tuple (ks.map dN))] ∧ aA d ∧ 1 ≤ ks.length ∧ ks.length ≤ 3 ∧ (∀ k ∈ ks, Ok k ∧ Bd 140 k ∧ sg d k.a k.b = 1) ∧ Q (.v .none) μ
theorem yE {μ : Mu} {Q : DK} {ds : List D} (h : ku ds μ Q) : ds.length = 2 := by obtain ⟨_, _, rfl, _⟩ := h; rfl
noncomputable def RM (d : Int) (t : PyData) : Prop := Few t ∧ ∀ x, t = dN x → Bd 8900 x
def KT (d : Int) : PyData → Prop
  | .tuple xs => xs.length ≤ 1000 ∧ (xs.length ≤ 3 → ∀ x ∈ xs, RM d x)
  | _ => True
def GS (d : Int) : PyData → Bool
  | .tuple xs => decide (1 ≤ xs.length) && (decide (xs.length ≤ 3) && xs.all (nB d))
  | _ => false
noncomputable def vQ : DSp := fun ds μ Q => ∃ (d : Int) (t : PyData), ds = [.v (.int d), .v t] ∧ aA d ∧ KT d t ∧ Q (.v (.bool (GS d t))) μ
theorem DF {μ : Mu} {Q : DK} {ds : List D} (h : vQ ds μ Q) : ds.length = 2 := by obtain ⟨_, _, rfl, _⟩ := h; rfl
def sgN (d : Int) (k : N3) : Int := sg d (norm d k) 0
noncomputable def vk : DSp := fun ds μ Q => ∃ (d : Int) (ks : List N3), ds = [.v (.int d), .v (.tuple (ks.map dN))] ∧ aA d ∧ da d ks ∧ Q (.v (.list ((ks.map (sgN d)).map .int))) μ
theorem Gr {μ : Mu} {Q : DK} {ds : List D} (h : vk ds μ Q) : ds.length = 2 := by obtain ⟨_, _, rfl, _⟩ := h; rfl
noncomputable def zi : DSp := fun ds μ Q => ∃ (d : Int) (k o : N3), ds = [.v (.int d), .v (dN k), .v (dN o)] ∧ aA d ∧ Ok k ∧ Bd 140 k ∧ sg d k.a k.b = 1 ∧ Ok o ∧ Bd 140 o ∧ sg d o.a o.b = 1 ∧ Q (.v (.bool (decide (gtL d k o)))) μ
theorem Hf {μ : Mu} {Q : DK} {ds : List D} (h : zi ds μ Q) : ds.length = 3 := by obtain ⟨_, _, _, rfl, _⟩ := h; rfl
def dE (d : Int) (ks : List N3) : Bool := ks.any (fun k => decide (sgN d k = 1)) && ks.any (fun k => decide (sgN d k = -1))
def Ct (d : Int) (ks : List N3) : PyData := if dE d ks = true then .none else .int (fH d ks (ks.length - 1) : Nat)
noncomputable def Dc : DSp := fun ds μ Q => ∃ (d : Int) (ks : List N3), ds = [.v (.int d), .v (.tuple (ks.map dN))] ∧ aA d ∧ da d ks ∧ Q (.v (Ct d ks)) μ
theorem IF {μ : Mu} {Q : DK} {ds : List D} (h : Dc ds μ Q) : ds.length = 2 := by obtain ⟨_, _, rfl, _⟩ := h; rfl
def Jm (i : Int) : PyData := .tuple [.str "kind", .int i]
def M8 (i : Int) : PyData := .tuple [.str "turn", Jm i]
def rS (x : N3) (P : PyData) : PyData := if x = one then P else .tuple [.str "grid", .int x.c, .int x.a, P]
def Ag (u v : N3) (F S : PyData) : PyData := if v = aw then rS u F else if u = aw then rS v S else .tuple [.str "upon", .tuple [rS u F, rS v S]]
noncomputable def ml : DSp := fun ds μ Q => ∃ (x : N3) (P : PyData), ds = [.v (dN x), .v P] ∧ Q (.v (rS x P)) μ
theorem D5 {μ : Mu} {Q : DK} {ds : List D} (h : ml ds μ Q) : ds.length = 2 := by obtain ⟨_, _, rfl, _⟩ := h; rfl
noncomputable def rA : DSp := fun ds μ Q => ∃ (u v : N3) (F S : PyData), ds = [.v (dN u), .v F, .v (dN v), .v S] ∧ Q (.v (Ag u v F S)) μ
theorem DM {μ : Mu} {Q : DK} {ds : List D} (h : rA ds μ Q) : ds.length = 4 := by obtain ⟨_, _, _, _, rfl, _⟩ := h; rfl
noncomputable def tu : DSp := fun ds μ Q => ∃ (u v : N3) (i : Int), ds = [.v (dN u), .v (dN v), .v (.int i)] ∧ Q (.v (Ag u v (Jm i) (M8 i))) μ
theorem BO {μ : Mu} {Q : DK} {ds : List D} (h : tu ds μ Q) : ds.length = 3 := by obtain ⟨_, _, _, rfl, _⟩ := h; rfl
noncomputable def rL : DTS :=
  (aO (cV (jX (eZ (dB (vw "tuple" (af 1)))) (jX (dB (dOp rLt (dCB fE (ab (af 1) ar)) (dC (.int 1)))) (dB (dOp rGt (dCB fE (ab (af 1) ar)) (dC (.int 3)))))) (bI (dC (.bool false))) bU)
  (bI (dCB xW (ab (vJ [none, some 0] (oj (af 1)) (ay 0) qM (au rg (ab (af 1) (ab (af 0) ar)))) ar))))
noncomputable def jT : DTS :=
  (cV (eZ (dB (au vQ (ab (af 0) (ab (af 1) ar))))) xS bU)
noncomputable def nI : DTS :=
  (bI (vJ [none, some 0] (oj (af 1)) (ay 0) qM (au fg (ab (af 1) (ab (au eA (ab (af 0) ar)) ar)))))
noncomputable def nj : DTS :=
  (aO (bJ (au wz (ab (af 0) (ab (af 1) ar))) (sE 3 (dF (ay 3) (dF (ay 4) (dF (ay 5) ug)))))
  (aO (bJ (au wz (ab (af 0) (ab (af 2) ar))) (sE 3 (dF (ay 6) (dF (ay 7) (dF (ay 8) ug)))))
  (bI (dOp rGt (cM (dCB sG (ab (af 3) ar)) (af 8)) (cM (dCB sG (ab (af 6) ar)) (af 5))))))
noncomputable def nv : DTS :=
  (aO (qD (au ku (ab (af 0) (ab (af 1) ar))))
  (aO (bJ (au vk (ab (af 0) (ab (af 1) ar))) (ay 2))
  (aO (cV (rj (dB (dOp (Gi false) (dC (.int 1)) (af 2))) (dB (dOp (Gi false) (yL (dC (.int 1))) (af 2)))) (bI (dC .none)) bU)
  (aO (bJ (dC (.int 0)) (ay 3))
  (aO (vG (zu (ab (dC (.int 1)) (ab (dCB fE (ab (af 1) ar)) ar))) (ay 4) (cV (dB (au zi (ab (af 0) (ab (dOp aF (af 1) (af 4)) (ab (dOp aF (af 1) (af 3)) ar))))) (bJ (af 4) (ay 3)) bU))
  (bI (af 3)))))))
noncomputable def nJ : DTS :=
  (aO (cV (dB (dOp (dD false) (af 0) (dC (.tuple [.int 1, .int 0, .int 1])))) (bI (af 1)) bU)
  (bI (eC (ab (dC (.str "grid")) (ab (dOp aF (af 0) (dC (.int 2))) (ab (dOp aF (af 0) (dC (.int 0))) (ab (af 1) ar)))))))
noncomputable def jk : DTS :=
  (aO (cV (dB (dOp (dD false) (af 2) (dC (.tuple [.int 0, .int 0, .int 1])))) (bI (au ml (ab (af 0) (ab (af 1) ar)))) bU)
  (aO (cV (dB (dOp (dD false) (af 0) (dC (.tuple [.int 0, .int 0, .int 1])))) (bI (au ml (ab (af 2) (ab (af 3) ar)))) bU)
  (bI (eC (ab (dC (.str "upon")) (ab (eC (ab (au ml (ab (af 0) (ab (af 1) ar))) (ab (au ml (ab (af 2) (ab (af 3) ar))) ar))) ar))))))
noncomputable def iY : DTS :=
  (aO (bJ (eC (ab (dC (.str "kind")) (ab (af 2) ar))) (ay 3))
  (bI (au rA (ab (af 0) (ab (af 3) (ab (af 1) (ab (eC (ab (dC (.str "turn")) (ab (af 3) ar))) ar)))))))
section
variable {μ : Mu} {Qd : DK} {ds : List D}
theorem RD {xs : List PyData} (g : PyData → Bool) : cL (xs.filterMap fun x => some (.bool (g x))) = some (xs.map g) := by
  induction xs with
  | nil => rfl
  | cons x xs ih =>
    rw [List.filterMap_cons]
    show cL (PyData.bool (g x) :: _) = _
    unfold cL
    rw [ih]
    rfl
theorem Fl (h : vQ ds μ Qd) : rL { nx := fun _ μ' => Qd (.v .none) μ', rt := Qd } (aX ["d", "thing"] ds) μ := by
  obtain ⟨d, t, rfl, hd, kt, q⟩ := h
  unfold rL
  walk_at "rn"
  rcases DJ t with ⟨xs, rfl, e⟩ | ⟨hn, e⟩
  · rw [e]
    walk_at "rn"
    have q' : Qd (.v (.bool (decide (1 ≤ xs.length) && (decide (xs.length ≤ 3) && xs.all (nB d))))) μ := q
    by_cases h1 : ((xs.length : Nat) : Int) < 1
    · rw [if_pos (by simpa using h1)]
      rw [decide_eq_false (show ¬ 1 ≤ xs.length by omega), Bool.false_and] at q'
      exact q'
    · rw [if_neg (by simpa using h1)]
      by_cases h3 : (3 : Int) < ((xs.length : Nat) : Int)
      · rw [if_pos (by simpa using h3)]
        rw [decide_eq_false (show ¬ xs.length ≤ 3 by omega), Bool.false_and, Bool.and_false] at q'
        exact q'
      · rw [if_neg (by simpa using h3)]
        rw [decide_eq_true (show 1 ≤ xs.length by omega), decide_eq_true (show xs.length ≤ 3 by omega), Bool.true_and, Bool.true_and] at q'
        refine ⟨by omega, fun x => some (.bool (nB d x)), fun x hx μ' hs => ⟨⟨trivial, trivial⟩, ?_⟩, ?_⟩
        · have p := kt.2 (by omega) x hx
          exact ⟨d, x, rfl, hd, p.1, p.2, rfl, rfl⟩
        · rw [RD]
          dsimp only
          rw [List.all_map]
          exact q'
  · rw [e]
    walk_at "rn"
    have : GS d t = false := by cases t <;> first | rfl | exact absurd rfl (hn _)
    rw [this] at q
    exact q
theorem Kt {d : Int} {ks : List N3} (h : da d ks) : GS d (.tuple (ks.map dN)) = true := by
  show (decide (1 ≤ (ks.map dN).length) && (decide ((ks.map dN).length ≤ 3) && (ks.map dN).all (nB d))) = true
  rw [List.length_map, decide_eq_true h.l1, decide_eq_true h.l3, Bool.true_and, Bool.true_and, List.all_map, List.all_eq_true]
  intro k hk
  obtain ⟨ok, _, sk⟩ := h.ok k hk
  show nB d (dN k) = true
  rw [Ac ok, sk]
  rfl
theorem SQ {d : Int} {ks : List N3} (h : da d ks) : KT d (.tuple (ks.map dN)) := by
  refine ⟨by rw [List.length_map]; have := h.l3; omega, fun _ x hx => ?_⟩
  obtain ⟨k, hk, rfl⟩ := List.mem_map.mp hx
  exact ⟨Kd, fun y e => by rw [← QP e]; exact (h.ok k hk).2.1.mono (by decide)⟩
theorem xT (h : ku ds μ Qd) : jT { nx := fun _ μ' => Qd (.v .none) μ', rt := Qd } (aX ["d", "thing"] ds) μ := by
  obtain ⟨d, ks, rfl, hd, l1, l3, hk, q⟩ := h
  have ho : da d ks := ⟨l1, l3, hk⟩
  unfold jT
  walk_at "rn"
  refine ⟨d, _, rfl, hd, SQ ho, ?_⟩
  rw [Kt ho]
  exact q
theorem Mn {d : Int} {k : N3} (hd : aA d) (ok : Ok k) (sk : sg d k.a k.b = 1) : sg d (bH k).a (bH k).b = sgN d k := C0 hd ok sk
def signOf (d : Int) : PyData → Option PyData
  | .tuple [.int a, .int b, .int c] => some (.int (sgN d ⟨a, b, c⟩))
  | _ => none
theorem OQ {d : Int} (ks : List N3) : (ks.map dN).filterMap (signOf d) = (ks.map (sgN d)).map .int := by
  induction ks with
  | nil => rfl
  | cons k ks ih =>
    rw [List.map_cons, List.filterMap_cons]
    show (PyData.int (sgN d k)) :: _ = _
    rw [ih]
    rfl
theorem Bh (h : vk ds μ Qd) : nI { nx := fun _ μ' => Qd (.v .none) μ', rt := Qd } (aX ["d", "kinds"] ds) μ := by
  obtain ⟨d, ks, rfl, hd, ho, q⟩ := h
  unfold nI
  walk_at "rn"
  refine ⟨by rw [List.length_map]; have := ho.l3; omega, signOf d, fun x hx μ' hs => ⟨⟨trivial, trivial⟩, ?_⟩, ?_⟩
  · obtain ⟨k, hk, rfl⟩ := List.mem_map.mp hx
    obtain ⟨ok, bk, sk⟩ := ho.ok k hk
    refine ⟨k, rfl, d, bH k, rfl, hd, (dM bk).mono (by decide), rfl, ?_⟩
    rw [Mn hd ok sk]
    rfl
  · rw [OQ]
    exact q
theorem Br (h : zi ds μ Qd) : nj { nx := fun _ μ' => Qd (.v .none) μ', rt := Qd } (aX ["d", "kind", "other", "a", "b", "c", "other_a", "other_b", "other_c"] ds) μ := by
  obtain ⟨d, k, o, rfl, hd, ok, bk, sk, oo, bo, so, q⟩ := h
  have s5 := jt hd.1 hd.2.1
  have bl := E9 s5 hd ok (aK hd ok sk) bk
  have bm := E9 s5 hd oo (aK hd oo so) bo
  unfold nj
  walk_at "rn"
  refine ⟨d, k, rfl, hd, ok, bk.mono (by decide), sk, ?_⟩
  walk_at "rn"
  refine ⟨rfl, d, o, rfl, hd, oo, bo.mono (by decide), so, ?_⟩
  walk_at "rn"
  refine ⟨rfl, ?_⟩
  have sa : ∀ {n : Nat} {i : Int}, Sz n i → Sz n ((i.natAbs : Nat) : Int) := fun h => h.le (by simp)
  refine ⟨hZ (sa bl.a) bm.c (by decide), hZ (sa bm.a) bl.c (by decide), ?_⟩
  exact q
theorem Fh {d : Int} {ks : List N3} (v : Int) : (((ks.map (sgN d)).map PyData.int).any fun b => PyData.eqv b (.int v)) = ks.any (fun k => decide (sgN d k = v)) := by
  induction ks with
  | nil => rfl
  | cons k ks ih =>
    rw [List.map_cons, List.map_cons, List.any_cons, List.any_cons, ih]
    rfl
theorem Kv (l : List Int) : PyData.canLayAll0 (l.map PyData.int) = true := by
  induction l with
  | nil => rfl
  | cons k l ih => rw [List.map_cons]; show (PyData.canLay0 (.int k) && PyData.canLayAll0 _) = true; rw [ih]; rfl
theorem ey {ks : List N3} {i : Nat} (h : i < ks.length) : (ks.map dN)[i]? = some (dN (ks.getD i aw)) ∧ ks.getD i aw ∈ ks := by
  have e : ks[i]? = some (ks.getD i aw) := by
    rw [List.getD_eq_getElem?_getD, List.getElem?_eq_getElem h]; rfl
  exact ⟨by rw [List.getElem?_map, e]; rfl, List.mem_of_getElem? e⟩
theorem Bz (h : Dc ds μ Qd) : nv { nx := fun _ μ' => Qd (.v .none) μ', rt := Qd } (aX ["d", "kinds", "signs", "most", "place"] ds) μ := by
  obtain ⟨d, ks, rfl, hd, ho, q⟩ := h
  unfold nv
  walk_at "rn"
  refine ⟨d, ks, rfl, hd, ho.l1, ho.l3, ho.ok, d, ks, rfl, hd, ho, ?_⟩
  walk_at "rn"
  have tail : dE d ks = false → vG (zu (ab (dC (PyData.int 1)) (ab (dCB fE (ab (af 1) ar)) ar))) (ay 4)
      (cV (dB (au zi (ab (af 0) (ab (dOp aF (af 1) (af 4)) (ab (dOp aF (af 1) (af 3)) ar))))) (bJ (af 4) (ay 3)) bU)
      { nx := bI (af 3) { nx := fun x μ' => Qd (D.v PyData.none) μ', rt := Qd }, rt := Qd }
      [some (D.v (PyData.int d)), some (D.v (PyData.tuple (List.map dN ks))), some (D.v (PyData.list (List.map PyData.int (List.map (sgN d) ks)))), some (D.v (PyData.int 0)), none] μ := fun hm => by
    have q' : Qd (D.v (.int (fH d ks (ks.length - 1) : Nat))) μ := by
      have : Ct d ks = .int (fH d ks (ks.length - 1) : Nat) := by unfold Ct; rw [hm]; rfl
      rw [this] at q; exact q
    have l1 := ho.l1
    have l3 := ho.l3
    rw [rP]
    walk_at "rn"
    rw [List.length_map]
    have hc : ∀ i, i < ks.length → 0 < (bA d (ks.getD i aw)).c := fun i hi => by
      obtain ⟨ok, _, sk⟩ := ho.ok _ (ey hi).2
      exact (eV hd (aK hd ok sk) ok).c
    refine ⟨by omega, fun i ρ' μ' => μ' = μ ∧ ∃ r4, ρ' = [some (D.v (PyData.int d)), some (D.v (PyData.tuple (List.map dN ks))), some (D.v (PyData.list (List.map PyData.int (List.map (sgN d) ks)))), some (D.v (PyData.int (fH d ks i : Nat))), r4], ⟨rfl, _, rfl⟩, ?_, ?_⟩
    · rintro i x ρ' μ' hx ⟨rfl, r4, rfl⟩
      obtain ⟨rfl, hi⟩ := GC hx
      have hi' : i + 1 < ks.length := by omega
      obtain ⟨m1, m2, m3⟩ := tG hc i (by omega)
      have g1 := ey hi'
      have g2 := ey (ks := ks) (i := fH d ks i) (by omega)
      walk_at "rn"
      rw [show (1 + (i : Int)) = ((i + 1 : Nat) : Int) by omega]
      rw [k8 g1.1, k8 g2.1]
      obtain ⟨o1, b1, s1⟩ := ho.ok _ g1.2
      obtain ⟨o2, b2, s2⟩ := ho.ok _ g2.2
      refine ⟨d, _, _, rfl, hd, o1, b1, s1, o2, b2, s2, ?_⟩
      walk_at "rn"
      by_cases g : gtL d (ks.getD (i + 1) aw) (ks.getD (fH d ks i) aw)
      · rw [if_pos (by simpa using g)]
        have em : fH d ks (i + 1) = i + 1 := by show (if _ then _ else _) = _; rw [if_pos g]
        exact ⟨trivial, _, by rw [em]⟩
      · rw [if_neg (by simpa using g)]
        have em : fH d ks (i + 1) = fH d ks i := by show (if _ then _ else _) = _; rw [if_neg g]
        exact ⟨trivial, _, by rw [em]⟩
    · rintro ρ' μ' ⟨rfl, r4, rfl⟩
      rw [wR]
      walk_at "rn"
      rw [show (((ks.length : Nat) : Int) - 1).toNat = ks.length - 1 by omega]
      exact q'
  have l1 := Kv (ks.map (sgN d))
  refine ⟨l1, rfl, by decide, ?_⟩
  rw [Fh]
  cases e1 : ks.any (fun k => decide (sgN d k = 1)) with
  | false =>
    simp only [Bool.false_eq_true, ↓reduceIte]
    exact tail (by unfold dE; rw [e1]; rfl)
  | true =>
    simp only [↓reduceIte]
    refine ⟨l1, rfl, by decide, ?_⟩
    rw [Fh]
    cases e2 : ks.any (fun k => decide (sgN d k = -1)) with
    | false =>
      simp only [Bool.false_eq_true, ↓reduceIte]
      exact tail (by unfold dE; rw [e1, e2]; rfl)
    | true =>
      simp only [↓reduceIte]
      have : Ct d ks = .none := by unfold Ct dE; rw [e1, e2]; rfl
      rw [this] at q
      exact q
theorem BV (h : ml ds μ Qd) : nJ { nx := fun _ μ' => Qd (.v .none) μ', rt := Qd } (aX ["share", "plan"] ds) μ := by
  obtain ⟨x, P, rfl, q⟩ := h
  unfold nJ
  walk_at "rn"
  unfold rS at q
  by_cases c : x = one
  · rw [if_pos c] at q
    rw [if_pos (by simpa [one] using c)]
    exact q
  · rw [if_neg c] at q
    rw [if_neg (by simpa [one] using c)]
    exact q
theorem we (h : rA ds μ Qd) : jk { nx := fun _ μ' => Qd (.v .none) μ', rt := Qd } (aX ["u", "first", "v", "second"] ds) μ := by
  obtain ⟨u, v, F, S, rfl, q⟩ := h
  unfold jk
  walk_at "rn"
  unfold Ag at q
  by_cases c : v = aw
  · rw [if_pos c] at q
    rw [if_pos (by simpa [aw] using c)]
    exact ⟨u, F, rfl, q⟩
  · rw [if_neg c] at q
    rw [if_neg (by simpa [aw] using c)]
    by_cases c2 : u = aw
    · rw [if_pos c2] at q
      rw [if_pos (by simpa [aw] using c2)]
      exact ⟨v, S, rfl, q⟩
    · rw [if_neg c2] at q
      rw [if_neg (by simpa [aw] using c2)]
      refine ⟨u, F, rfl, ?_⟩
      walk_at "rn"
      refine ⟨v, S, rfl, ?_⟩
      walk_at "rn"
      exact q
theorem uC (h : tu ds μ Qd) : iY { nx := fun _ μ' => Qd (.v .none) μ', rt := Qd } (aX ["u", "v", "place", "kind"] ds) μ := by
  obtain ⟨u, v, i, rfl, q⟩ := h
  unfold iY
  walk_at "rn"
  exact ⟨u, v, _, _, rfl, q⟩
end
open PySem PySem.Spec PyProof.Rows NM
def grB (x : N3) : Bool := decide (x.a * x.b < 0)
noncomputable def vn : DSp := fun ds μ Q => ∃ x : N3, ds = [.v (dN x)] ∧ Bd 4000 x ∧ Q (.v (.bool (grB x))) μ
theorem FY {μ : Mu} {Q : DK} {ds : List D} (h : vn ds μ Q) : ds.length = 1 := by obtain ⟨_, rfl, _⟩ := h; rfl
def grN (d : Int) (k : N3) : N3 := if grB (ao d k) = true then ao d k else k
def grP (d : Int) (k : N3) (i : Int) : PyData := if grB (ao d k) = true then M8 i else Jm i
noncomputable def oS : DSp := fun ds μ Q => ∃ (d : Int) (ks : List N3) (i : Nat), ds = [.v (.int d), .v (.tuple (ks.map dN)), .v (.int i)] ∧ aA d ∧ da d ks ∧ i < ks.length ∧ Q (.v (.tuple [dN (grN d (ks.getD i aw)), grP d (ks.getD i aw) i])) μ
theorem Bb {μ : Mu} {Q : DK} {ds : List D} (h : oS ds μ Q) : ds.length = 3 := by obtain ⟨_, _, _, rfl, _⟩ := h; rfl
def iOf (d : Int) (ks : List N3) (v : Int) : Nat := (zY v (ks.map (sgN d))).getD 0
def LX (d : Int) (ks : List N3) (s : N3) : PyData := Ag (Ke d (grN d (ks.getD (iOf d ks 1) aw)) (grN d (ks.getD (iOf d ks (-1)) aw)) (if grB s = true then ao d s else s)) (AN d (grN d (ks.getD (iOf d ks 1) aw)) (grN d (ks.getD (iOf d ks (-1)) aw)) (if grB s = true then ao d s else s)) (grP d (ks.getD (iOf d ks 1) aw) (iOf d ks 1 : Nat)) (grP d (ks.getD (iOf d ks (-1)) aw) (iOf d ks (-1) : Nat))
def Fe (d : Int) (ks : List N3) (s : N3) : PyData := if grB s = true then .tuple [.str "turn", LX d ks s] else LX d ks s
def Cu (d : Int) (ks : List N3) : Nat := fH d ks (ks.length - 1)
def kx (d : Int) (ks : List N3) : N3 := ks.getD (Cu d ks) aw
def kU (d : Int) (ks : List N3) (s : N3) : Bool := dE d ks || fT d (kx d ks) s
structure SB (d : Int) (ks : List N3) (s : N3) : Prop where
  big : Bd 1300 s
  con : Bd 1420 (ao d s)
  low : kU d ks s = false → Bd 1000 s
theorem SB.of {d : Int} {ks : List N3} {s : N3} (hd : aA d) (os : Ok s) (hs : sg d s.a s.b = 1) (h : Bd 700 s) : SB d ks s := ⟨h.mono (by decide), (bT (jt hd.1 hd.2.1) (aK hd os hs) h).mono (by decide), fun _ => h.mono (by decide)⟩
noncomputable def Ex : DSp := fun ds μ Q => ∃ (d : Int) (ks : List N3) (s : N3), ds = [.v (.int d), .v (.tuple (ks.map dN)), .v (dN s)] ∧ aA d ∧ da d ks ∧ dE d ks = true ∧ Ok s ∧ SB d ks s ∧ sg d s.a s.b = 1 ∧ Q (.v (Fe d ks s)) μ
theorem G0 {μ : Mu} {Q : DK} {ds : List D} (h : Ex ds μ Q) : ds.length = 3 := by obtain ⟨_, _, _, rfl, _⟩ := h; rfl
def B3 (d : Int) (ks : List N3) (s : N3) : PyData :=
  if dE d ks = true then .tuple [.str "plan", Fe d ks s]
  else if fT d (kx d ks) s = true then .tuple [.str "plan", Ag (vb d (kx d ks) s) (uD d (kx d ks) s) (Jm (Cu d ks : Nat)) (M8 (Cu d ks : Nat))]
  else .tuple [.str "bar", Ho d (kx d ks) s]
noncomputable def E3 : DSp := fun ds μ Q => ∃ (d : Int) (ks : List N3) (s : N3), ds = [.v (.int d), .v (.tuple (ks.map dN)), .v (dN s)] ∧ aA d ∧ da d ks ∧ Ok s ∧ SB d ks s ∧ sg d s.a s.b = 1 ∧ Q (.v (B3 d ks s)) μ
theorem Hw {μ : Mu} {Q : DK} {ds : List D} (h : E3 ds μ Q) : ds.length = 3 := by obtain ⟨_, _, _, rfl, _⟩ := h; rfl
noncomputable def ie : DTS :=
  (bI (dOp rLt (cM (dOp aF (af 0) (dC (.int 0))) (dOp aF (af 0) (dC (.int 1)))) (dC (.int 0))))
noncomputable def gD : DTS :=
  (aO (bJ (dOp aF (af 1) (af 2)) (ay 3))
  (aO (bJ (eC (ab (dC (.str "kind")) (ab (af 2) ar))) (ay 4))
  (aO (cV (dB (au vn (ab (au bZ (ab (af 0) (ab (af 3) ar))) ar))) (bI (eC (ab (au bZ (ab (af 0) (ab (af 3) ar))) (ab (eC (ab (dC (.str "turn")) (ab (af 4) ar))) ar)))) bU)
  (bI (eC (ab (af 3) (ab (af 4) ar)))))))
noncomputable def kE : DTS :=
  (aO (bJ (au vk (ab (af 0) (ab (af 1) ar))) (ay 3))
  (aO (bJ (au oS (ab (af 0) (ab (af 1) (ab (C1 (af 3) (dC (.int 1))) ar)))) (sE 2 (dF (ay 4) (dF (ay 5) ug))))
  (aO (bJ (au oS (ab (af 0) (ab (af 1) (ab (C1 (af 3) (yL (dC (.int 1)))) ar)))) (sE 2 (dF (ay 6) (dF (ay 7) ug))))
  (aO (bJ (au vn (ab (af 2) ar)) (ay 8))
  (aO (bJ (au sH (ab (af 0) (ab (af 4) (ab (af 6) (ab (dIf (dB (af 8)) (au bZ (ab (af 0) (ab (af 2) ar))) (af 2)) ar))))) (sE 2 (dF (ay 9) (dF (ay 10) ug))))
  (aO (bJ (au rA (ab (af 9) (ab (af 5) (ab (af 10) (ab (af 7) ar))))) (ay 11))
  (bI (dIf (dB (af 8)) (eC (ab (dC (.str "turn")) (ab (af 11) ar))) (af 11)))))))))
noncomputable def pj : DTS :=
  (aO (qD (au ku (ab (af 0) (ab (af 1) ar))))
  (aO (qD (au gG (ab (af 0) (ab (af 2) ar))))
  (aO (bJ (au Dc (ab (af 0) (ab (af 1) ar))) (ay 3))
  (aO (cV (dB (dOp FO (af 3) (dC .none))) (bI (eC (ab (dC (.str "plan")) (ab (au Ex (ab (af 0) (ab (af 1) (ab (af 2) ar)))) ar)))) bU)
  (aO (bJ (au tF (ab (af 0) (ab (dOp aF (af 1) (af 3)) (ab (af 2) ar)))) (ay 4))
  (aO (cV (dB (dOp (dD false) (dOp aF (af 4) (dC (.int 0))) (dC (.str "bar")))) (bI (af 4)) bU)
  (bI (eC (ab (dC (.str "plan")) (ab (au tu (ab (dOp aF (af 4) (dC (.int 1))) (ab (dOp aF (af 4) (dC (.int 2))) (ab (af 3) ar)))) ar))))))))))
section
variable {μ : Mu} {Qd : DK} {ds : List D}
theorem tP (h : vn ds μ Qd) : ie { nx := fun _ μ' => Qd (.v .none) μ', rt := Qd } (aX ["shape"] ds) μ := by
  obtain ⟨x, rfl, bx, q⟩ := h
  unfold ie
  walk_at "rn"
  exact ⟨hZ bx.a bx.b (by decide), q⟩
theorem se (h : oS ds μ Qd) : gD { nx := fun _ μ' => Qd (.v .none) μ', rt := Qd } (aX ["d", "kinds", "place", "kind", "plan"] ds) μ := by
  obtain ⟨d, ks, i, rfl, hd, ho, hi, q⟩ := h
  have s5 := jt hd.1 hd.2.1
  obtain ⟨e1, hk⟩ := ey hi
  obtain ⟨ok, bk, sk⟩ := ho.ok _ hk
  have nk := aK hd ok sk
  have bc := bT s5 nk bk
  unfold gD
  walk_at "rn"
  rw [k8 e1]
  walk_at "rn"
  refine ⟨d, _, rfl, s5, nk, bk.mono (by decide), _, rfl, bc.mono (by decide), ?_⟩
  unfold grN grP at q
  cases e : grB (ao d (ks.getD i aw)) with
  | true =>
    rw [e, if_pos rfl, if_pos rfl] at q
    simp only [↓reduceIte]
    exact ⟨d, _, rfl, s5, nk, bk.mono (by decide), q⟩
  | false =>
    rw [e, if_neg (by decide), if_neg (by decide)] at q
    simp only [Bool.false_eq_true, ↓reduceIte]
    exact q
theorem FH {v : Int} : ∀ {l : List Int}, v ∈ l → ∃ j, zY v l = some j ∧ j < l.length ∧ l[j]? = some v
  | [], h => nomatch h
  | x :: r, h => by
    unfold zY
    by_cases e : x = v
    · rw [if_pos e]
      exact ⟨0, rfl, Nat.succ_pos _, by rw [e]; rfl⟩
    · rw [if_neg e]
      have h' : v ∈ r := (List.mem_cons.mp h).resolve_left (fun z => e z.symm)
      obtain ⟨j, h1, h2, h3⟩ := FH h'
      exact ⟨j + 1, by rw [h1]; rfl, Nat.succ_lt_succ h2, h3⟩
theorem vE {d : Int} {ks : List N3} {v : Int} (h : ks.any (fun k => decide (sgN d k = v)) = true) : zY v (ks.map (sgN d)) = some (iOf d ks v) ∧ iOf d ks v < ks.length ∧ sgN d (ks.getD (iOf d ks v) aw) = v := by
  obtain ⟨k, hk, hv⟩ := List.any_eq_true.mp h
  have hv' : sgN d k = v := by simpa using hv
  obtain ⟨j, h1, h2, h3⟩ := FH (l := ks.map (sgN d)) (v := v) (by rw [← hv']; exact List.mem_map_of_mem hk)
  have e : iOf d ks v = j := by unfold iOf; rw [h1]; rfl
  rw [List.length_map] at h2
  refine ⟨by rw [e]; exact h1, by rw [e]; exact h2, ?_⟩
  rw [e]
  rw [List.getElem?_map] at h3
  obtain ⟨g1, g2⟩ := ey h2
  have g3 : ks[j]? = some (ks.getD j aw) := by rw [List.getD_eq_getElem?_getD, List.getElem?_eq_getElem h2]; rfl
  rw [g3] at h3
  exact Option.some.inj h3
theorem D3 {d : Int} {k : N3} (ok : Ok k) (nk : norm d k ≠ 0) : (0 < norm d (ao d k) ↔ 0 < norm d k) ∧ (norm d (ao d k) < 0 ↔ norm d k < 0) := GH (vi ok nk)
structure Ur (d : Int) (k : N3) : Prop where
  ok : Ok (grN d k)
  bd : Bd 286 (grN d k)
  sg : NM.sg d (grN d k).a (grN d k).b = 1
  pos : 0 < norm d (grN d k) ↔ 0 < norm d k
  neg : norm d (grN d k) < 0 ↔ norm d k < 0
theorem Jx {d : Int} {k : N3} (hd : aA d) (ok : Ok k) (bk : Bd 140 k) (sk : sg d k.a k.b = 1) : Ur d k := by
  have s5 := jt hd.1 hd.2.1
  have nk := aK hd ok sk
  have n := D3 ok nk
  by_cases e : grB (ao d k) = true
  · have eg : grN d k = ao d k := if_pos e
    exact ⟨by rw [eg]; exact aB nk, by rw [eg]; exact bT s5 nk bk, by rw [eg]; exact dX hd ok sk, by rw [eg]; exact n.1, by rw [eg]; exact n.2⟩
  · have eg : grN d k = k := if_neg e
    exact ⟨by rw [eg]; exact ok, by rw [eg]; exact bk.mono (by decide), by rw [eg]; exact sk, by rw [eg], by rw [eg]⟩
theorem unlike {d : Int} {f g : N3} (hd : aA d) (of : Ok f) (og : Ok g) (hf : 0 < norm d f) (hg : norm d g < 0) : (shA d f g).b ≠ 0 := fun z => by
  have nf : norm d f ≠ 0 := by omega
  have r := wk of og nf (aq of) (aq og)
  have h := (zv r (ik og nf)).mp z
  have h2 := (Int.mul_eq_zero.mp h).resolve_left of.cn
  have h3 : g.b * f.a = g.a * f.b := by omega
  have e : norm d g * (f.a * f.a) = g.a * g.a * norm d f := by
    unfold norm
    have : (g.a * g.a - d * g.b * g.b) * (f.a * f.a) = g.a * g.a * (f.a * f.a) - d * ((g.b * f.a) * (g.b * f.a)) := by grind
    rw [this, h3]
    grind
  have fa : f.a ≠ 0 := fun z => by
    have h0 : norm d f = f.a * f.a - d * f.b * f.b := rfl
    have h1 := dsq (d := d) (b := f.b) (by have := hd.1; omega)
    rw [z] at h0
    omega
  have h5 := sq_pos fa
  have h6 := Int.mul_neg_of_neg_of_pos hg h5
  have h7 := Int.mul_nonneg (sq_nonneg g.a) (Int.le_of_lt hf)
  omega
theorem JH {d : Int} {k : N3} (h : sgN d k = 1) : 0 < norm d k := by
  unfold sgN at h
  rw [kG] at h
  split at h
  · cases h
  · split at h
    · assumption
    · cases h
theorem Ka {d : Int} {k : N3} (h : sgN d k = -1) : norm d k < 0 := by
  unfold sgN at h
  rw [kG] at h
  split at h
  · cases h
  · split at h
    · cases h
    · omega
theorem yu (h : Ex ds μ Qd) : kE { nx := fun _ μ' => Qd (.v .none) μ', rt := Qd } (aX ["d", "kinds", "shape", "signs", "first", "first_plan", "second", "second_plan", "is_contrary", "u", "v", "plan"] ds) μ := by
  obtain ⟨d, ks, s, rfl, hd, ho, hm, os, bs, hs, q⟩ := h
  have s5 := jt hd.1 hd.2.1
  have ns := aK hd os hs
  unfold dE at hm
  rw [Bool.and_eq_true] at hm
  obtain ⟨i1, i2, i3⟩ := vE hm.1
  obtain ⟨j1, j2, j3⟩ := vE hm.2
  obtain ⟨ok1, bk1, sk1⟩ := ho.ok _ (ey i2).2
  obtain ⟨ok2, bk2, sk2⟩ := ho.ok _ (ey j2).2
  have g1 := Jx hd ok1 bk1 sk1
  have g2 := Jx hd ok2 bk2 sk2
  have un := unlike hd g1.ok g2.ok (g1.pos.mpr (JH i3)) (g2.neg.mpr (Ka j3))
  unfold kE
  walk_at "rn"
  refine ⟨d, ks, rfl, hd, ho, ?_⟩
  walk_at "rn"
  rw [JX]
  walk_at "rn"
  refine ⟨_, _, rfl, i1, d, ks, _, rfl, hd, ho, i2, ?_⟩
  walk_at "rn"
  refine ⟨trivial, ?_⟩
  rw [JX]
  walk_at "rn"
  refine ⟨_, _, rfl, j1, d, ks, _, rfl, hd, ho, j2, ?_⟩
  walk_at "rn"
  refine ⟨trivial, s, rfl, bs.big.mono (by decide), ?_⟩
  unfold Fe LX at q
  cases e : grB s with
  | true =>
    rw [e, if_pos rfl, if_pos rfl] at q
    walk_at "rn"
    refine ⟨d, s, rfl, s5, ns, bs.big.mono (by decide), d, _, _, _, rfl, hd, g1.ok, eL g1.sg, g2.ok, aB ns, ⟨286, 286, 1420, g1.bd, g2.bd, bs.con, by decide, by decide, by decide, by decide⟩, un, ?_⟩
    walk_at "rn"
    refine ⟨trivial, _, _, _, _, rfl, ?_⟩
    exact q
  | false =>
    rw [e, if_neg (by decide), if_neg (by decide)] at q
    walk_at "rn"
    refine ⟨d, _, _, _, rfl, hd, g1.ok, eL g1.sg, g2.ok, os, ⟨286, 286, 1300, g1.bd, g2.bd, bs.big, by decide, by decide, by decide, by decide⟩, un, ?_⟩
    walk_at "rn"
    refine ⟨trivial, _, _, _, _, rfl, ?_⟩
    exact q
theorem LR : SeqAt.shaped (.str "plan") = true := by decide +kernel
theorem G5 : SeqAt.shaped (.str "bar") = true := by decide +kernel
theorem P9 : SeqAt.shaped (.str "mixture") = true := by decide +kernel
theorem Nq {a b : Str} {neg : Bool} {μ : Mu} {Q : DK} (ha : SeqAt.shaped (.str a) = true) (hb : SeqAt.shaped (.str b) = true) : dD neg (.v (.str a)) (.v (.str b)) μ Q = Q (.v (.bool (neg ^^ decide (a = b)))) μ := by
  rw [Gk]
  have e : PyData.eqv (.str a) (.str b) = decide (a = b) := by simp [PyData.eqv]; rfl
  rw [e]
  exact propext ⟨fun h => h.2.2, fun h => ⟨ha, hb, h⟩⟩
theorem AO {d : Int} {ks : List N3} (hd : aA d) (ho : da d ks) : Cu d ks < ks.length := by
  have l1 := ho.l1
  have hc : ∀ i, i < ks.length → 0 < (bA d (ks.getD i aw)).c := fun i hi => by
    obtain ⟨ok, _, sk⟩ := ho.ok _ (ey hi).2
    exact (eV hd (aK hd ok sk) ok).c
  have := (tG hc (ks.length - 1) (by omega)).1
  unfold Cu
  omega
theorem CS (h : E3 ds μ Qd) : pj { nx := fun _ μ' => Qd (.v .none) μ', rt := Qd } (aX ["d", "kinds", "shape", "place", "told"] ds) μ := by
  obtain ⟨d, ks, s, rfl, hd, ho, os, bs, hs, q⟩ := h
  unfold pj
  walk_at "rn"
  refine ⟨d, ks, rfl, hd, ho.l1, ho.l3, ho.ok, d, s, rfl, hd, os, bs.big.mono (by decide), hs, d, ks, rfl, hd, ho, ?_⟩
  unfold B3 at q
  unfold Ct
  cases hm : dE d ks with
  | true =>
    rw [hm, if_pos rfl] at q
    rw [if_pos rfl]
    rw [Lh]
    simp only [↓reduceIte]
    exact ⟨d, ks, s, rfl, hd, ho, hm, os, bs, hs, q⟩
  | false =>
    rw [hm, if_neg (by decide)] at q
    rw [if_neg (by decide)]
    have hlt := AO hd ho
    obtain ⟨e1, hk⟩ := ey hlt
    obtain ⟨ok, bk, sk⟩ := ho.ok _ hk
    walk_at "rn"
    rw [Oy]
    simp only [Bool.false_eq_true, ↓reduceIte]
    have e2 : atI (ks.map dN) ((fH d ks (ks.length - 1) : Nat) : Int) = some (dN (kx d ks)) := k8 e1
    rw [e2]
    refine ⟨d, kx d ks, s, rfl, hd, ok, bk.mono (by decide), sk, os, ⟨bs.big, fun z => bs.low (by unfold kU; rw [hm, z]; rfl)⟩, hs, ?_⟩
    unfold N5
    cases hx : fT d (kx d ks) s with
    | true =>
      rw [hx, if_pos rfl] at q
      rw [if_pos rfl]
      walk_at "rn"
      rw [Nq P9 G5]
      simp only [show decide (("mixture" : Str) = "bar") = false from by decide, Bool.xor_false, Bool.false_eq_true, ↓reduceIte]
      exact ⟨_, _, _, rfl, q⟩
    | false =>
      rw [hx, if_neg (by decide)] at q
      rw [if_neg (by decide)]
      walk_at "rn"
      rw [Nq G5 G5]
      simp only [decide_true, Bool.false_xor, ↓reduceIte]
      exact q
end
open PySem PySem.Spec PyProof.Rows NM
def weigh (d : Int) (p q s t w h : N3) : N3 := plus (times d w (plus (times d p h) (times d q (bH h)))) (times d (bH w) (plus (times d s h) (times d t (bH h))))
def gF (d : Int) (p q s t k : N3) : Bool :=
  if sg d (times d p k).a (times d p k).b < 0 then false else if sg d (times d t (bH k)).a (times d t (bH k)).b < 0 then false
  else !decide (dif d (times d (plus (times d q (bH k)) (times d s k)) (plus (times d q (bH k)) (times d s k))) (times d ⟨4, 0, 1⟩ (times d (times d p k) (times d t (bH k)))) = 1)
def W4 (p q s t : N3) : PyData := .tuple [dN p, dN q, dN s, dN t]
structure OkW (n n' : Nat) (p q s t : N3) : Prop where
  op : Ok p
  oq : Ok q
  os : Ok s
  ot : Ok t
  bp : Bd n p
  bq : Bd n' q
  bs : Bd n' s
  bt : Bd n t
noncomputable def yX : DSp := fun ds μ Q => ∃ (d : Int) (p q s t k : N3) (n n' m : Nat), ds = [.v (.int d), .v (W4 p q s t), .v (dN k)] ∧ aA d ∧ OkW n n' p q s t ∧ Ok k ∧ Bd m k ∧ 2 * (n + m) + 40 ≤ 4300 ∧ 4 * (n' + m) + 40 ≤ 4300 ∧ Q (.v (.bool (gF d p q s t k))) μ
theorem FZ {μ : Mu} {Q : DK} {ds : List D} (h : yX ds μ Q) : ds.length = 3 := by obtain ⟨_, _, _, _, _, _, _, _, _, rfl, _⟩ := h; rfl
noncomputable def tw : DSp := fun ds μ Q => ∃ (d : Int) (p q s t w h : N3) (n n' m l : Nat), ds = [.v (.int d), .v (W4 p q s t), .v (dN w), .v (dN h)] ∧ aA d ∧ OkW n n' p q s t ∧ Ok w ∧ Bd m w ∧ Ok h ∧ Bd l h ∧ n + n' + 2 * l + m + 30 ≤ 4300 ∧ Q (.v (dN (weigh d p q s t w h))) μ
theorem AU {μ : Mu} {Q : DK} {ds : List D} (h : tw ds μ Q) : ds.length = 4 := by obtain ⟨_, _, _, _, _, _, _, _, _, _, _, rfl, _⟩ := h; rfl
def Cc (d : Int) (ks : List N3) (shape w p q s t : N3) : Bool := ks.all (fun k => gF d p q s t k && gF d p q s t (ao d k)) && decide (sg d (weigh d p q s t w (times d shape w)).a (weigh d p q s t w (times d shape w)).b < 0)
section
variable {μ : Mu} {Qd : DK} {ds : List D}
theorem MZ {d : Int} {p q s t w h : N3} {n n' m l : Nat} (hd : aA d) (o4 : OkW n n' p q s t) (ow : Ok w) (bw : Bd m w) (oh : Ok h) (bh : Bd l h) : Bd (2 * (n + n' + 2 * l + m + 30)) (weigh d p q s t w h) := by
  obtain ⟨op, oq, os, ot, bp, bq, bs, bt⟩ := o4
  have s5 := jt hd.1 hd.2.1
  have omh := aD oh
  have bmh := dM bh
  have o1 := ai (d := d) op oh
  have o2 := ai (d := d) oq omh
  have o3 := ai (d := d) os oh
  have o4 := ai (d := d) ot omh
  have b12 := fj o1 o2 (aT s5 op oh bp bh) (aT s5 oq omh bq bmh)
  have b34 := fj o3 o4 (aT s5 os oh bs bh) (aT s5 ot omh bt bmh)
  have o12 := bM o1 o2
  have o34 := bM o3 o4
  exact (fj (ai ow o12) (ai (aD ow) o34) (aT s5 ow o12 bw b12) (aT s5 (aD ow) o34 (dM bw) b34)).mono (by omega)
theorem LP {ks : List N3} {i : Nat} {x : PyData} (h : (ks.map dN)[i]? = some x) : ∃ k, ks[i]? = some k ∧ x = dN k := by
  rw [List.getElem?_map] at h
  cases e : ks[i]? with
  | none => rw [e] at h; cases h
  | some k => rw [e] at h; cases h; exact ⟨k, rfl, rfl⟩
theorem Au {ks : List N3} {f : N3 → Bool} {k : N3} (hk : k ∈ ks) (h : f k = false) : ks.all f = false := by
  cases e : ks.all f with
  | false => rfl
  | true => have := List.all_eq_true.mp e k hk; rw [h] at this; cases this
theorem IX {α : Type} {P : α → Prop} {ks : List α} {i : Nat} {k : α} (h : ks[i]? = some k) (h1 : ∀ x ∈ ks.take i, P x) (h2 : P k) : ∀ x ∈ ks.take (i + 1), P x := fun x hx => by
  obtain ⟨hi, e⟩ := List.getElem?_eq_some_iff.mp h
  rw [List.take_succ_eq_append_getElem hi, e] at hx
  rcases List.mem_append.mp hx with hx | hx
  · exact h1 x hx
  · rw [List.mem_singleton.mp hx]; exact h2
end
open PySem PySem.Spec PyProof.Rows NM
section
variable {d : Int} {k s k2 : N3} {w : Int}
theorem tt1 {t : Int} (h : t = 1 ∨ t = -1) : t * t = 1 := by rcases h with rfl | rfl <;> rfl
theorem yT (ox : Ok s) (hw : 0 < w) : Rep (lT s w) 0 (2 * s.b) s.c := by
  unfold lT
  rw [if_pos hw]
  exact (Rep.less ox (aD ox) (aq ox) (aq (aD ox))).conv ox.cn (by show (s.a * s.c - s.a * s.c) * s.c = 0 * _; grind) (by show (s.b * s.c - -s.b * s.c) * s.c = 2 * s.b * (s.c * s.c); grind)
theorem y0 (ox : Ok s) (hw : ¬ 0 < w) : Rep (lT s w) (2 * s.a) 0 s.c := by
  unfold lT
  rw [if_neg hw]
  exact (Rep.plus ox (aD ox) (aq ox) (aq (aD ox))).conv ox.cn (by show (s.a * s.c + s.a * s.c) * s.c = 2 * s.a * (s.c * s.c); grind) (by show (s.b * s.c + -s.b * s.c) * s.c = 0 * _; grind)
structure ky (d : Int) (k s : N3) (w : Int) : Prop where
  hd : aA d
  ok : Ok k
  hk : sg d k.a k.b = 1
  os : Ok s
  hs : sg d s.a s.b = 1
  ne : lT s w ≠ aw
theorem ky.ht (h : ky d k s w) : aJ d s w = 1 ∨ aJ d s w = -1 := Gp (cA h.os) h.ne
theorem ky.nm (h : ky d k s w) : norm d (bH s) ≠ 0 := by rw [Cs]; exact aK h.hd h.os h.hs
theorem ky.ol (h : ky d k s w) : Ok (bLast d s w) := ai (ai (iG h.ht) (cA h.os)) (aB h.nm)
theorem ky.nl (h : ky d k s w) : bLast d s w ≠ aw := kv h.hd (ai (iG h.ht) (cA h.os)) (aB h.nm) (kv h.hd (iG h.ht) (cA h.os) (JF h.ht) h.ne) (Lf h.hd (aD h.os) (tI (eL h.hs)))
theorem ky.nn (h : ky d k s w) : norm d (bLast d s w) ≠ 0 := h.hd.norm h.ol h.nl
theorem Pp (h : ky d k s w) (hw : 0 < w) : 0 < aJ d s w * s.b := by
  have r := JI h.hd (cA (w := w) h.os) (yT h.os hw)
  have hc := h.os.c
  have e : 2 * s.b * s.c = s.b * (2 * s.c) := by grind
  rw [e] at r
  rcases h.ht with t | t
  · rw [t, Int.one_mul]
    have := r.1.mp t
    exact CY this (by omega)
  · rw [t]
    have := r.2.mp t
    have h2 : 0 < -s.b := CY (y := 2 * s.c) (by rw [Int.neg_mul]; omega) (by omega)
    omega
theorem Py (h : ky d k s w) (hw : ¬ 0 < w) : 0 < aJ d s w * s.a := by
  have r := vI h.hd (cA (w := w) h.os) (y0 h.os hw)
  have hc := h.os.c
  have e : 2 * s.a * s.c = s.a * (2 * s.c) := by grind
  rw [e] at r
  rcases h.ht with t | t
  · rw [t, Int.one_mul]
    have := r.1.mp t
    exact CY this (by omega)
  · rw [t]
    have := r.2.mp t
    have h2 : 0 < -s.a := CY (y := 2 * s.c) (by rw [Int.neg_mul]; omega) (by omega)
    omega
theorem B8 (h : ky d k s w) (hw : 0 < w) : Rep (bLast d s w) (aJ d s w * (d * s.b * s.b)) (aJ d s w * (s.b * s.a)) (norm d s) := by
  have oh := iG h.ht
  have of := cA (w := w) h.os
  have r3 := Rep.times (d := d) (ai (d := d) oh of) (aB h.nm) (Rep.times (d := d) oh of (aq oh) (yT h.os hw)) ((aq (aD h.os)).ao (d := d) (aD h.os) h.nm)
  refine r3.conv (aK h.hd h.os h.hs) ?_ ?_
  · show ((aJ d s w * 0 + d * 0 * (2 * s.b)) * (s.c * s.a) + d * (aJ d s w * (2 * s.b) + 0 * 0) * (-s.c * -s.b)) * norm d s = aJ d s w * (d * s.b * s.b) * (2 * s.c * (s.a * s.a - d * -s.b * -s.b))
    unfold norm; grind
  · show ((aJ d s w * 0 + d * 0 * (2 * s.b)) * (-s.c * -s.b) + (aJ d s w * (2 * s.b) + 0 * 0) * (s.c * s.a)) * norm d s = aJ d s w * (s.b * s.a) * (2 * s.c * (s.a * s.a - d * -s.b * -s.b))
    unfold norm; grind
theorem Cq (h : ky d k s w) (hw : ¬ 0 < w) : Rep (bLast d s w) (aJ d s w * (s.a * s.a)) (aJ d s w * (s.a * s.b)) (norm d s) := by
  have oh := iG h.ht
  have of := cA (w := w) h.os
  have r3 := Rep.times (d := d) (ai (d := d) oh of) (aB h.nm) (Rep.times (d := d) oh of (aq oh) (y0 h.os hw)) ((aq (aD h.os)).ao (d := d) (aD h.os) h.nm)
  refine r3.conv (aK h.hd h.os h.hs) ?_ ?_
  · show ((aJ d s w * (2 * s.a) + d * 0 * 0) * (s.c * s.a) + d * (aJ d s w * 0 + 0 * (2 * s.a)) * (-s.c * -s.b)) * norm d s = aJ d s w * (s.a * s.a) * (2 * s.c * (s.a * s.a - d * -s.b * -s.b))
    unfold norm; grind
  · show ((aJ d s w * (2 * s.a) + d * 0 * 0) * (-s.c * -s.b) + (aJ d s w * 0 + 0 * (2 * s.a)) * (s.c * s.a)) * norm d s = aJ d s w * (s.a * s.b) * (2 * s.c * (s.a * s.a - d * -s.b * -s.b))
    unfold norm; grind
theorem jy : Ok ⟨4, 0, 1⟩ := yR 4
theorem Ah (hd : aA d) (ok : Ok k) (hk : sg d k.a k.b = 1) : norm d (times d ⟨4, 0, 1⟩ (times d k (bH k))) ≠ 0 := hd.norm (ai jy (ai ok (aD ok))) (kv hd jy (ai ok (aD ok)) (fun e => absurd (congrArg N3.a e) (by decide)) (kv hd ok (aD ok) (eL hk) (tI (eL hk))))
theorem Ii (ok : Ok k) : Rep (times d k (bH k)) (norm d k) 0 (k.c * k.c) := (Rep.times (d := d) ok (aD ok) (aq ok) (aq (aD ok))).congr (by show k.a * k.a + d * k.b * -k.b = _; unfold norm; grind) (by show k.a * -k.b + k.b * k.a = 0; grind) rfl
theorem J7 (ok : Ok k) : Rep (times d ⟨4, 0, 1⟩ (times d k (bH k))) (4 * norm d k) 0 (k.c * k.c) := (Rep.times (d := d) jy (ai (d := d) ok (aD ok)) (aq jy) (Ii ok)).congr (by show 4 * norm d k + d * 0 * 0 = _; grind) (by show 4 * 0 + 0 * norm d k = 0; grind) (by show 1 * _ = _; grind)
theorem sY (hd : aA d) (ok : Ok k) (hk : sg d k.a k.b = 1) : Ok (nc d k w) := ai (ai (cA ok) (cA ok)) (aB (Ah hd ok hk))
theorem xP (hd : aA d) (ok : Ok k) (hk : sg d k.a k.b = 1) (hw : 0 < w) : Rep (nc d k w) (d * k.b * k.b) 0 (norm d k) := by
  have r := Rep.times (d := d) (ai (d := d) (cA (w := w) ok) (cA ok)) (aB (Ah hd ok hk)) (Rep.times (d := d) (cA ok) (cA ok) (yT ok hw) (yT ok hw)) ((J7 ok).ao (ai jy (ai ok (aD ok))) (Ah hd ok hk))
  refine r.conv (aK hd ok hk) ?_ ?_ <;> grind
theorem xt (hd : aA d) (ok : Ok k) (hk : sg d k.a k.b = 1) (hw : ¬ 0 < w) : Rep (nc d k w) (k.a * k.a) 0 (norm d k) := by
  have r := Rep.times (d := d) (ai (d := d) (cA (w := w) ok) (cA ok)) (aB (Ah hd ok hk)) (Rep.times (d := d) (cA ok) (cA ok) (y0 ok hw) (y0 ok hw)) ((J7 ok).ao (ai jy (ai ok (aD ok))) (Ah hd ok hk))
  refine r.conv (aK hd ok hk) ?_ ?_ <;> grind
def bP (d : Int) (k s : N3) (w : Int) : N3 := times d (nc d k w) (ao d (bLast d s w))
theorem ky.op (h : ky d k s w) : Ok (bP d k s w) := ai (sY h.hd h.ok h.hk) (aB h.nn)
theorem Mj (h : ky d k s w) (hw : 0 < w) : Rep (bP d k s w) (-(aJ d s w * (d * k.b * k.b * s.b))) (aJ d s w * (k.b * k.b * s.a)) (norm d k * s.b) := by
  have tt := tt1 h.ht
  have tp := Pp h hw
  have sb : s.b ≠ 0 := fun z => by rw [z, Int.mul_zero] at tp; omega
  have nk := aK h.hd h.ok h.hk
  have ns := aK h.hd h.os h.hs
  have d0 : d ≠ 0 := by have := h.hd.1; omega
  have rc : Rep (ao d (bLast d s w)) (-(aJ d s w * (d * s.b))) (aJ d s w * s.a) (d * s.b) := by
    refine ((B8 h hw).ao h.ol h.nn).conv (Int.mul_ne_zero d0 sb) ?_ ?_
    · generalize aJ d s w = t at *
      have e : t * (d * s.b * s.b) * (t * (d * s.b * s.b)) - d * (t * (s.b * s.a)) * (t * (s.b * s.a)) = (t * t) * (-(d * s.b * s.b) * norm d s) := by unfold norm; grind
      rw [e, tt]
      grind
    · generalize aJ d s w = t at *
      have e : t * (d * s.b * s.b) * (t * (d * s.b * s.b)) - d * (t * (s.b * s.a)) * (t * (s.b * s.a)) = (t * t) * (-(d * s.b * s.b) * norm d s) := by unfold norm; grind
      rw [e, tt]
      grind
  refine (Rep.times (d := d) (sY h.hd h.ok h.hk) (aB h.nn) (xP h.hd h.ok h.hk hw) rc).conv (Int.mul_ne_zero nk sb) ?_ ?_ <;> grind
theorem Nm (h : ky d k s w) (hw : ¬ 0 < w) : Rep (bP d k s w) (aJ d s w * (k.a * k.a * s.a)) (-(aJ d s w * (k.a * k.a * s.b))) (norm d k * s.a) := by
  have tt := tt1 h.ht
  have tp := Py h hw
  have sa : s.a ≠ 0 := fun z => by rw [z, Int.mul_zero] at tp; omega
  have nk := aK h.hd h.ok h.hk
  have ns := aK h.hd h.os h.hs
  have rc : Rep (ao d (bLast d s w)) (aJ d s w * s.a) (-(aJ d s w * s.b)) s.a := by
    refine ((Cq h hw).ao h.ol h.nn).conv sa ?_ ?_
    · generalize aJ d s w = t at *
      have e : t * (s.a * s.a) * (t * (s.a * s.a)) - d * (t * (s.a * s.b)) * (t * (s.a * s.b)) = (t * t) * (s.a * s.a * norm d s) := by unfold norm; grind
      rw [e, tt]
      grind
    · generalize aJ d s w = t at *
      have e : t * (s.a * s.a) * (t * (s.a * s.a)) - d * (t * (s.a * s.b)) * (t * (s.a * s.b)) = (t * t) * (s.a * s.a * norm d s) := by unfold norm; grind
      rw [e, tt]
      grind
  refine (Rep.times (d := d) (sY h.hd h.ok h.hk) (aB h.nn) (xt h.hd h.ok h.hk hw) rc).conv (Int.mul_ne_zero nk sa) ?_ ?_ <;> grind
end
open PySem PySem.Spec PyProof.Rows NM
section
variable {d : Int} {k s k2 : N3} {w : Int}
theorem Mk (hd : aA d) {t : Int} (h : t = 1 ∨ t = -1) : sg d (⟨t, 0, 1⟩ : N3).a (⟨t, 0, 1⟩ : N3).b = t := by
  show sg d t 0 = t
  rw [kG]
  rcases h with rfl | rfl <;> rfl
theorem LW (hd : aA d) {t : Int} (h : t = 1 ∨ t = -1) : sg d (⟨t, 0, 2⟩ : N3).a (⟨t, 0, 2⟩ : N3).b = t := by
  show sg d t 0 = t
  rw [kG]
  rcases h with rfl | rfl <;> rfl
theorem Jt (h : ky d k s w) : sg d (bLast d s w).a (bLast d s w).b = aU d s := by
  have of := cA (w := w) h.os
  have oh := iG h.ht
  unfold bLast
  rw [cb h.hd (ai oh of) (aB h.nm), cb h.hd oh of, LW h.hd h.ht, La h.hd (aD h.os) h.nm]
  show aJ d s w * aJ d s w * aU d s = aU d s
  rw [tt1 h.ht, Int.one_mul]
theorem iT (hd : aA d) (ok : Ok k) (hk : sg d k.a k.b = 1) (h : 0 < norm d k) : aU d k = 1 := by
  rcases iS hd ok hk with ⟨a, b⟩ | ⟨a, b⟩
  · exact a
  · omega
theorem iK (hd : aA d) (ok : Ok k) (hk : sg d k.a k.b = 1) (h : norm d k < 0) : aU d k = -1 := by
  rcases iS hd ok hk with ⟨a, b⟩ | ⟨a, b⟩
  · omega
  · exact a
theorem TY (h : ky d k s (aU d k)) (hw : aU d s = aU d k) : 0 ≤ sg d (bP d k s (aU d k)).a (bP d k s (aU d k)).b := by
  have ob := sY (w := aU d k) h.hd h.ok h.hk
  unfold bP
  rw [cb h.hd ob (aB h.nn), La h.hd h.ol h.nn, Jt h, hw]
  have d0 : 0 < d := by have := h.hd.1; omega
  rcases iS h.hd h.ok h.hk with ⟨a, b⟩ | ⟨a, b⟩
  · have r := vI h.hd ob (xP h.hd h.ok h.hk (by rw [a]; decide))
    have hn : 0 ≤ d * k.b * k.b * norm d k := Int.mul_nonneg (dsq d0) (Int.le_of_lt b)
    rw [a] at r ⊢
    rcases jv d (nc d k 1).a (nc d k 1).b with z | z | z
    · rw [z]; decide
    · rw [z]; decide
    · have := r.2.mp z; omega
  · have r := vI h.hd ob (xt h.hd h.ok h.hk (by rw [a]; decide))
    have hn : k.a * k.a * norm d k ≤ 0 := by
      have := Int.mul_nonneg (sq_nonneg k.a) (show 0 ≤ -norm d k by omega)
      rw [Int.mul_neg] at this
      omega
    rw [a] at r ⊢
    rcases jv d (nc d k (-1)).a (nc d k (-1)).b with z | z | z
    · rw [z]; decide
    · have := r.1.mp z; omega
    · rw [z]; decide
theorem Qu (h : ky d k s w) : times d (bP d k s w) (bLast d s w) = nc d k w := by
  have ob := sY (w := w) h.hd h.ok h.hk
  unfold bP
  rw [NU ob (aB h.nn) h.ol, Hq (aB h.nn) h.ol, gB h.ol h.nn, Pw ob]
theorem Ov (h : ky d k s w) (ok2 : Ok k2) : times d (times d (bP d k s w) k2) (times d (bLast d s w) (bH k2)) = times d (nc d k w) (times d k2 (bH k2)) := by
  rw [PM h.op ok2 h.ol (aD ok2), Qu h]
theorem cR (t : Int) : Ok ⟨t, 0, 1⟩ := yR t
theorem RQ (ok2 : Ok k2) {t : Int} : Rep (plus (times d ⟨1 * t, 0, 1⟩ (bH k2)) (times d ⟨-t, 0, 1⟩ k2)) 0 (-(2 * (t * k2.b))) k2.c := by
  refine (Rep.plus (ai (d := d) (cR (1 * t)) (aD ok2)) (ai (d := d) (cR (-t)) ok2) (Rep.times (d := d) (cR (1 * t)) (aD ok2) (aq (cR (1 * t))) (aq (aD ok2))) (Rep.times (d := d) (cR (-t)) ok2 (aq (cR (-t))) (aq ok2))).conv ok2.cn ?_ ?_
  · show ((1 * t * k2.a + d * 0 * -k2.b) * (1 * k2.c) + (-t * k2.a + d * 0 * k2.b) * (1 * k2.c)) * k2.c = 0 * _
    grind
  · show ((1 * t * -k2.b + 0 * k2.a) * (1 * k2.c) + (-t * k2.b + 0 * k2.a) * (1 * k2.c)) * k2.c = -(2 * (t * k2.b)) * (1 * k2.c * (1 * k2.c))
    grind
theorem Su (ok2 : Ok k2) {t : Int} : Rep (plus (times d ⟨-1 * t, 0, 1⟩ (bH k2)) (times d ⟨-t, 0, 1⟩ k2)) (-(2 * (t * k2.a))) 0 k2.c := by
  refine (Rep.plus (ai (d := d) (cR (-1 * t)) (aD ok2)) (ai (d := d) (cR (-t)) ok2) (Rep.times (d := d) (cR (-1 * t)) (aD ok2) (aq (cR (-1 * t))) (aq (aD ok2))) (Rep.times (d := d) (cR (-t)) ok2 (aq (cR (-t))) (aq ok2))).conv ok2.cn ?_ ?_
  · show ((-1 * t * k2.a + d * 0 * -k2.b) * (1 * k2.c) + (-t * k2.a + d * 0 * k2.b) * (1 * k2.c)) * k2.c = -(2 * (t * k2.a)) * (1 * k2.c * (1 * k2.c))
    grind
  · show ((-1 * t * -k2.b + 0 * k2.a) * (1 * k2.c) + (-t * k2.b + 0 * k2.a) * (1 * k2.c)) * k2.c = 0 * _
    grind
theorem Ge {x y : N3} {A B C E : Int} (hd : aA d) (ox : Ok x) (oy : Ok y) (rx : Rep x A 0 C) (ry : Rep y B 0 E) (h : (A * E - B * C) * (C * E) ≤ 0) : dif d x y ≠ 1 := fun z => by
  have r := Rep.less ox oy rx ry
  rw [Int.zero_mul, Int.zero_mul, Int.sub_zero] at r
  have := (vI hd (lH ox oy) r).1
  rw [Of hd ox oy] at this
  have := this.mp z
  omega
theorem KQ (h : ky d k s (aU d k)) (hw : aU d s = aU d k) (ok2 : Ok k2) (hk2 : sg d k2.a k2.b = 1) (hl : Lay d k k2) : gF d (bP d k s (aU d k)) ⟨aU d k * aJ d s (aU d k), 0, 1⟩ ⟨-aJ d s (aU d k), 0, 1⟩ (bLast d s (aU d k)) k2 = true := by
  have d0 : 0 < d := by have := h.hd.1; omega
  have hp := TY h hw
  have s1 : ¬ sg d (times d (bP d k s (aU d k)) k2).a (times d (bP d k s (aU d k)) k2).b < 0 := by
    rw [cb h.hd h.op ok2, hk2]; omega
  have w2 : aU d k2 = aU d k := by
    rcases hl with ⟨a, b, _⟩ | ⟨a, b, _⟩
    · rw [iT h.hd ok2 hk2 b, iT h.hd h.ok h.hk a]
    · rw [iK h.hd ok2 hk2 b, iK h.hd h.ok h.hk a]
  have s2 : ¬ sg d (times d (bLast d s (aU d k)) (bH k2)).a (times d (bLast d s (aU d k)) (bH k2)).b < 0 := by
    rw [cb h.hd h.ol (aD ok2), Jt h, hw]
    show ¬ aU d k * aU d k2 < 0
    rw [w2]
    have := sq_nonneg (aU d k)
    omega
  unfold gF
  rw [if_neg s1, if_neg s2, Ov h ok2]
  rw [Bool.not_eq_true', decide_eq_false_iff_not]
  have ob := sY (w := aU d k) h.hd h.ok h.hk
  have okm := ai (d := d) ok2 (aD ok2)
  have tt := tt1 h.ht
  have hc := ok2.c
  rcases hl with ⟨a, b, c⟩ | ⟨a, b, c⟩
  · have ew := iT h.hd h.ok h.hk a
    rw [ew] at h ob tt ⊢
    have om := bM (ai (d := d) (cR (1 * aJ d s 1)) (aD ok2)) (ai (d := d) (cR (-aJ d s 1)) ok2)
    have rx := Rep.times (d := d) om om (RQ ok2) (RQ ok2)
    have ry := Rep.times (d := d) jy (ai (d := d) ob okm) (aq jy) (Rep.times (d := d) ob okm (xP h.hd h.ok h.hk (by decide)) (Ii ok2))
    have rx2 := rx.congr (A' := 4 * (d * k2.b * k2.b)) (B' := 0) (by
      generalize aJ d s 1 = t at *
      have : 0 * 0 + d * -(2 * (t * k2.b)) * -(2 * (t * k2.b)) = 4 * (d * k2.b * k2.b) * (t * t) := by grind
      rw [this, tt]; grind) (by grind) rfl
    have ry2 := ry.congr (A' := 4 * (d * k.b * k.b * norm d k2)) (B' := 0) (C' := norm d k * (k2.c * k2.c)) (by show 4 * (d * k.b * k.b * norm d k2 + d * 0 * 0) + d * 0 * (d * k.b * k.b * 0 + 0 * norm d k2) = _; grind) (by show 4 * (d * k.b * k.b * 0 + 0 * norm d k2) + 0 * (d * k.b * k.b * norm d k2 + d * 0 * 0) = 0; grind) (by show 1 * _ = _; grind)
    refine Ge h.hd (ai om om) (ai jy (ai ob okm)) rx2 ry2 ?_
    have e : (4 * (d * k2.b * k2.b) * (norm d k * (k2.c * k2.c)) - 4 * (d * k.b * k.b * norm d k2) * (k2.c * k2.c)) * (k2.c * k2.c * (norm d k * (k2.c * k2.c))) = 4 * (d * (k2.c * k2.c * (k2.c * k2.c) * (k2.c * k2.c))) * (norm d k * (k2.b * k2.b * (k.a * k.a) - k2.a * k2.a * (k.b * k.b))) := by unfold norm; grind
    rw [e]
    have p1 : 0 ≤ 4 * (d * (k2.c * k2.c * (k2.c * k2.c) * (k2.c * k2.c))) := by
      have := sq_nonneg k2.c
      exact Int.mul_nonneg (by decide) (Int.mul_nonneg (by omega) (Int.mul_nonneg (Int.mul_nonneg this this) this))
    have p2 : 0 ≤ norm d k * (k2.a * k2.a * (k.b * k.b) - k2.b * k2.b * (k.a * k.a)) := Int.mul_nonneg (by omega) (by omega)
    have p3 := Int.mul_nonneg p1 p2
    have e2 : norm d k * (k2.b * k2.b * (k.a * k.a) - k2.a * k2.a * (k.b * k.b)) = -(norm d k * (k2.a * k2.a * (k.b * k.b) - k2.b * k2.b * (k.a * k.a))) := by grind
    rw [e2, Int.mul_neg]
    omega
  · have ew := iK h.hd h.ok h.hk a
    rw [ew] at h ob tt ⊢
    have om := bM (ai (d := d) (cR (-1 * aJ d s (-1))) (aD ok2)) (ai (d := d) (cR (-aJ d s (-1))) ok2)
    have rx := Rep.times (d := d) om om (Su ok2) (Su ok2)
    have ry := Rep.times (d := d) jy (ai (d := d) ob okm) (aq jy) (Rep.times (d := d) ob okm (xt h.hd h.ok h.hk (by decide)) (Ii ok2))
    have rx2 := rx.congr (A' := 4 * (k2.a * k2.a)) (B' := 0) (by
      generalize aJ d s (-1) = t at *
      have : -(2 * (t * k2.a)) * -(2 * (t * k2.a)) + d * 0 * 0 = 4 * (k2.a * k2.a) * (t * t) := by grind
      rw [this, tt]; grind) (by grind) rfl
    have ry2 := ry.congr (A' := 4 * (k.a * k.a * norm d k2)) (B' := 0) (C' := norm d k * (k2.c * k2.c)) (by show 4 * (k.a * k.a * norm d k2 + d * 0 * 0) + d * 0 * (k.a * k.a * 0 + 0 * norm d k2) = _; grind) (by show 4 * (k.a * k.a * 0 + 0 * norm d k2) + 0 * (k.a * k.a * norm d k2 + d * 0 * 0) = 0; grind) (by show 1 * _ = _; grind)
    refine Ge h.hd (ai om om) (ai jy (ai ob okm)) rx2 ry2 ?_
    have e : (4 * (k2.a * k2.a) * (norm d k * (k2.c * k2.c)) - 4 * (k.a * k.a * norm d k2) * (k2.c * k2.c)) * (k2.c * k2.c * (norm d k * (k2.c * k2.c))) = 4 * (d * (k2.c * k2.c * (k2.c * k2.c) * (k2.c * k2.c))) * (norm d k * (k2.b * k2.b * (k.a * k.a) - k2.a * k2.a * (k.b * k.b))) := by unfold norm; grind
    rw [e]
    have p1 : 0 ≤ 4 * (d * (k2.c * k2.c * (k2.c * k2.c) * (k2.c * k2.c))) := by
      have := sq_nonneg k2.c
      exact Int.mul_nonneg (by decide) (Int.mul_nonneg (by omega) (Int.mul_nonneg (Int.mul_nonneg this this) this))
    have p2 : 0 ≤ -norm d k * (k2.b * k2.b * (k.a * k.a) - k2.a * k2.a * (k.b * k.b)) := Int.mul_nonneg (by omega) (by omega)
    have p3 := Int.mul_nonneg p1 p2
    have e2 : -norm d k * (k2.b * k2.b * (k.a * k.a) - k2.a * k2.a * (k.b * k.b)) = -(norm d k * (k2.b * k2.b * (k.a * k.a) - k2.a * k2.a * (k.b * k.b))) := by grind
    rw [e2, Int.mul_neg] at p3
    omega
end
open PySem PySem.Spec PyProof.Rows NM
section
variable {d : Int} {k s k2 : N3} {w : Int}
theorem HP (hd : aA d) {p q r t : N3} (op : Ok p) (oq : Ok q) (or' : Ok r) (ot : Ok t) (os : Ok s) : weigh d p q r t one (times d s one) = plus (plus (times d p s) (times d q (bH s))) (plus (times d r s) (times d t (bH s))) := by
  have om := aD os
  unfold weigh
  rw [Pw os, show bH one = one from rfl, MQ (bM (ai op os) (ai oq om)), MQ (bM (ai or' os) (ai ot om))]
theorem Pc (t : Int) : Rep (⟨t, 0, 1⟩ : N3) t 0 1 := aq (cR t)
theorem N6 {t : Int} (os : Ok s) : Rep (times d ⟨t, 0, 1⟩ s) (t * s.a) (t * s.b) s.c := (Rep.times (d := d) (cR t) os (Pc t) (aq os)).congr (by grind) (by grind) (by grind)
theorem HL (h : ky d k s 1) (hn : 0 < norm d k) (hl : s.a * s.a * (k.b * k.b) < s.b * s.b * (k.a * k.a)) : sg d (weigh d (bP d k s 1) ⟨1 * aJ d s 1, 0, 1⟩ ⟨-aJ d s 1, 0, 1⟩ (bLast d s 1) one (times d s one)).a (weigh d (bP d k s 1) ⟨1 * aJ d s 1, 0, 1⟩ ⟨-aJ d s 1, 0, 1⟩ (bLast d s 1) one (times d s one)).b < 0 := by
  have om := aD h.os
  have tp := Pp h (by decide)
  have sb : s.b ≠ 0 := fun z => by rw [z, Int.mul_zero] at tp; omega
  have nk := aK h.hd h.ok h.hk
  have ns := aK h.hd h.os h.hs
  have gc := h.os.cn
  rw [HP h.hd h.op (cR _) (cR _) h.ol h.os]
  have r1 : Rep (times d (bP d k s 1) s) 0 (aJ d s 1 * (k.b * k.b * norm d s)) (norm d k * s.b * s.c) := (Rep.times (d := d) h.op h.os (Mj h (by decide)) (aq h.os)).congr (by grind) (by unfold norm; grind) rfl
  have r2 := N6 (d := d) (t := 1 * aJ d s 1) om
  have r3 := N6 (d := d) (t := -aJ d s 1) h.os
  have r4 : Rep (times d (bLast d s 1) (bH s)) 0 (aJ d s 1 * s.b) s.c := by
    refine (Rep.times (d := d) h.ol om (B8 h (by decide)) (aq om)).conv gc ?_ ?_
    · show (aJ d s 1 * (d * s.b * s.b) * s.a + d * (aJ d s 1 * (s.b * s.a)) * -s.b) * s.c = 0 * _
      grind
    · show (aJ d s 1 * (d * s.b * s.b) * -s.b + aJ d s 1 * (s.b * s.a) * s.a) * s.c = aJ d s 1 * s.b * (norm d s * s.c)
      unfold norm; grind
  have o12 := bM (ai (d := d) h.op h.os) (ai (d := d) (cR (1 * aJ d s 1)) om)
  have o34 := bM (ai (d := d) (cR (-aJ d s 1)) h.os) (ai (d := d) h.ol om)
  have r34 : Rep (plus (times d ⟨-aJ d s 1, 0, 1⟩ s) (times d (bLast d s 1) (bH s))) (-(aJ d s 1 * s.a)) 0 s.c := by
    refine (Rep.plus (ai (cR _) h.os) (ai h.ol om) r3 r4).conv gc ?_ ?_ <;> grind
  have r := Rep.plus o12 o34 (Rep.plus (ai h.op h.os) (ai (cR _) om) r1 r2) r34
  have rX : Rep (plus (plus (times d (bP d k s 1) s) (times d ⟨1 * aJ d s 1, 0, 1⟩ (bH s))) (plus (times d ⟨-aJ d s 1, 0, 1⟩ s) (times d (bLast d s 1) (bH s)))) 0 (aJ d s 1 * (s.a * s.a * (k.b * k.b) - s.b * s.b * (k.a * k.a))) (norm d k * s.b * s.c) := by
    refine r.conv (Int.mul_ne_zero (Int.mul_ne_zero nk sb) gc) ?_ ?_
    · show ((0 * s.c + 1 * aJ d s 1 * s.a * (norm d k * s.b * s.c)) * s.c + -(aJ d s 1 * s.a) * (norm d k * s.b * s.c * s.c)) * (norm d k * s.b * s.c) = 0 * _
      generalize norm d k = N
      grind
    · show ((aJ d s 1 * (k.b * k.b * norm d s) * s.c + 1 * aJ d s 1 * -s.b * (norm d k * s.b * s.c)) * s.c + 0 * (norm d k * s.b * s.c * s.c)) * (norm d k * s.b * s.c) = aJ d s 1 * (s.a * s.a * (k.b * k.b) - s.b * s.b * (k.a * k.a)) * (norm d k * s.b * s.c * s.c * s.c)
      have e : k.b * k.b * norm d s - norm d k * (s.b * s.b) = s.a * s.a * (k.b * k.b) - s.b * s.b * (k.a * k.a) := by unfold norm; grind
      rw [← e]
      generalize norm d k = N
      generalize norm d s = M
      grind
  have hs := (JI h.hd (bM o12 o34) rX).2
  have hneg : aJ d s 1 * (s.a * s.a * (k.b * k.b) - s.b * s.b * (k.a * k.a)) * (norm d k * s.b * s.c) < 0 := by
    have e : aJ d s 1 * (s.a * s.a * (k.b * k.b) - s.b * s.b * (k.a * k.a)) * (norm d k * s.b * s.c) = (s.a * s.a * (k.b * k.b) - s.b * s.b * (k.a * k.a)) * ((aJ d s 1 * s.b) * (norm d k * s.c)) := by grind
    rw [e]
    exact Int.mul_neg_of_neg_of_pos (by omega) (Int.mul_pos tp (Int.mul_pos hn h.os.c))
  rw [hs.mpr hneg]
  decide
theorem HJ (h : ky d k s (-1)) (hn : norm d k < 0) (hl : s.b * s.b * (k.a * k.a) < s.a * s.a * (k.b * k.b)) : sg d (weigh d (bP d k s (-1)) ⟨-1 * aJ d s (-1), 0, 1⟩ ⟨-aJ d s (-1), 0, 1⟩ (bLast d s (-1)) one (times d s one)).a (weigh d (bP d k s (-1)) ⟨-1 * aJ d s (-1), 0, 1⟩ ⟨-aJ d s (-1), 0, 1⟩ (bLast d s (-1)) one (times d s one)).b < 0 := by
  have om := aD h.os
  have tp := Py h (by decide)
  have sa : s.a ≠ 0 := fun z => by rw [z, Int.mul_zero] at tp; omega
  have nk := aK h.hd h.ok h.hk
  have gc := h.os.cn
  have d0 : 0 < d := by have := h.hd.1; omega
  rw [HP h.hd h.op (cR _) (cR _) h.ol h.os]
  have r1 : Rep (times d (bP d k s (-1)) s) (aJ d s (-1) * (k.a * k.a * norm d s)) 0 (norm d k * s.a * s.c) := (Rep.times (d := d) h.op h.os (Nm h (by decide)) (aq h.os)).congr (by unfold norm; grind) (by grind) rfl
  have r2 := N6 (d := d) (t := -1 * aJ d s (-1)) om
  have r3 := N6 (d := d) (t := -aJ d s (-1)) h.os
  have r4 : Rep (times d (bLast d s (-1)) (bH s)) (aJ d s (-1) * s.a) 0 s.c := by
    refine (Rep.times (d := d) h.ol om (Cq h (by decide)) (aq om)).conv gc ?_ ?_
    · show (aJ d s (-1) * (s.a * s.a) * s.a + d * (aJ d s (-1) * (s.a * s.b)) * -s.b) * s.c = aJ d s (-1) * s.a * (norm d s * s.c)
      unfold norm; grind
    · show (aJ d s (-1) * (s.a * s.a) * -s.b + aJ d s (-1) * (s.a * s.b) * s.a) * s.c = 0 * _
      grind
  have o12 := bM (ai (d := d) h.op h.os) (ai (d := d) (cR (-1 * aJ d s (-1))) om)
  have o34 := bM (ai (d := d) (cR (-aJ d s (-1))) h.os) (ai (d := d) h.ol om)
  have r34 : Rep (plus (times d ⟨-aJ d s (-1), 0, 1⟩ s) (times d (bLast d s (-1)) (bH s))) 0 (-(aJ d s (-1) * s.b)) s.c := by
    refine (Rep.plus (ai (cR _) h.os) (ai h.ol om) r3 r4).conv gc ?_ ?_ <;> grind
  have r := Rep.plus o12 o34 (Rep.plus (ai h.op h.os) (ai (cR _) om) r1 r2) r34
  have rX : Rep (plus (plus (times d (bP d k s (-1)) s) (times d ⟨-1 * aJ d s (-1), 0, 1⟩ (bH s))) (plus (times d ⟨-aJ d s (-1), 0, 1⟩ s) (times d (bLast d s (-1)) (bH s)))) (aJ d s (-1) * (d * (s.a * s.a * (k.b * k.b) - s.b * s.b * (k.a * k.a)))) 0 (norm d k * s.a * s.c) := by
    refine r.conv (Int.mul_ne_zero (Int.mul_ne_zero nk sa) gc) ?_ ?_
    · show ((aJ d s (-1) * (k.a * k.a * norm d s) * s.c + -1 * aJ d s (-1) * s.a * (norm d k * s.a * s.c)) * s.c + 0 * (norm d k * s.a * s.c * s.c)) * (norm d k * s.a * s.c) = aJ d s (-1) * (d * (s.a * s.a * (k.b * k.b) - s.b * s.b * (k.a * k.a))) * (norm d k * s.a * s.c * s.c * s.c)
      have e : k.a * k.a * norm d s - norm d k * (s.a * s.a) = d * (s.a * s.a * (k.b * k.b) - s.b * s.b * (k.a * k.a)) := by unfold norm; grind
      rw [← e]
      generalize norm d k = N
      generalize norm d s = M
      grind
    · show ((0 * s.c + -1 * aJ d s (-1) * -s.b * (norm d k * s.a * s.c)) * s.c + -(aJ d s (-1) * s.b) * (norm d k * s.a * s.c * s.c)) * (norm d k * s.a * s.c) = 0 * _
      generalize norm d k = N
      grind
  have hs := (vI h.hd (bM o12 o34) rX).2
  have hneg : aJ d s (-1) * (d * (s.a * s.a * (k.b * k.b) - s.b * s.b * (k.a * k.a))) * (norm d k * s.a * s.c) < 0 := by
    have e : aJ d s (-1) * (d * (s.a * s.a * (k.b * k.b) - s.b * s.b * (k.a * k.a))) * (norm d k * s.a * s.c) = norm d k * ((s.a * s.a * (k.b * k.b) - s.b * s.b * (k.a * k.a)) * ((aJ d s (-1) * s.a) * (d * s.c))) := by grind
    rw [e]
    exact Int.mul_neg_of_neg_of_pos hn (Int.mul_pos (by omega) (Int.mul_pos tp (Int.mul_pos d0 h.os.c)))
  rw [hs.mpr hneg]
  decide
theorem G8 {w : Int} (hd : aA d) (ok2 : Ok k2) (hk2 : sg d k2.a k2.b = 1) (hw : aU d k2 = w) : gF d aw aw aw ⟨w, 0, 1⟩ k2 = true := by
  have hpm : w = 1 ∨ w = -1 := by rw [← hw]; rcases iS hd ok2 hk2 with ⟨a, _⟩ | ⟨a, _⟩ <;> omega
  have om := aD ok2
  have z : sg d aw.a aw.b = 0 := fk.mpr ⟨rfl, rfl⟩
  unfold gF
  rw [u4 ok2, u4 om, OE ip, u4 ip, u4 (ai (cR w) om), Hq jy ip, u4 jy, Ld, z]
  rw [if_neg (by decide), cb hd (cR w) om, Mk hd hpm]
  have e : sg d (bH k2).a (bH k2).b = w := hw
  rw [e, tt1 hpm, if_neg (by decide)]
  rfl
theorem Iz {w : Int} (hd : aA d) (os : Ok s) (hs : sg d s.a s.b = 1) (hw : w = 1 ∨ w = -1) (hn : aU d s ≠ w) : sg d (weigh d aw aw aw ⟨w, 0, 1⟩ one (times d s one)).a (weigh d aw aw aw ⟨w, 0, 1⟩ one (times d s one)).b < 0 := by
  have om := aD os
  rw [HP hd ip ip ip (cR w) os, u4 os, u4 om, OE ip, IL (ai (cR w) om), IL (ai (cR w) om), cb hd (cR w) om, Mk hd hw]
  show w * aU d s < 0
  rcases iS hd os hs with ⟨a, _⟩ | ⟨a, _⟩ <;> rw [a] at hn ⊢ <;> rcases hw with rfl | rfl <;> first | exact absurd rfl hn | decide
end
open PySem PySem.Spec PyProof.Rows NM
section
variable {d : Int} {k s m : N3}
theorem tr1 {x y u v p q : Int} (hu : 0 < u) (hx : 0 ≤ x) (hq : 0 ≤ q) (h1 : v * y ≤ u * x) (h2 : p * u ≤ q * v) (hy : 0 ≤ y) : p * y ≤ q * x := by
  have a := Int.mul_le_mul_of_nonneg_right h2 hy
  have b := Int.mul_le_mul_of_nonneg_left h1 hq
  have c : u * (q * x - p * y) = (q * (u * x) - q * (v * y)) + (q * v * y - p * u * y) := by grind
  have e : 0 ≤ (q * x - p * y) * u := by rw [Int.mul_comm, c]; omega
  rw [jw hu] at e
  omega
theorem Kg (hd : aA d) (h1 : Lay d k m) (h2 : Lay d m s) : Lay d k s := by
  have d0 : 0 < d := by have := hd.1; omega
  rcases h1 with ⟨a, b, c⟩ | ⟨a, b, c⟩ <;> rcases h2 with ⟨a', b', c'⟩ | ⟨a', b', c'⟩
  · have hm : 0 < m.a * m.a := by have := dsq (d := d) (b := m.b) d0; have e : norm d m = m.a * m.a - d * m.b * m.b := rfl; omega
    exact .inl ⟨a, b', tr1 hm (sq_nonneg _) (sq_nonneg _) c c' (sq_nonneg _)⟩
  · omega
  · omega
  · have hm : 0 < m.b * m.b := by
      rcases Classical.em (m.b = 0) with z | z
      · have e : norm d m = m.a * m.a - d * m.b * m.b := rfl
        rw [z] at e
        have := sq_nonneg m.a
        omega
      · exact sq_pos z
    exact .inr ⟨a, b', tr1 hm (sq_nonneg _) (sq_nonneg _) c c' (sq_nonneg _)⟩
theorem wA (hd : aA d) (ok : Ok k) (nk : norm d k ≠ 0) : ((bA d k).a.natAbs : Int) * ((norm d k).natAbs : Int) = 4 * (k.a * k.a) * (bA d k).c := by
  have r := oW hd ok nk
  have e := congrArg Int.natAbs r.a
  rw [Int.natAbs_mul] at e
  have hc := (eV hd nk ok).c
  have h0 : 0 ≤ 4 * (k.a * k.a) * (bA d k).c := Int.mul_nonneg (Int.mul_nonneg (by decide) (sq_nonneg _)) (by omega)
  have e2 : ((4 * (k.a * k.a) * (bA d k).c).natAbs : Int) = 4 * (k.a * k.a) * (bA d k).c := Int.natAbs_of_nonneg h0
  rw [← e2, ← e]
  rfl
theorem xR (hd : aA d) (ok : Ok k) (om : Ok m) (hs : (0 < norm d k ∧ 0 < norm d m) ∨ (norm d k < 0 ∧ norm d m < 0)) (h : ¬ gtL d m k) : Lay d k m := by
  have nk : norm d k ≠ 0 := by omega
  have nm : norm d m ≠ 0 := by omega
  have d0 : 0 < d := by have := hd.1; omega
  have ak := wA hd ok nk
  have am := wA hd om nm
  have ck := (eV hd nk ok).c
  have cm := (eV hd nm om).c
  unfold gtL at h
  have h1 : ((bA d m).a.natAbs : Int) * (bA d k).c ≤ ((bA d k).a.natAbs : Int) * (bA d m).c := by omega
  have pk : (0 : Int) < ((norm d k).natAbs : Int) := by omega
  have pm : (0 : Int) < ((norm d m).natAbs : Int) := by omega
  generalize ((bA d m).a.natAbs : Int) = A at *
  generalize ((bA d k).a.natAbs : Int) = B at *
  generalize (bA d k).c = C at *
  generalize (bA d m).c = E at *
  have key : 0 ≤ (k.a * k.a * ((norm d m).natAbs : Int) - m.a * m.a * ((norm d k).natAbs : Int)) * (4 * (C * E)) := by
    have h2 : 0 ≤ (B * E - A * C) * (((norm d k).natAbs : Int) * ((norm d m).natAbs : Int)) := Int.mul_nonneg (by omega) (Int.mul_nonneg (by omega) (by omega))
    have e : (B * E - A * C) * (((norm d k).natAbs : Int) * ((norm d m).natAbs : Int)) = (B * ((norm d k).natAbs : Int)) * (E * ((norm d m).natAbs : Int)) - (A * ((norm d m).natAbs : Int)) * (C * ((norm d k).natAbs : Int)) := by grind
    rw [e, ak, am] at h2
    have e2 : 4 * (k.a * k.a) * C * (E * ((norm d m).natAbs : Int)) - 4 * (m.a * m.a) * E * (C * ((norm d k).natAbs : Int)) = (k.a * k.a * ((norm d m).natAbs : Int) - m.a * m.a * ((norm d k).natAbs : Int)) * (4 * (C * E)) := by grind
    rw [e2] at h2
    exact h2
  rw [jw (Int.mul_pos (by decide) (Int.mul_pos ck cm))] at key
  rcases hs with ⟨a, b⟩ | ⟨a, b⟩
  · refine .inl ⟨a, b, ?_⟩
    rw [Int.natAbs_of_nonneg (Int.le_of_lt a), Int.natAbs_of_nonneg (Int.le_of_lt b)] at key
    have e : k.a * k.a * norm d m - m.a * m.a * norm d k = (m.a * m.a * (k.b * k.b) - m.b * m.b * (k.a * k.a)) * d := by unfold norm; grind
    rw [e, jw d0] at key
    omega
  · refine .inr ⟨a, b, ?_⟩
    have ea : ((norm d k).natAbs : Int) = -norm d k := by omega
    have eb : ((norm d m).natAbs : Int) = -norm d m := by omega
    rw [ea, eb] at key
    have e : k.a * k.a * -norm d m - m.a * m.a * -norm d k = (m.b * m.b * (k.a * k.a) - m.a * m.a * (k.b * k.b)) * d := by unfold norm; grind
    rw [e, jw d0] at key
    omega
theorem Ak {ks : List N3} (hd : aA d) (ho : da d ks) (hm : dE d ks = false) {x y : N3} (hx : x ∈ ks) (hy : y ∈ ks) : (0 < norm d x ∧ 0 < norm d y) ∨ (norm d x < 0 ∧ norm d y < 0) := by
  obtain ⟨ox, _, sx⟩ := ho.ok x hx
  obtain ⟨oy, _, sy⟩ := ho.ok y hy
  have nx := aK hd ox sx
  have ny := aK hd oy sy
  have sp : ∀ z : N3, norm d z ≠ 0 → (0 < norm d z → sgN d z = 1) ∧ (norm d z < 0 → sgN d z = -1) := fun z hz => by
    unfold sgN
    rw [kG, if_neg hz]
    exact ⟨fun h => by rw [if_pos h], fun h => by rw [if_neg (by omega)]⟩
  have no : ∀ {p n : N3}, p ∈ ks → n ∈ ks → sgN d p = 1 → sgN d n = -1 → False := fun {p n} hp hn e1 e2 => by
    have a : ks.any (fun k => decide (sgN d k = 1)) = true := List.any_eq_true.mpr ⟨p, hp, by simp [e1]⟩
    have b : ks.any (fun k => decide (sgN d k = -1)) = true := List.any_eq_true.mpr ⟨n, hn, by simp [e2]⟩
    unfold dE at hm
    rw [a, b] at hm
    cases hm
  rcases Int.lt_or_gt_of_ne nx with a | a <;> rcases Int.lt_or_gt_of_ne ny with b | b
  · exact .inr ⟨a, b⟩
  · exact (no hy hx ((sp y ny).1 b) ((sp x nx).2 a)).elim
  · exact (no hx hy ((sp x nx).1 a) ((sp y ny).2 b)).elim
  · exact .inl ⟨a, b⟩
theorem tD {ks : List N3} (hd : aA d) (ho : da d ks) : kx d ks ∈ ks := (ey (AO hd ho)).2
theorem Gh {ks : List N3} (hd : aA d) (ho : da d ks) (hm : dE d ks = false) {x : N3} (hx : x ∈ ks) : Lay d (kx d ks) x := by
  have hM := tD hd ho
  obtain ⟨oM, _, sM⟩ := ho.ok _ hM
  obtain ⟨ox, _, sx⟩ := ho.ok x hx
  have l1 := ho.l1
  have hc : ∀ i, i < ks.length → 0 < (bA d (ks.getD i aw)).c := fun i hi => by
    obtain ⟨ok, _, sk⟩ := ho.ok _ (ey hi).2
    exact (eV hd (aK hd ok sk) ok).c
  obtain ⟨j, hj, e⟩ := List.mem_iff_getElem.mp hx
  have e2 : ks.getD j aw = x := by rw [List.getD_eq_getElem?_getD, List.getElem?_eq_getElem hj, e]; rfl
  have := (tG hc (ks.length - 1) (by omega)).2.1 j (by omega)
  rw [e2] at this
  exact xR hd oM ox (Ak hd ho hm hM hx) this
theorem Ni {ks : List N3} (hd : aA d) (ho : da d ks) (os : Ok s) (hs : sg d s.a s.b = 1) : kU d ks s = true ↔ dE d ks = true ∨ ∃ k ∈ ks, Lay d k s := by
  have hM := tD hd ho
  obtain ⟨oM, _, sM⟩ := ho.ok _ hM
  unfold kU
  rw [Bool.or_eq_true]
  cases hm : dE d ks with
  | true => simp
  | false =>
    rw [sZ hd oM os sM hs]
    constructor
    · rintro (h | h)
      · cases h
      · exact .inr ⟨_, hM, h⟩
    · rintro (h | ⟨k, hk, h⟩)
      · cases h
      · exact .inr (Kg hd (Gh hd ho hm hk) h)
theorem Lq {a b : Bool} (h : a = true ↔ b = true) : a = b := by cases a <;> cases b <;> simp_all
end
open PySem PySem.Spec PyProof.Rows NM
section
variable {d : Int} {k s m u v : N3}
theorem B5 (hd : aA d) (ok : Ok k) (om : Ok m) (nk : norm d k ≠ 0) (nm : norm d m ≠ 0) (h : Lay d k m) : ¬ gtL d m k := fun z => by
  have d0 : 0 < d := by have := hd.1; omega
  have ak := wA hd ok nk
  have am := wA hd om nm
  have ck := (eV hd nk ok).c
  have cm := (eV hd nm om).c
  unfold gtL at z
  have pk : (0 : Int) < ((norm d k).natAbs : Int) := by omega
  have pm : (0 : Int) < ((norm d m).natAbs : Int) := by omega
  generalize ((bA d m).a.natAbs : Int) = A at *
  generalize ((bA d k).a.natAbs : Int) = B at *
  generalize (bA d k).c = C at *
  generalize (bA d m).c = E at *
  have key : 0 < (m.a * m.a * ((norm d k).natAbs : Int) - k.a * k.a * ((norm d m).natAbs : Int)) * (4 * (C * E)) := by
    have h2 : 0 < (A * C - B * E) * (((norm d k).natAbs : Int) * ((norm d m).natAbs : Int)) := Int.mul_pos (by omega) (Int.mul_pos (by omega) (by omega))
    have e : (A * C - B * E) * (((norm d k).natAbs : Int) * ((norm d m).natAbs : Int)) = (A * ((norm d m).natAbs : Int)) * (C * ((norm d k).natAbs : Int)) - (B * ((norm d k).natAbs : Int)) * (E * ((norm d m).natAbs : Int)) := by grind
    rw [e, ak, am] at h2
    have e2 : 4 * (m.a * m.a) * E * (C * ((norm d k).natAbs : Int)) - 4 * (k.a * k.a) * C * (E * ((norm d m).natAbs : Int)) = (m.a * m.a * ((norm d k).natAbs : Int) - k.a * k.a * ((norm d m).natAbs : Int)) * (4 * (C * E)) := by grind
    rw [e2] at h2
    exact h2
  have key2 := CY key (Int.mul_pos (by decide) (Int.mul_pos ck cm))
  rcases h with ⟨a, b, c⟩ | ⟨a, b, c⟩
  · rw [Int.natAbs_of_nonneg (Int.le_of_lt a), Int.natAbs_of_nonneg (Int.le_of_lt b)] at key2
    have e : m.a * m.a * norm d k - k.a * k.a * norm d m = (m.b * m.b * (k.a * k.a) - m.a * m.a * (k.b * k.b)) * d := by unfold norm; grind
    rw [e] at key2
    have := CY key2 d0
    omega
  · have ea : ((norm d k).natAbs : Int) = -norm d k := by omega
    have eb : ((norm d m).natAbs : Int) = -norm d m := by omega
    rw [ea, eb] at key2
    have e : m.a * m.a * -norm d k - k.a * k.a * -norm d m = (m.a * m.a * (k.b * k.b) - m.b * m.b * (k.a * k.a)) * d := by unfold norm; grind
    rw [e] at key2
    have := CY key2 d0
    omega
theorem Ma (hd : aA d) (ok : Ok k) (os : Ok s) (hk : sg d k.a k.b = 1) (hs : sg d s.a s.b = 1) : fT d k s = (decide (aU d s = aU d k) && (if 0 < aU d k then !decide (dif d (bA d s) (bA d k) = 1) else !decide (dif d (bA d k) (bA d s) = 1))) := by
  have nk := aK hd ok hk
  have ns := aK hd os hs
  refine Lq ?_
  rw [sZ hd ok os hk hs, Bool.and_eq_true, decide_eq_true_eq]
  rcases iS hd ok hk with ⟨a, b⟩ | ⟨a, b⟩ <;> rcases iS hd os hs with ⟨a', b'⟩ | ⟨a', b'⟩
  · rw [a, a', if_pos (by decide), Bool.not_eq_true', decide_eq_false_iff_not]
    have g : dif d (bA d s) (bA d k) = 1 ↔ gtL d s k := P5 hd ok os b b'
    rw [g]
    exact ⟨fun h => ⟨rfl, B5 hd ok os nk ns h⟩, fun h => xR hd ok os (.inl ⟨b, b'⟩) h.2⟩
  · rw [a, a']
    refine ⟨fun h => ?_, fun h => absurd h.1 (by decide)⟩
    rcases h with ⟨_, z, _⟩ | ⟨z, _, _⟩ <;> omega
  · rw [a, a']
    refine ⟨fun h => ?_, fun h => absurd h.1 (by decide)⟩
    rcases h with ⟨z, _, _⟩ | ⟨_, z, _⟩ <;> omega
  · rw [a, a', if_neg (by decide), Bool.not_eq_true', decide_eq_false_iff_not]
    have g : dif d (bA d k) (bA d s) = 1 ↔ gtL d s k := Rx hd ok os b b'
    rw [g]
    exact ⟨fun h => ⟨rfl, B5 hd ok os nk ns h⟩, fun h => xR hd ok os (.inr ⟨b, b'⟩) h.2⟩
theorem zj {n : Nat} (hd : aA d) (ok : Ok k) (nk : norm d k ≠ 0) (bk : Bd n k) : Bd (2 * n + 6) (bA d k) := by
  have s5 := jt hd.1 hd.2.1
  refine (oW hd ok nk).bd (eV hd nk ok) ?_ sz0 (tm s5 bk)
  have := (Sz.mul (n := 4) (i := 4) (Sz.of (by decide)) (bk.a.mul bk.a))
  exact this.mono (by omega)
def Qn (d : Int) (u v k : N3) : N3 := plus (times d u k) (times d v (ao d k))
theorem Qh (hd : aA d) (ok : Ok k) (hk : sg d k.a k.b = 1) (ou : Ok u) (ov : Ok v) (hu : u = aw ∨ sg d u.a u.b = 1) (hv : v = aw ∨ sg d v.a v.b = 1) (hn : ¬ (u = aw ∧ v = aw)) : sg d (Qn d u v k).a (Qn d u v k).b = 1 := by
  have nk := aK hd ok hk
  have oc := aB nk
  have hc := dX hd ok hk
  unfold Qn
  rcases hu with rfl | hu
  · rw [u4 ok, IL (ai ov oc)]
    rcases hv with rfl | hv
    · exact absurd ⟨rfl, rfl⟩ hn
    · rw [cb hd ov oc, hv, hc]; rfl
  · have h1 : sg d (times d u k).a (times d u k).b = 1 := by rw [cb hd ou ok, hu, hk]; rfl
    rcases hv with rfl | hv
    · rw [u4 oc, OE (ai ou ok)]; exact h1
    · exact Am hd (ai ou ok) (ai ov oc) h1 (by rw [cb hd ov oc, hv, hc]; rfl)
end
open PySem PySem.Spec PyProof.Rows NM
inductive Pn where
  | kind (i : Nat)
  | turn (p : Pn)
  | grid (u v : Int) (p : Pn)
  | two (b : Bool) (p q : Pn)
  | three (b : Bool) (p q r : Pn)
def wdS (b : Bool) : Str := if b = true then "upon" else "beside"
def Pn.data : Pn → PyData
  | .kind i => .tuple [.str "kind", .int i]
  | .turn p => .tuple [.str "turn", p.data]
  | .grid u v p => .tuple [.str "grid", .int u, .int v, p.data]
  | .two b p q => .tuple [.str (wdS b), .tuple [p.data, q.data]]
  | .three b p q r => .tuple [.str (wdS b), .tuple [p.data, q.data, r.data]]
def Pn.depth : Pn → Nat
  | .kind _ => 1
  | .turn p => p.depth + 1
  | .grid _ _ p => p.depth + 1
  | .two _ p q => max p.depth q.depth + 1
  | .three _ p q r => max p.depth (max q.depth r.depth) + 1
def Pn.good (m : Nat) : Pn → Prop
  | .kind i => i < m
  | .turn p => p.good m
  | .grid u v p => (0 < u ∧ u ≤ 1000 ∧ 0 < v ∧ v ≤ 1000) ∧ p.good m
  | .two _ p q => p.good m ∧ q.good m
  | .three _ p q r => p.good m ∧ q.good m ∧ r.good m
section
variable {d : Int} {x y : N3} {n m : Nat}
theorem Rep.mul {A B C k : Int} (hk : k ≠ 0) (h : Rep x A B C) : Rep x (k * A) (k * B) (k * C) := ⟨Int.mul_ne_zero hk h.c, by have := h.a; grind, by have := h.b; grind⟩
structure Rq (d : Int) (n : Nat) (x : N3) : Prop where
  ex : ∃ A B C E : Int, Sz n A ∧ Sz n B ∧ Sz n C ∧ Sz n E ∧ Rep x (A * C - d * B * E) (B * C - A * E) (C * C - d * E * E)
theorem Rq.mono (h : Rq d n x) (l : n ≤ m) : Rq d m x := by
  obtain ⟨A, B, C, E, a, b, c, e, r⟩ := h.ex
  exact ⟨A, B, C, E, a.mono l, b.mono l, c.mono l, e.mono l, r⟩
theorem Rq.bd (s5 : Sz 5 d) (ox : Ok x) (h : Rq d n x) : Bd (2 * n + 6) x := by
  obtain ⟨A, B, C, E, a, b, c, e, r⟩ := h.ex
  have l1 : Sz (2 * n + 5) (A * C) := (a.mul c).mono (by omega)
  have l2 : Sz (2 * n + 5) (d * B * E) := ((s5.mul b).mul e).mono (by omega)
  have l3 : Sz (2 * n + 5) (B * C) := (b.mul c).mono (by omega)
  have l4 : Sz (2 * n + 5) (A * E) := (a.mul e).mono (by omega)
  have l5 : Sz (2 * n + 5) (C * C) := (c.mul c).mono (by omega)
  have l6 : Sz (2 * n + 5) (d * E * E) := ((s5.mul e).mul e).mono (by omega)
  exact r.bd ox (l1.sub l2) (l3.sub l4) (l5.sub l6)
theorem Rq.ao (ox : Ok x) (hn : norm d x ≠ 0) (h : Rq d n x) : Rq d n (ao d x) := by
  obtain ⟨A, B, C, E, a, b, c, e, r⟩ := h.ex
  refine ⟨C, E, A, B, c, e, a, b, ?_⟩
  have r2 := Rep.ao ox hn r
  have hN := r.c
  have hk : (C * C - d * E * E) ≠ 0 := hN
  refine Rep.div hk (Rep.congr r2 (by grind) (by grind) (by grind))
theorem Rq.plus (s5 : Sz 5 d) (ox : Ok x) (oy : Ok y) (h : Rq d n x) (g : Rq d m y) : Rq d (n + m + 7) (plus x y) := by
  obtain ⟨A, B, C, E, a, b, c, e, r⟩ := h.ex
  obtain ⟨A', B', C', E', a', b', c', e', r'⟩ := g.ex
  have k1 : ∀ {i j : Int}, Sz n i → Sz m j → Sz (n + m + 5) (i * j) := fun p q => (p.mul q).mono (by omega)
  have k2 : ∀ {i j : Int}, Sz n i → Sz m j → Sz (n + m + 5) (d * i * j) := fun p q => ((s5.mul p).mul q).mono (by omega)
  refine ⟨(A * C' + d * B * E') + (A' * C + d * B' * E), (A * E' + B * C') + (A' * E + B' * C), C * C' + d * E * E', C * E' + E * C', ?_, ?_, ?_, ?_, ?_⟩
  · exact (((k1 a c').add (k2 b e')).add (by rw [Int.mul_comm A' C, show d * B' * E = d * E * B' from by grind]; exact (k1 c a').add (k2 e b'))).mono (by omega)
  · exact (((k1 a e').add (k1 b c')).add (by rw [Int.mul_comm A' E, Int.mul_comm B' C]; exact (k1 e a').add (k1 c b'))).mono (by omega)
  · exact ((k1 c c').add (k2 e e')).mono (by omega)
  · exact ((k1 c e').add (k1 e c')).mono (by omega)
  · exact Rep.congr (Rep.plus ox oy r r') (by grind) (by grind) (by grind)
end
open PySem PySem.Spec PyProof.Rows NM
noncomputable def yP : DSp := fun ds μ Q => ∃ (a : Addr) (d : Int), ds = [.m a, .v (.int d)] ∧ aA d ∧ Bag μ a ∧ ∀ x μ', Ok x → Bd 140 x → sg d x.a x.b = 1 → wm a μ μ' → Q (.v (dN x)) μ'
theorem Fd {μ : Mu} {Q : DK} {ds : List D} (h : yP ds μ Q) : ds.length = 2 := by obtain ⟨_, _, rfl, _⟩ := h; rfl
noncomputable def vV : DSp := fun ds μ Q => ∃ (a : Addr) (d : Int) (k : N3), ds = [.m a, .v (.int d), .v (dN k)] ∧ aA d ∧ Ok k ∧ Bd 140 k ∧ sg d k.a k.b = 1 ∧ Bag μ a ∧ ∀ p L μ', μ p = none → wm a μ μ' → μ' p = some L → L.length ≤ 100 → (∀ x ∈ L, ∃ t, x = dN t ∧ Ok t ∧ Bd 480 t ∧ sg d t.a t.b = 1) → Q (.m p) μ'
theorem D6 {μ : Mu} {Q : DK} {ds : List D} (h : vV ds μ Q) : ds.length = 3 := by obtain ⟨_, _, _, rfl, _⟩ := h; rfl
noncomputable def qd : DTS :=
  (aO (bJ (B6 ar) (ay 2))
  (aO (vG (uq (ab (dC (.int 3)) ar)) (ay 3) (aO (bJ (dC (.int 0)) (ay 4))
  (aO (vG (uq (ab (dC (.int 10)) ar)) (ay 5) (bJ (mD (cM (af 4) (AK (dC (.int 10)) (dC (.int 4)))) (au ez (ab (af 0) (ab (AK (dC (.int 10)) (dC (.int 4))) ar)))) (ay 4)))
  (qD (II (af 2) (af 4))))))
  (aO (bJ (au cY (ab (qV (dOp aF (af 2) (dC (.int 0))) (cM (dC (.int 5)) (AK (dC (.int 10)) (dC (.int 39))))) (ab (qV (dOp aF (af 2) (dC (.int 1))) (cM (dC (.int 5)) (AK (dC (.int 10)) (dC (.int 39))))) (ab (mD (dC (.int 1)) (yN (dOp aF (af 2) (dC (.int 2))) (AK (dC (.int 10)) (dC (.int 39))))) ar)))) (ay 6))
  (bI (dOp aF (qS (ab (eC (ab (dC (.int 1)) (ab (dC (.int 1)) (ab (dC (.int 1)) ar)))) (ab (af 6) (ab (au sU (ab (af 6) ar)) ar)))) (au fg (ab (af 1) (ab (af 6) ar))))))))
noncomputable def ic : DTS :=
  (aO (AZ 3 4 (ab (au qh (ab (af 0) ar)) (ab (au qh (ab (af 0) ar)) ar)))
  (aO (bJ (au bZ (ab (af 1) (ab (af 2) ar))) (ay 5))
  (aO (bJ (B6 (ab (au bF (ab (af 1) (ab (af 3) (ab (af 2) ar)))) (ab (au bF (ab (af 1) (ab (af 4) (ab (af 5) ar)))) ar))) (ay 6))
  (aO (qD (II (af 6) (au fB (ab (dOp aF (af 6) (dC (.int 0))) (ab (dOp aF (af 6) (dC (.int 1))) ar)))))
  (aO (vG (xn (dSl (af 6) vR (FD (dC (.int 2))))) (ay 7) (vG (xn (qS (ab (eC (ab (dC (.int 0)) (ab (dC (.int 1)) (ab (AK (dC (.int 10)) (dC (.int 50))) ar)))) (ab (eC (ab (dC (.int 0)) (ab (yL (dC (.int 1))) (ab (AK (dC (.int 10)) (dC (.int 50))) ar)))) (ab (eC (ab (dC (.int 1)) (ab (dC (.int 0)) (ab (AK (dC (.int 10)) (dC (.int 50))) ar)))) ar))))) (ay 8) (aO (bJ (au fB (ab (af 7) (ab (af 8) ar))) (ay 9))
  (cV (dB (dOp rGt (au fg (ab (af 1) (ab (af 9) ar))) (dC (.int 0)))) (qD (II (af 6) (af 9))) bU))))
  (bI (af 6)))))))
section
variable {μ : Mu} {Qd : DK} {ds : List D}
noncomputable def NZ (a p : Addr) (d : Int) (μ : Mu) (i : Nat) (ρ : Rho) (μ' : Mu) : Prop := ∃ (ns : List Int) (r3 r4 r5 : Option D), ρ = [some (.m a), some (.v (.int d)), some (.m p), r3, r4, r5, none] ∧ Bag μ' a ∧ (∀ b, b ≠ a → ∀ ds, μ b = some ds → μ' b = some ds) ∧ μ' p = some (ns.map .int) ∧ ns.length = i ∧ (∀ n ∈ ns, 0 ≤ n ∧ n < 10 ^ 40)
theorem DX (h : yP ds μ Qd) : qd { nx := fun _ μ' => Qd (.v .none) μ', rt := Qd } (aX ["_law_bag_here", "_law_d", "_law_parts", "_law_turn", "_law_found", "_law_k", "_law_x"] ds) μ := by
  obtain ⟨a, d, rfl, hd, hb, q⟩ := h
  have s5 := jt hd.1 hd.2.1
  unfold qd
  walk_at "rn"
  intro p hp
  have hap : a ≠ p := fun z => by obtain ⟨g, m, e, _⟩ := hb; rw [z, hp] at e; cases e
  have sb : Bag (bD μ p []) a := by obtain ⟨g, m, e, z⟩ := hb; exact ⟨g, m, by rw [bV hap]; exact e, z⟩
  rw [rP]
  walk_at "rn"
  have keep : ∀ b, b ≠ a → ∀ ds, μ b = some ds → bD μ p [] b = some ds := fun b hb' ds e => by
    have : b ≠ p := fun z => by rw [z, hp] at e; cases e
    rw [bV this]; exact e
  refine ⟨⟨by decide, by decide⟩, NZ a p d μ, ⟨[], _, _, _, rfl, sb, keep, bL, rfl, fun n hn => by cases hn⟩, ?_, ?_⟩
  · rintro i v ρ μ3 hv ⟨ns, r3, r4, r5, rfl, hb3, kp, hpk, hl, hok⟩
    obtain ⟨rfl, hi⟩ := GC hv
    walk_at "rn"
    rw [rP]
    walk_at "rn"
    refine ⟨⟨by decide, by decide⟩, fun j ρ μ' => ∃ (f : Int) (r5 : Option D), ρ = [some (.m a), some (.v (.int d)), some (.m p), some (.v (.int (0 + (i : Int)))), some (.v (.int f)), r5, none] ∧ Step a μ3 μ' ∧ 0 ≤ f ∧ f < 10 ^ (4 * j), ⟨0, _, rfl, Step.refl hb3, by decide, by decide⟩, ?_, ?_⟩
    · rintro j v ρ μ4 hv ⟨f, r5, rfl, s4, f0, f1⟩
      obtain ⟨rfl, hj⟩ := GC hv
      walk_at "rn"
      have e4 : (10 : Int) ^ Int.toNat 4 = 10000 := by decide
      rw [e4]
      have cp : Kf 10 4 := ⟨by decide, by decide, by decide⟩
      refine ⟨cp, mulR (by decide), cp, a, 10000, rfl, by decide, by decide, s4.1, fun r μ5 r0 r1 s5' => ?_⟩
      walk_at "rn"
      refine ⟨_, _, rfl, s4.trans s5', by omega, ?_⟩
      rw [show 4 * (j + 1) = 4 * j + 4 from by omega, Int.pow_add, show (10 : Int) ^ 4 = 10000 from by decide]
      generalize (10 : Int) ^ (4 * j) = X at f1 ⊢
      omega
    · rintro ρ μ4 ⟨f, r5, rfl, s4, f0, f1⟩
      rw [wR] at f1
      have hp4 : μ4 p = some (ns.map .int) := by rw [s4.2 p (fun z => hap z.symm)]; exact hpk
      walk_at "rn"
      simp only [hp4]
      refine ⟨by simp; omega, ns ++ [f], _, _, _, rfl, ?_, fun b hb' ds e => ?_, ?_, by simp [hl], fun z hz => ?_⟩
      · obtain ⟨g, m, e, z⟩ := s4.1; exact ⟨g, m, by rw [bV hap]; exact e, z⟩
      · have h3 := kp b hb' ds e
        by_cases hbp : b = p
        · subst hbp
          rw [hp] at e; cases e
        · rw [bV hbp, s4.2 b hb']; exact h3
      · rw [bL]; simp
      · rcases List.mem_append.mp hz with z' | z'
        · exact hok z z'
        · rw [List.mem_singleton.mp z']; exact ⟨f0, f1⟩
  · rintro ρ μ3 ⟨ns, r3, r4, r5, rfl, hb3, kp, hpk, hl, hok⟩
    rw [wR] at hl
    obtain ⟨n0, n1, n2, rfl⟩ : ∃ n0 n1 n2, ns = [n0, n1, n2] := by
      match ns, hl with
      | [n0, n1, n2], _ => exact ⟨n0, n1, n2, rfl⟩
    have h0 := hok n0 (by simp)
    have h1 := hok n1 (by simp)
    have h2 := hok n2 (by simp)
    walk_at "rn"
    simp only [hpk]
    walk_at "rn"
    have e39 : (10 : Int) ^ Int.toNat 39 = 1000000000000000000000000000000000000000 := by decide +kernel
    have e40 : (10 : Int) ^ 40 = 10000000000000000000000000000000000000000 := by decide +kernel
    have e140 : (2 : Nat) ^ 140 = 1393796574908163946345982392040522594123776 := by decide +kernel
    rw [e40] at h0 h1 h2
    have cp : Kf 10 39 := ⟨by decide, by decide, by decide⟩
    have mo : MulOk 5 ((10 : Int) ^ Int.toNat 39) := mulL (by decide)
    refine ⟨cp, mo, ?_⟩
    simp only [hpk]
    walk_at "rn"
    refine ⟨cp, mo, ?_⟩
    simp only [hpk]
    walk_at "rn"
    obtain ⟨m0, m1⟩ := lQ n2 (show (0 : Int) < 10 ^ Int.toNat 39 by rw [e39]; decide)
    generalize em : n2.fmod (10 ^ Int.toNat 39) = m at m0 m1
    rw [e39] at m1
    refine ⟨cp, by rw [e39]; decide, ?_⟩
    rw [e39]
    have cn : 1 + m ≠ 0 := by omega
    have zc : Sz 140 (1 + m) := Sz.of (by rw [e140]; omega)
    have za : ∀ {n : Int}, 0 ≤ n ∧ n < 10000000000000000000000000000000000000000 → Sz 140 (n - 5 * 1000000000000000000000000000000000000000) := fun h => Sz.of (by rw [e140]; omega)
    refine ⟨_, _, _, rfl, cn, zc.mono (by decide), ?_⟩
    have ox := iP (n0 - 5 * 1000000000000000000000000000000000000000) (n1 - 5 * 1000000000000000000000000000000000000000) cn
    have bx : Bd 140 (low (n0 - 5 * 1000000000000000000000000000000000000000) (n1 - 5 * 1000000000000000000000000000000000000000) (1 + m)) := lR cn (za h0) (za h1) zc
    generalize low (n0 - 5 * 1000000000000000000000000000000000000000) (n1 - 5 * 1000000000000000000000000000000000000000) (1 + m) = x at ox bx
    walk_at "rn"
    refine ⟨x, rfl, ?_⟩
    dsimp only
    rw [show dO [D.v (dN (minus x))] = some [dN (minus x)] from rfl]
    simp only [Option.map_some]
    refine ⟨d, x, rfl, hd, bx.mono (by decide), ?_⟩
    have b1 : Bd 1 ⟨1, 1, 1⟩ := ⟨Sz.of (by decide), Sz.of (by decide), Sz.of (by decide)⟩
    have sw : wm a μ μ3 := ⟨hb3, kp⟩
    rcases jv d x.a x.b with z | z | z
    · rw [z]
      exact q ⟨1, 1, 1⟩ μ3 ⟨by decide, by decide⟩ (b1.mono (by decide)) rfl sw
    · rw [z]
      exact q x μ3 ox bx z sw
    · rw [z]
      exact q (minus x) μ3 (oN ox) (wj bx) (by show sg d (-x.a) (-x.b) = 1; rw [C4 hd, z]; rfl) sw
theorem wN {a b c : Int} (hc : 0 < c) (h : Int.gcd a b = 1) : Ok ⟨a, b, c⟩ := ⟨hc, by unfold g3; show Int.gcd ((Int.gcd a b : Nat) : Int) c = 1; rw [h]; exact Int.one_gcd⟩
structure WSh (a p : Addr) (d : Int) (μ : Mu) (n : Nat) (μ' : Mu) : Prop where
  bag : Bag μ' a
  kp : ∀ b, b ≠ a → ∀ ds, μ b = some ds → μ' b = some ds
  ls : ∃ L, μ' p = some L ∧ L.length ≤ n ∧ (∀ x ∈ L, ∃ t, x = dN t ∧ Ok t ∧ Bd 480 t ∧ sg d t.a t.b = 1)
theorem WSh.add {a p : Addr} {d : Int} {n : Nat} {μ' : Mu} {t : N3} {L : List PyData} (hap : a ≠ p) (hp : μ p = none) (h : WSh a p d μ n μ') (hL : μ' p = some L) (ot : Ok t) (bt : Bd 480 t) (st : sg d t.a t.b = 1) : WSh a p d μ (n + 1) (bD μ' p (L ++ [dN t])) := by
  obtain ⟨L', e, l, hh⟩ := h.ls
  rw [hL] at e
  cases e
  refine ⟨?_, fun b hb ds e => ?_, _, bL, by simp; omega, fun x hx => ?_⟩
  · obtain ⟨g, m, e, z⟩ := h.bag; exact ⟨g, m, by rw [bV hap]; exact e, z⟩
  · have : b ≠ p := fun z => by rw [z, hp] at e; cases e
    rw [bV this]; exact h.kp b hb ds e
  · rcases List.mem_append.mp hx with z | z
    · exact hh x z
    · rw [List.mem_singleton.mp z]; exact ⟨t, rfl, ot, bt, st⟩
theorem WSh.mono {a p : Addr} {d : Int} {n m : Nat} {μ' : Mu} (h : WSh a p d μ n μ') (l : n ≤ m) : WSh a p d μ m μ' := by
  obtain ⟨x, y, L, e, g, z⟩ := h
  exact ⟨x, y, L, e, by omega, z⟩
theorem tN (h : vV ds μ Qd) : ic { nx := fun _ μ' => Qd (.v .none) μ', rt := Qd } (aX ["_law_bag_here", "_law_d", "_law_kind", "_law_u", "_law_v", "_law_turned_kind", "_law_found", "_law_one", "_law_beside", "_law_shape_here"] ds) μ := by
  obtain ⟨a, d, k, rfl, hd, ok, bk, hk, hb, q⟩ := h
  have s5 := jt hd.1 hd.2.1
  have nk := aK hd ok hk
  have oc := aB nk
  have bc := bT s5 nk bk
  unfold ic
  walk_at "rn"
  refine ⟨a, rfl, hb, fun u μ1 fu ua s1 => ?_⟩
  walk_at "rn"
  refine ⟨a, rfl, s1.1, fun v μ2 fv va s2 => ?_⟩
  walk_at "rn"
  have bu : ∀ {x : N3}, Fr0 x → Bd 14 x := fun {x} h => by
    have := h.ok.c
    have := h.a0
    have := h.a1
    have := h.c1
    exact ⟨Sz.of (by show x.a.natAbs < 16384; omega), by rw [h.b]; exact Sz.of (by decide), Sz.of (by show x.c.natAbs < 16384; omega)⟩
  have ou := ai (d := d) fu.ok ok
  have ov := ai (d := d) fv.ok oc
  have b1 := aT s5 fu.ok ok (bu fu) bk
  have b2 := aT s5 fv.ok oc (bu fv) bc
  refine ⟨d, k, rfl, s5, nk, bk.mono (by decide), d, u, k, rfl, s5, fu.ok, ok, (bu fu).mono (by decide), bk.mono (by decide), d, v, _, rfl, s5, fv.ok, oc, (bu fv).mono (by decide), bc.mono (by decide), ?_⟩
  dsimp only
  rw [show dO [D.v (dN (times d u k)), D.v (dN (times d v (ao d k)))] = some [dN (times d u k), dN (times d v (ao d k))] from rfl]
  dsimp only
  intro p hp
  have hap : a ≠ p := fun z => by obtain ⟨g, m, e, _⟩ := s2.1; rw [z, hp] at e; cases e
  have hp0 : μ p = none := by rw [← (s1.trans s2).2 p (fun z => hap z.symm)]; exact hp
  simp only [bL]
  walk_at "rn"
  have sgf : ∀ {x : N3}, Fr0 x → 0 < x.a → sg d x.a x.b = 1 := fun {x} h h0 => by
    rw [h.b, kG, if_neg (by omega), if_pos h0]
  have g1 : sg d (times d u k).a (times d u k).b = 1 := by rw [Ar hd fu.ok ok, sgf fu ua, hk]; rfl
  have g2 : sg d (times d v (ao d k)).a (times d v (ao d k)).b = 1 := by rw [Ar hd fv.ok oc, sgf fv va, dX hd ok hk]; rfl
  have o12 := bM ou ov
  have b12 := fj ou ov b1 b2
  have w0 : WSh a p d μ 2 (bD μ2 p [dN (times d u k), dN (times d v (ao d k))]) := by
    have s12 := s1.trans s2
    refine ⟨?_, fun b hb' ds e => ?_, _, bL, by simp, fun x hx => ?_⟩
    · obtain ⟨g, m, e, z⟩ := s2.1; exact ⟨g, m, by rw [bV hap]; exact e, z⟩
    · have : b ≠ p := fun z => by rw [z, hp0] at e; cases e
      rw [bV this, s12.2 b hb']; exact e
    · simp only [List.mem_cons, List.not_mem_nil, or_false] at hx
      rcases hx with rfl | rfl
      · exact ⟨_, rfl, ou, b1.mono (by decide), g1⟩
      · exact ⟨_, rfl, ov, b2.mono (by decide), g2⟩
  refine ⟨_, _, rfl, ou, ov, b1.mono (by decide), b2.mono (by decide), ?_⟩
  simp only [bL]
  have g12 : sg d (plus (times d u k) (times d v (ao d k))).a (plus (times d u k) (times d v (ao d k))).b = 1 := Qh hd ok hk fu.ok fv.ok (.inr (sgf fu ua)) (.inr (sgf fv va)) (fun h => by rw [h.1] at ua; exact absurd ua (by decide))
  have w1 := w0.add hap hp0 bL o12 (b12.mono (by decide)) g12
  refine ⟨by simp, ?_⟩
  generalize eμ : bD (bD μ2 p [dN (times d u k), dN (times d v (ao d k))]) p ([dN (times d u k), dN (times d v (ao d k))] ++ [dN (plus (times d u k) (times d v (ao d k)))]) = μ4 at w1
  have hL4 : μ4 p = some [dN (times d u k), dN (times d v (ao d k)), dN (plus (times d u k) (times d v (ao d k)))] := by rw [← eμ]; exact bL
  rw [rP]
  walk_at "rn"
  unfold KD
  dsimp only
  rw [hL4]
  dsimp only
  rw [show tK [dN (times d u k), dN (times d v (ao d k)), dN (plus (times d u k) (times d v (ao d k)))] none (some 2) = [dN (times d u k), dN (times d v (ao d k))] from rfl]
  refine ⟨fun i ρ μ' => ∃ r7 r8 r9, ρ = [some (D.m a), some (D.v (PyData.int d)), some (D.v (dN k)), some (D.v (dN u)), some (D.v (dN v)), some (D.v (dN (ao d k))), some (D.m p), r7, r8, r9] ∧ WSh a p d μ (3 + 3 * i) μ', ⟨_, _, _, rfl, w1⟩, ?_, ?_⟩
  · rintro i y ρ μ5 hy ⟨r7, r8, r9, rfl, w5⟩
    have hy0 := hy
    obtain ⟨t, rfl, ot, bt, gt⟩ : ∃ t, y = dN t ∧ Ok t ∧ Bd 306 t ∧ sg d t.a t.b = 1 := by
      rcases i with _ | _ | i
      · exact ⟨_, (Option.some.inj hy).symm, ou, b1.mono (by decide), g1⟩
      · exact ⟨_, (Option.some.inj hy).symm, ov, b2.mono (by decide), g2⟩
      · simp at hy
    have e50 : (10 : Int) ^ Int.toNat 50 = 100000000000000000000000000000000000000000000000000 := by decide +kernel
    have e167 : (2 : Nat) ^ 167 = 187072209578355573530071658587684226515959365500928 := by decide +kernel
    have cp : Kf 10 50 := ⟨by decide, by decide, by decide⟩
    rw [rP]
    walk_at "rn"
    refine ⟨cp, cp, cp, ?_⟩
    rw [e50]
    refine ⟨fun j ρ μ' => ∃ r8 r9, ρ = [some (D.m a), some (D.v (PyData.int d)), some (D.v (dN k)), some (D.v (dN u)), some (D.v (dN v)), some (D.v (dN (ao d k))), some (D.m p), some (D.v (dN t)), r8, r9] ∧ WSh a p d μ (3 + 3 * i + j) μ', ⟨_, _, rfl, w5⟩, ?_, ?_⟩
    · rintro j y ρ μ6 hy ⟨r8, r9, rfl, w6⟩
      have zB : Sz 167 100000000000000000000000000000000000000000000000000 := Sz.of (by rw [e167]; decide)
      have z1 : Sz 167 1 := Sz.of (by rw [e167]; decide)
      have z0 : Sz 167 0 := Sz.of (by rw [e167]; decide)
      have zm : Sz 167 (-1) := Sz.of (by rw [e167]; decide)
      obtain ⟨b, rfl, ob, bb⟩ : ∃ b, y = dN b ∧ Ok b ∧ Bd 167 b := by
        rcases j with _ | _ | _ | j
        · exact ⟨_, (Option.some.inj hy).symm, wN (by decide) (by decide), z0, z1, zB⟩
        · exact ⟨_, (Option.some.inj hy).symm, wN (by decide) (by decide), z0, zm, zB⟩
        · exact ⟨_, (Option.some.inj hy).symm, wN (by decide) (by decide), z1, z0, zB⟩
        · simp at hy
      have otb := bM ot ob
      have btb := fj ot ob bt bb
      walk_at "rn"
      refine ⟨_, _, rfl, ot, ob, bt.mono (by decide), bb.mono (by decide), ?_⟩
      walk_at "rn"
      refine ⟨d, _, rfl, hd, btb.mono (by decide), ?_⟩
      walk_at "rn"
      by_cases hg : 0 < sg d (plus t b).a (plus t b).b
      · rw [if_pos (by simpa using hg)]
        obtain ⟨L, hL, lL, aL⟩ := w6.ls
        simp only [hL]
        have g : sg d (plus t b).a (plus t b).b = 1 := by rcases jv d (plus t b).a (plus t b).b with z | z | z <;> omega
        have j3 : j < 3 := by
          have := (List.getElem?_eq_some_iff.mp hy).1
          exact this
        have i3 : i < 2 := by
          have := (List.getElem?_eq_some_iff.mp hy0).1
          exact this
        exact ⟨by omega, _, _, rfl, w6.add hap hp0 hL otb (btb.mono (by decide)) g⟩
      · rw [if_neg (by simpa using hg)]
        exact ⟨_, _, rfl, w6.mono (by omega)⟩
    · rintro ρ μ6 ⟨r8, r9, rfl, w6⟩
      exact ⟨_, _, _, rfl, w6.mono (by omega)⟩
  · rintro ρ μ5 ⟨r7, r8, r9, rfl, w5⟩
    obtain ⟨L, hL, lL, aL⟩ := w5.ls
    walk_at "rn"
    exact q p L μ5 hp0 ⟨w5.bag, w5.kp⟩ hL (Nat.le_trans lL (by show 9 ≤ 100; decide)) aL
end
open PySem PySem.Spec PyProof.Rows NM
section
variable {d : Int} {k s k2 : N3} {w : Int}
theorem Lz (hd : aA d) (ok : Ok k) (bk : Bd 140 k) (hk : sg d k.a k.b = 1) (os : Ok s) (bs : Bd 700 s) (hs : sg d s.a s.b = 1) (hm : fT d k s = false) : ∃ p q r t : N3, Ho d k s = .tuple [dN one, W4 p q r t] ∧ OkW 1800 10 p q r t ∧ ∀ ks : List N3, (∀ x ∈ ks, Ok x ∧ sg d x.a x.b = 1 ∧ Lay d k x) → Cc d ks s one p q r t = true := by
  have s5 := jt hd.1 hd.2.1
  have hl : ¬ Lay d k s := fun z => by rw [(sZ hd ok os hk hs).mpr z] at hm; cases hm
  have both : ∀ {p q r t : N3}, (∀ x, Ok x → sg d x.a x.b = 1 → Lay d k x → gF d p q r t x = true) → sg d (weigh d p q r t one (times d s one)).a (weigh d p q r t one (times d s one)).b < 0 → ∀ ks : List N3, (∀ x ∈ ks, Ok x ∧ sg d x.a x.b = 1 ∧ Lay d k x) → Cc d ks s one p q r t = true := fun {p q r t} h1 h2 ks hks => by
    unfold Cc
    rw [decide_eq_true h2, Bool.and_true, List.all_eq_true]
    intro x hx
    obtain ⟨ox, sx, lx⟩ := hks x hx
    have nx := aK hd ox sx
    rw [h1 x ox sx lx, h1 _ (aB nx) (dX hd ox sx) ((OA (vi ox nx)).mpr lx)]
    rfl
  have wl : ∀ x, Ok x → sg d x.a x.b = 1 → Lay d k x → aU d x = aU d k := fun x ox sx lx => by
    rcases lx with ⟨a, b, _⟩ | ⟨a, b, _⟩
    · rw [iT hd ox sx b, iT hd ok hk a]
    · rw [iK hd ox sx b, iK hd ok hk a]
  have hpm : aU d k = 1 ∨ aU d k = -1 := by rcases iS hd ok hk with ⟨a, _⟩ | ⟨a, _⟩ <;> omega
  have bl : ∀ {t : Int}, t.natAbs ≤ 1 → Bd 10 ⟨t, 0, 1⟩ := fun {t} h => ⟨Sz.of (by show t.natAbs < 1024; omega), Sz.of (by show (0 : Int).natAbs < 1024; decide), Sz.of (by show (1 : Int).natAbs < 1024; decide)⟩
  have b0 : Bd 10 aw := ⟨Sz.of (by decide), Sz.of (by decide), Sz.of (by decide)⟩
  by_cases hw : aU d s = aU d k
  · have hne := JP hd ok hk os hs hm hw
    have B : ky d k s (aU d k) := ⟨hd, ok, hk, os, hs, hne⟩
    have tpm := B.ht
    refine ⟨bP d k s (aU d k), ⟨aU d k * aJ d s (aU d k), 0, 1⟩, ⟨-aJ d s (aU d k), 0, 1⟩, bLast d s (aU d k), ?_, ?_, ?_⟩
    · unfold Ho
      rw [if_pos hw]
      rfl
    · refine ⟨B.op, cR _, cR _, B.ol, ?_, bl ?_, bl ?_, (wq s5 os bs B.nm tpm).mono (by decide)⟩
      · have hN := tm s5 bk
        have st : ∀ {j : Nat} {i : Int}, Sz j i → Sz j (aJ d s (aU d k) * i) := fun h => h.le (by rw [Int.natAbs_mul]; rcases tpm with t | t <;> rw [t] <;> simp)
        rcases iS hd ok hk with ⟨a, b⟩ | ⟨a, b⟩
        · exact ((Mj B (by rw [a]; decide)).bd B.op (n := 1000) ((st (((s5.mul bk.b).mul bk.b).mul bs.b)).neg.mono (by decide)) ((st ((bk.b.mul bk.b).mul bs.a)).mono (by decide)) ((hN.mul bs.b).mono (by decide))).mono (by decide)
        · exact ((Nm B (by rw [a]; decide)).bd B.op (n := 1000) ((st ((bk.a.mul bk.a).mul bs.a)).mono (by decide)) ((st ((bk.a.mul bk.a).mul bs.b)).neg.mono (by decide)) ((hN.mul bs.a).mono (by decide))).mono (by decide)
      · rcases hpm with a | a <;> rcases tpm with t | t <;> rw [a] <;> rw [a] at t <;> rw [t] <;> decide
      · rcases tpm with t | t <;> rw [t] <;> decide
    · refine both (fun x ox sx lx => KQ B hw ox sx lx) ?_
      rcases iS hd ok hk with ⟨a, b⟩ | ⟨a, b⟩
      · have ns : 0 < norm d s := by
          rcases iS hd os hs with ⟨a', b'⟩ | ⟨a', b'⟩
          · exact b'
          · rw [a', a] at hw; exact absurd hw (by decide)
        rw [a] at B ⊢
        exact HL B b (Int.not_le.mp fun z => hl (.inl ⟨b, ns, z⟩))
      · have ns : norm d s < 0 := by
          rcases iS hd os hs with ⟨a', b'⟩ | ⟨a', b'⟩
          · rw [a', a] at hw; exact absurd hw (by decide)
          · exact b'
        rw [a] at B ⊢
        exact HJ B b (Int.not_le.mp fun z => hl (.inr ⟨b, ns, z⟩))
  · refine ⟨aw, aw, aw, ⟨aU d k, 0, 1⟩, ?_, ?_, both (fun x ox sx lx => G8 hd ox sx (wl x ox sx lx)) (Iz hd os hs hpm hw)⟩
    · unfold Ho
      rw [if_neg hw]
      rfl
    · exact ⟨ip, ip, ip, cR _, b0.mono (by decide), b0, b0, (bl (by rcases hpm with a | a <;> rw [a] <;> decide)).mono (by decide)⟩
end
open PySem PySem.Spec PyProof.Rows NM
noncomputable def sV : DSp := fun ds μ Q => ∃ (d : Int) (ks : List N3) (s : N3), ds = [.v (.int d), .v (.tuple (ks.map dN)), .v (dN s)] ∧ aA d ∧ da d ks ∧ Ok s ∧ Bd 480 s ∧ sg d s.a s.b = 1 ∧ Q (.v (.bool (kU d ks s))) μ
theorem A3 {μ : Mu} {Q : DK} {ds : List D} (h : sV ds μ Q) : ds.length = 3 := by obtain ⟨_, _, _, rfl, _⟩ := h; rfl
noncomputable def kB : DTS :=
  (aO (bJ (rN [none, some 0] (oj (af 1)) (ay 0) qM (au fg (ab (af 1) (ab (au eA (ab (af 0) ar)) ar)))) (ay 3))
  (aO (cV (dB (dOp rGt (Et (af 3)) (dC (.int 1)))) (bI (dC (.bool true))) bU)
  (aO (cV (dB (dOp (dD true) (au fg (ab (af 0) (ab (au eA (ab (af 2) ar)) ar))) (dOp aF (af 3) (dC (.int 0))))) (bI (dC (.bool false))) bU)
  (aO (bJ (au nY (ab (af 0) (ab (af 2) ar))) (ay 4))
  (aO (cV (dB (dOp rGt (dOp aF (af 3) (dC (.int 0))) (dC (.int 0)))) (bI (dCB BZ (ab (vJ [none, some 0, some 4] (oj (af 1)) (ay 0) qM (Ce (au tH (ab (af 1) (ab (au nY (ab (af 1) (ab (af 0) ar))) (ab (af 2) ar)))))) ar))) bU)
  (bI (dCB BZ (ab (vJ [none, some 0, some 4] (oj (af 1)) (ay 0) qM (Ce (au tH (ab (af 1) (ab (af 2) (ab (au nY (ab (af 1) (ab (af 0) ar))) ar)))))) ar))))))))
section
variable {μ : Mu} {Qd : DK} {ds : List D} {ρ : Rho}
theorem PD : ∀ ns : List Int, 1 ≤ ns.length → ns.length ≤ 3 → (∀ n ∈ ns, n = 1 ∨ n = -1) → (decide ((1 : Int) < (x8 ns : Nat)) = (ns.any (fun n => decide (n = 1)) && ns.any (fun n => decide (n = -1)))) := by
  intro ns h1 h3 hn
  match ns, h1, h3, hn with
  | [a], _, _, hn => rcases hn a (by simp) with rfl | rfl <;> decide +kernel
  | [a, b], _, _, hn => rcases hn a (by simp) with rfl | rfl <;> rcases hn b (by simp) with rfl | rfl <;> decide +kernel
  | [a, b, c], _, _, hn => rcases hn a (by simp) with rfl | rfl <;> rcases hn b (by simp) with rfl | rfl <;> rcases hn c (by simp) with rfl | rfl <;> decide +kernel
theorem NJ (l : List Int) : eE (l.map PyData.int) = some l := by
  induction l with
  | nil => rfl
  | cons k l ih =>
    rw [List.map_cons]
    show eE (PyData.int k :: _) = _
    unfold eE
    rw [ih]
    rfl
def fBo (g : N3 → Bool) : PyData → Option PyData
  | .tuple [.int a, .int b, .int c] => some (.bool (g ⟨a, b, c⟩))
  | _ => none
theorem SV (g : N3 → Bool) (xs : List N3) : cL ((xs.map dN).filterMap (fBo g)) = some (xs.map g) := by
  induction xs with
  | nil => rfl
  | cons x xs ih =>
    rw [List.map_cons, List.filterMap_cons]
    show cL (PyData.bool (g x) :: _) = _
    unfold cL
    rw [ih]
    rfl
theorem Ai {ks : List N3} {f g : N3 → Bool} (h : ∀ k ∈ ks, f k = g k) : ks.any f = ks.any g := by
  induction ks with
  | nil => rfl
  | cons k t ih => rw [List.any_cons, List.any_cons, h k (by simp), ih fun x hx => h x (by simp [hx])]
theorem Si {d : Int} {k : N3} (hd : aA d) (ok : Ok k) (sk : sg d k.a k.b = 1) : aU d k = sgN d k := C0 hd ok sk
theorem LC {d : Int} {ks : List N3} {s : N3} (hd : aA d) (ho : da d ks) (os : Ok s) (hs : sg d s.a s.b = 1) (hm : dE d ks = false) : kU d ks s = ks.any (fun k => fT d k s) := by
  refine Lq ?_
  rw [Ni hd ho os hs, hm, List.any_eq_true]
  constructor
  · rintro (z | ⟨k, hk, l⟩)
    · cases z
    · obtain ⟨ok, _, sk⟩ := ho.ok k hk
      exact ⟨k, hk, (sZ hd ok os sk hs).mpr l⟩
  · rintro ⟨k, hk, l⟩
    obtain ⟨ok, _, sk⟩ := ho.ok k hk
    exact .inr ⟨k, hk, (sZ hd ok os sk hs).mp l⟩
theorem Mm {d : Int} {ks : List N3} (hd : aA d) (ho : da d ks) (hm : dE d ks = false) {x y : N3} (hx : x ∈ ks) (hy : y ∈ ks) : aU d x = aU d y := by
  obtain ⟨ox, _, sx⟩ := ho.ok x hx
  obtain ⟨oy, _, sy⟩ := ho.ok y hy
  rcases Ak hd ho hm hx hy with ⟨a, b⟩ | ⟨a, b⟩
  · rw [iT hd ox sx a, iT hd oy sy b]
  · rw [iK hd ox sx a, iK hd oy sy b]
theorem ym (h : sV ds μ Qd) : kB { nx := fun _ μ' => Qd (.v .none) μ', rt := Qd } (aX ["_law_d", "_law_kinds_here", "_law_shape_here", "_law_signs", "_law_lean"] ds) μ := by
  obtain ⟨d, ks, s, rfl, hd, ho, os, bs, hs, q⟩ := h
  have l1 := ho.l1
  have l3 := ho.l3
  have ns := aK hd os hs
  unfold kB
  walk_at "rn"
  refine ⟨by rw [List.length_map]; omega, fun p hp => ⟨fun i acc μ' => acc = ((ks.take i).map (aU d)).map .int ∧ μ' = bD μ p acc, ⟨by simp, rfl⟩, ?_, ?_⟩⟩
  · rintro i x acc μ' hx hacc ⟨rfl, rfl⟩
    rw [List.getElem?_map] at hx
    obtain ⟨k, he, rfl⟩ : ∃ k, ks[i]? = some k ∧ dN k = x := by
      cases z : ks[i]? with
      | none => rw [z] at hx; cases hx
      | some e => rw [z] at hx; exact ⟨e, rfl, by simpa using hx⟩
    obtain ⟨ok, bk, sk⟩ := ho.ok k (List.mem_of_getElem? he)
    refine ⟨⟨trivial, trivial⟩, k, rfl, d, bH k, rfl, hd, (dM bk).mono (by decide), bL, ?_, ?_⟩
    · rw [List.take_succ, he]; simp; rfl
    · rw [xg]
  · rintro acc μ' ⟨rfl, rfl⟩ hacc
    rw [B1 hp, List.length_map, List.take_length, MJ]
    walk_at "rn"
    rw [NJ]
    refine ⟨by rw [List.length_map]; omega, ?_⟩
    have pm : ∀ n ∈ ks.map (aU d), n = 1 ∨ n = -1 := fun n hn => by
      obtain ⟨k, hk, rfl⟩ := List.mem_map.mp hn
      obtain ⟨ok, _, sk⟩ := ho.ok k hk
      rcases iS hd ok sk with ⟨a, _⟩ | ⟨a, _⟩
      · exact .inl a
      · exact .inr a
    have dm := PD (ks.map (aU d)) (by rw [List.length_map]; exact l1) (by rw [List.length_map]; exact l3) pm
    have em : ((ks.map (aU d)).any (fun n => decide (n = 1)) && (ks.map (aU d)).any (fun n => decide (n = -1))) = dE d ks := by
      unfold dE
      have e : ks.map (aU d) = ks.map (sgN d) := List.map_congr_left fun k hk => by
        obtain ⟨ok, _, sk⟩ := ho.ok k hk
        exact Si hd ok sk
      rw [e, List.any_map, List.any_map]
      rfl
    rw [em] at dm
    rw [dm]
    cases hm : dE d ks with
    | true =>
      simp only [↓reduceIte]
      have : kU d ks s = true := by unfold kU; rw [hm]; rfl
      rw [this] at q
      exact q
    | false =>
      simp only [Bool.false_eq_true, ↓reduceIte]
      obtain ⟨k0, h0, e0⟩ : ∃ k ∈ ks, atI ((ks.map (aU d)).map PyData.int) 0 = some (.int (aU d k)) := by
        match ks, l1 with
        | k :: t, _ => exact ⟨k, by simp, ye⟩
      refine ⟨s, rfl, d, bH s, rfl, hd, (dM bs).mono (by decide), ?_⟩
      rw [e0]
      walk_at "rn"
      have ew : sg d (bH s).a (bH s).b = aU d s := rfl
      rw [ew]
      have la := LC hd ho os hs hm
      have each : ∀ k ∈ ks, fT d k s = (decide (aU d s = aU d k0) && (if 0 < aU d k0 then !decide (dif d (bA d s) (bA d k) = 1) else !decide (dif d (bA d k) (bA d s) = 1))) := fun k hk => by
        obtain ⟨ok, bk, sk⟩ := ho.ok k hk
        rw [Ma hd ok os sk hs, Mm hd ho hm hk h0]
      have bs5 := zj hd os ns bs
      have ols := eV hd ns os
      by_cases hw : aU d s = aU d k0
      · rw [if_neg (by simp [hw])]
        refine ⟨d, s, rfl, hd, os, ns, bs, ?_⟩
        dsimp only
        by_cases hp0 : 0 < aU d k0
        · rw [if_pos (by simpa using hp0)]
          refine ⟨by omega, fBo (fun k => !decide (dif d (bA d s) (bA d k) = 1)), fun x hx μ2 h2 => ⟨⟨trivial, trivial, trivial⟩, ?_⟩, ?_⟩
          · obtain ⟨k, hk, rfl⟩ := List.mem_map.mp hx
            obtain ⟨ok, bk, sk⟩ := ho.ok k hk
            have nk := aK hd ok sk
            exact ⟨d, k, rfl, hd, ok, nk, bk.mono (by decide), d, _, _, rfl, hd, eV hd nk ok, ols, (zj hd ok nk bk).mono (by decide), bs5.mono (by decide), rfl, rfl⟩
          · rw [PB, SV]
            have e : (ks.map (fun k => !decide (dif d (bA d s) (bA d k) = 1))).any id = kU d ks s := by
              rw [la, List.any_map]
              refine Ai fun k hk => ?_
              rw [each k hk, decide_eq_true hw, Bool.true_and, if_pos hp0]
              rfl
            rw [← e] at q
            exact q
        · rw [if_neg (by simpa using hp0)]
          refine ⟨by omega, fBo (fun k => !decide (dif d (bA d k) (bA d s) = 1)), fun x hx μ2 h2 => ⟨⟨trivial, trivial, trivial⟩, ?_⟩, ?_⟩
          · obtain ⟨k, hk, rfl⟩ := List.mem_map.mp hx
            obtain ⟨ok, bk, sk⟩ := ho.ok k hk
            have nk := aK hd ok sk
            exact ⟨d, k, rfl, hd, ok, nk, bk.mono (by decide), d, _, _, rfl, hd, ols, eV hd nk ok, bs5.mono (by decide), (zj hd ok nk bk).mono (by decide), rfl, rfl⟩
          · rw [PB, SV]
            have e : (ks.map (fun k => !decide (dif d (bA d k) (bA d s) = 1))).any id = kU d ks s := by
              rw [la, List.any_map]
              refine Ai fun k hk => ?_
              rw [each k hk, decide_eq_true hw, Bool.true_and, if_neg hp0]
              rfl
            rw [← e] at q
            exact q
      · rw [if_pos (by simp [hw])]
        have e : kU d ks s = false := by
          rw [la, List.any_eq_false]
          intro k hk
          rw [each k hk, decide_eq_false hw, Bool.false_and]
          decide
        rw [e] at q
        exact q
end
open PySem PySem.Spec PyProof.Rows NM
inductive Pt where
  | kind (i : Nat)
  | turn (p : Pt)
  | grid (u v : Int) (p : Pt)
  | upon (p q : Pt)
def Pt.data : Pt → PyData
  | .kind i => .tuple [.str "kind", .int i]
  | .turn p => .tuple [.str "turn", p.data]
  | .grid u v p => .tuple [.str "grid", .int u, .int v, p.data]
  | .upon p q => .tuple [.str "upon", .tuple [p.data, q.data]]
def Pt.depth : Pt → Nat
  | .kind _ => 1
  | .turn p => p.depth + 1
  | .grid _ _ p => p.depth + 1
  | .upon p q => max p.depth q.depth + 1
def Pt.count : Pt → Nat
  | .kind _ => 1
  | .turn p => p.count + 1
  | .grid _ _ p => p.count + 1
  | .upon p q => p.count + q.count + 1
def Pt.good (m : Nat) : Pt → Prop
  | .kind i => i < m
  | .turn p => p.good m
  | .grid u v p => (0 < u ∧ 0 < v) ∧ p.good m
  | .upon p q => p.good m ∧ q.good m
theorem Pt.xh (p : Pt) : 1 ≤ p.depth := by cases p <;> simp only [Pt.depth] <;> omega
theorem Pt.o8 (p : Pt) : 1 ≤ p.count := by cases p <;> simp only [Pt.count] <;> omega
inductive ShT (d : Int) (ks : List N3) : Pt → N3 → Prop
  | kind {i : Nat} : i < ks.length → ShT d ks (.kind i) (ks.getD i aw)
  | turn {p : Pt} {x : N3} : ShT d ks p x → norm d x ≠ 0 → Bd 4300 x → ShT d ks (.turn p) (ao d x)
  | grid {u v : Int} {p : Pt} {x : N3} : u ≠ 0 → Sz 4300 u → ShT d ks p x → Ok x → Bd 4300 x → Bd 4300 (low v 0 u) → ShT d ks (.grid u v p) (times d (low v 0 u) x)
  | upon {p q : Pt} {x y : N3} : ShT d ks p x → ShT d ks q y → Ok x → Ok y → Bd 4300 x → Bd 4300 y → ShT d ks (.upon p q) (plus x y)
section
variable {d : Int} {ks : List N3}
structure Frn (n : Nat) (x : N3) : Prop where
  ok : Ok x
  b : x.b = 0
  a0 : 0 ≤ x.a
  bd : Bd n x
theorem Frn.pos {n : Nat} {x : N3} (h : Frn n x) (hn : x ≠ aw) : 0 < x.a := by
  have := h.a0
  rcases Int.lt_or_eq_of_le this with z | z
  · exact z
  · exfalso
    apply hn
    have hg := h.ok.g
    rw [h.b, ← z] at hg
    have hc := h.ok.c
    have : x.c = 1 := by unfold g3 at hg; simp [Int.gcd] at hg; omega
    exact N3.ext' z.symm h.b this
def fJ (x : N3) (p : Pt) : Pt := if x = one then p else .grid x.c x.a p
theorem lr (x : N3) (p : Pt) : (fJ x p).data = rS x p.data := by unfold fJ rS; split <;> rfl
theorem k7 {n m : Nat} {x : N3} {p : Pt} (h : Frn n x) (hn : x ≠ aw) (hp : p.good m) : (fJ x p).good m := by
  unfold fJ
  split
  · exact hp
  · exact ⟨⟨h.ok.c, h.pos hn⟩, hp⟩
theorem tX (x : N3) (p : Pt) : (fJ x p).depth ≤ p.depth + 1 ∧ (fJ x p).count ≤ p.count + 1 := by
  unfold fJ
  split
  · exact ⟨by omega, by omega⟩
  · exact ⟨Nat.le_refl _, Nat.le_refl _⟩
theorem MQ {x : N3} (ox : Ok x) : times d one x = x := by
  refine Rep.eq (ai kA ox) ox (Rep.times kA ox (aq kA) (aq ox)) (aq ox) ?_ ?_
  · show (1 * x.a + d * 0 * x.b) * x.c = x.a * (1 * x.c); grind
  · show (1 * x.b + 0 * x.a) * x.c = x.b * (1 * x.c); grind
theorem AA {x f : N3} {p : Pt} (h : Frn 4000 x) (hp : ShT d ks p f) (of : Ok f) (bf : Bd 4300 f) : ShT d ks (fJ x p) (times d x f) := by
  unfold fJ
  split
  · rename_i e
    rw [e, MQ of]
    exact hp
  · have e : low x.a 0 x.c = x := by have := h.ok.low; rw [h.b] at this; exact this
    have hc := h.ok.c
    have := ShT.grid (v := x.a) (show x.c ≠ 0 by omega) (h.bd.c.mono (by decide)) hp of bf (by rw [e]; exact h.bd.mono (by decide))
    rw [e] at this
    exact this
theorem Jh {m : Nat} {u v f g : N3} {P Q : Pt} (s5 : Sz 5 d) (fu : Frn 4000 u) (fv : Frn 4000 v) (hn : ¬ (u = aw ∧ v = aw)) (hP : ShT d ks P f) (hQ : ShT d ks Q g) (of : Ok f) (og : Ok g) (bf : Bd 286 f) (bg : Bd 286 g) (gP : P.good m) (gQ : Q.good m) (dP : P.depth ≤ 2) (dQ : Q.depth ≤ 2) (cP : P.count ≤ 2) (cQ : Q.count ≤ 2) :
    ∃ p : Pt, p.data = Ag u v P.data Q.data ∧ p.good m ∧ p.depth ≤ 4 ∧ p.count ≤ 7 ∧ ShT d ks p (plus (times d u f) (times d v g)) := by
  have s1 := tX u P
  have s2 := tX v Q
  have ou := ai (d := d) fu.ok of
  have ov := ai (d := d) fv.ok og
  have t1 := AA fu hP of (bf.mono (by decide))
  have t2 := AA fv hQ og (bg.mono (by decide))
  unfold Ag
  by_cases h1 : v = aw
  · have hu : u ≠ aw := fun z => hn ⟨z, h1⟩
    refine ⟨fJ u P, by rw [if_pos h1, lr], k7 fu hu gP, by omega, by omega, ?_⟩
    rw [h1, u4 og, OE ou]
    exact t1
  · by_cases h2 : u = aw
    · refine ⟨fJ v Q, by rw [if_neg h1, if_pos h2, lr], k7 fv h1 gQ, by omega, by omega, ?_⟩
      rw [h2, u4 of, IL ov]
      exact t2
    · refine ⟨.upon (fJ u P) (fJ v Q), ?_, ⟨k7 fu h2 gP, k7 fv h1 gQ⟩, ?_, ?_, .upon t1 t2 ou ov ?_ ?_⟩
      · rw [if_neg h1, if_neg h2]
        show PyData.tuple [.str "upon", .tuple [(fJ u P).data, (fJ v Q).data]] = _
        rw [lr, lr]
      · show max _ _ + 1 ≤ 4; omega
      · show _ + _ + 1 ≤ 7; omega
      · exact (aT s5 fu.ok of fu.bd bf).mono (by decide)
      · exact (aT s5 fv.ok og fv.bd bg).mono (by decide)
end
open PySem PySem.Spec PyProof.Rows NM
section
variable {d : Int} {ks : List N3} {x f g s k : N3}
theorem R3 (i : Int) : 0 ≤ i * i := by
  rcases Int.le_total 0 i with h | h
  · exact Int.mul_nonneg h h
  · exact Int.mul_nonneg_of_nonpos_of_nonpos h h
theorem JL (hd : aA d) (hs : sg d x.a x.b = 1) (hn : 0 < norm d x) : 0 < x.a := (ni hd (by unfold norm at hn; omega)).mp ((jH hd).mp hs)
theorem J6 (hd : aA d) (hs : sg d x.a x.b = 1) (hn : norm d x < 0) : 0 < x.b := (ko hd (by unfold norm at hn; omega)).mp ((jH hd).mp hs)
theorem Fu (ox : Ok x) (nx : norm d x ≠ 0) : ∃ p q : Int, 0 < p ∧ 0 < q ∧ (ao d x).a * (ao d x).b * p = -(x.a * x.b) * q := by
  have r := Rep.ao ox nx (aq ox)
  have oc := aB nx
  have hN := r.c
  have h1 := r.a
  have h2 := r.b
  have hx := ox.c
  have hc := oc.c
  refine ⟨(x.a * x.a - d * x.b * x.b) * (x.a * x.a - d * x.b * x.b), x.c * x.c * ((ao d x).c * (ao d x).c), ?_, ?_, ?_⟩
  · have := R3 (x.a * x.a - d * x.b * x.b)
    rcases Int.lt_or_eq_of_le this with z | z
    · exact z
    · rcases Int.mul_eq_zero.mp z.symm with h | h <;> exact absurd h hN
  · exact Int.mul_pos (Int.mul_pos hx hx) (Int.mul_pos hc hc)
  · generalize (ao d x).a = A at *
    generalize (ao d x).b = B at *
    generalize (ao d x).c = C at *
    generalize x.a * x.a - d * x.b * x.b = N at *
    have e : A * B * (N * N) = (A * N) * (B * N) := by grind
    rw [e, h1, h2]
    grind
theorem JG (ok : Ok k) (nk : norm d k ≠ 0) : (grN d k).a * (grN d k).b ≤ 0 := by
  unfold grN
  split
  · rename_i h
    unfold grB at h
    have := of_decide_eq_true h
    omega
  · rename_i h
    unfold grB at h
    have h' : ¬ (ao d k).a * (ao d k).b < 0 := by simpa using h
    obtain ⟨p, q, hp, hq, e⟩ := Fu ok nk
    rcases Int.lt_or_le 0 (k.a * k.b) with z | z
    · exfalso
      have h1 : 0 ≤ (ao d k).a * (ao d k).b * p := Int.mul_nonneg (by omega) (Int.le_of_lt hp)
      have h2 : 0 < (k.a * k.b) * q := Int.mul_pos z hq
      rw [e, Int.neg_mul] at h1
      omega
    · exact z
def flat (d : Int) (s : N3) : N3 := if grB s = true then ao d s else s
theorem KO (os : Ok s) (ns : norm d s ≠ 0) : 0 ≤ (flat d s).a * (flat d s).b := by
  unfold flat
  split
  · rename_i h
    unfold grB at h
    have h' := of_decide_eq_true h
    obtain ⟨p, q, hp, hq, e⟩ := Fu os ns
    rcases Int.lt_or_le ((ao d s).a * (ao d s).b) 0 with z | z
    · exfalso
      have h1 : (ao d s).a * (ao d s).b * p < 0 := Int.mul_neg_of_neg_of_pos z hp
      have h2 : 0 < -(s.a * s.b) * q := Int.mul_pos (by omega) hq
      omega
    · exact z
  · rename_i h
    unfold grB at h
    have : ¬ s.a * s.b < 0 := by simpa using h
    omega
theorem OT (hd : aA d) (os : Ok s) (hs : sg d s.a s.b = 1) : Ok (flat d s) ∧ sg d (flat d s).a (flat d s).b = 1 := by
  have ns := aK hd os hs
  unfold flat
  split
  · exact ⟨aB ns, dX hd os hs⟩
  · exact ⟨os, hs⟩
theorem NS (hd : aA d) (hs : sg d x.a x.b = 1) (hp : 0 ≤ x.a * x.b) : 0 ≤ x.a ∧ 0 ≤ x.b := by
  unfold sg at hs
  split at hs
  · cases hs
  · split at hs
    · assumption
    · split at hs
      · cases hs
      · rename_i h0 h1 h2
        exfalso
        rcases Int.lt_or_le x.a 0 with z | z
        · have : 0 < x.b := by omega
          have := Int.mul_neg_of_neg_of_pos z this
          omega
        · rcases Int.lt_or_le x.b 0 with y | y
          · have : 0 < x.a := by omega
            have := Int.mul_neg_of_pos_of_neg this y
            omega
          · omega
structure E4 (d : Int) (f g s : N3) : Prop where
  D : 0 < g.b * f.a - g.a * f.b
  u : 0 ≤ s.a * g.b - s.b * g.a
  v : 0 ≤ s.b * f.a - s.a * f.b
theorem Ra (hd : aA d) (hf : sg d f.a f.b = 1) (nf : 0 < norm d f) (pf : f.a * f.b ≤ 0) (hg : sg d g.a g.b = 1) (ng : norm d g < 0) (pg : g.a * g.b ≤ 0) (sa : 0 ≤ s.a) (sb : 0 ≤ s.b) : E4 d f g s := by
  have fa := JL hd hf nf
  have gb := J6 hd hg ng
  have fb : f.b ≤ 0 := by
    rcases Int.lt_or_le 0 f.b with z | z
    · have := Int.mul_pos fa z; omega
    · exact z
  have ga : g.a ≤ 0 := by
    rcases Int.lt_or_le 0 g.a with z | z
    · have := Int.mul_pos z gb; omega
    · exact z
  refine ⟨?_, ?_, ?_⟩
  · have h1 : 0 < f.a * f.a - d * f.b * f.b := nf
    have h2 : g.a * g.a - d * g.b * g.b < 0 := ng
    have d0 : 0 < d := by have := hd.1; omega
    rcases Int.lt_or_le 0 (g.b * f.a - g.a * f.b) with z | z
    · exact z
    · exfalso
      have q1 : g.b * f.a ≤ g.a * f.b := by omega
      have p1 : 0 < g.b * f.a := Int.mul_pos gb fa
      have sq : (g.b * f.a) * (g.b * f.a) ≤ (g.a * f.b) * (g.a * f.b) := Int.mul_le_mul q1 q1 (by omega) (by omega)
      have k1 : g.a * g.a * (f.b * f.b) ≤ d * g.b * g.b * (f.b * f.b) := Int.mul_le_mul_of_nonneg_right (by omega) (R3 _)
      have k2 : g.b * g.b * (d * f.b * f.b) < g.b * g.b * (f.a * f.a) := Int.mul_lt_mul_of_pos_left (by omega) (Int.mul_pos gb gb)
      have e1 : (g.b * f.a) * (g.b * f.a) = g.b * g.b * (f.a * f.a) := by grind
      have e2 : (g.a * f.b) * (g.a * f.b) = g.a * g.a * (f.b * f.b) := by grind
      have e3 : d * g.b * g.b * (f.b * f.b) = g.b * g.b * (d * f.b * f.b) := by grind
      omega
  · have a1 := Int.mul_nonneg sa (Int.le_of_lt gb)
    have a2 := Int.mul_nonneg sb (show 0 ≤ -g.a by omega)
    rw [Int.mul_neg] at a2
    omega
  · have a1 := Int.mul_nonneg sb (Int.le_of_lt fa)
    have a2 := Int.mul_nonneg sa (show 0 ≤ -f.b by omega)
    rw [Int.mul_neg] at a2
    omega
theorem Rep.JR {A B C A' B' C' : Int} (h : Rep x A B C) (hc : C' ≠ 0) (e1 : A * C' = A' * C) (e2 : B * C' = B' * C) : Rep x A' B' C' := by
  have hC := h.c
  have h1 := h.a
  have h2 := h.b
  refine ⟨hc, ?_, ?_⟩
  · apply Int.eq_of_mul_eq_mul_right hC
    have : x.a * C' * C = (x.a * C) * C' := by grind
    rw [this, h1]
    have : A * x.c * C' = (A * C') * x.c := by grind
    rw [this, e1]
    grind
  · apply Int.eq_of_mul_eq_mul_right hC
    have : x.b * C' * C = (x.b * C) * C' := by grind
    rw [this, h2]
    have : B * x.c * C' = (B * C') * x.c := by grind
    rw [this, e2]
    grind
theorem OD {A C : Int} {n : Nat} (ox : Ok x) (r : Rep x A 0 C) (hA : 0 ≤ A) (hC : 0 < C) (zA : Sz n A) (zC : Sz n C) : Frn n x := by
  have hb := r.b
  rw [Int.zero_mul] at hb
  have ha := r.a
  have hc := ox.c
  refine ⟨ox, (Int.mul_eq_zero.mp hb).resolve_right (by omega), ?_, r.bd ox zA sz0 zC⟩
  rcases Int.lt_or_le x.a 0 with z | z
  · have h1 := Int.mul_neg_of_neg_of_pos z hC
    have h2 := Int.mul_nonneg hA (Int.le_of_lt hc)
    omega
  · exact z
theorem Ef (of : Ok f) (og : Ok g) (os : Ok s) (nf : norm d f ≠ 0) (T : E4 d f g s) : Rep (AN d f g s) (g.c * (s.b * f.a - s.a * f.b)) 0 (s.c * (g.b * f.a - g.a * f.b)) ∧ Ok (AN d f g s) := by
  have rX := wk of os nf (aq of) (aq os)
  have rY := wk of og nf (aq of) (aq og)
  have oX : Ok (shA d f s) := ik os nf
  have oY : Ok (shA d f g) := ik og nf
  have hN : f.a * f.a - d * f.b * f.b ≠ 0 := nf
  have hD := T.D
  have fc := of.c
  have gc := og.c
  have sc := os.c
  have xa := rX.b
  have ya := rY.b
  have yc := oY.c
  have xc := oX.c
  unfold AN
  generalize shA d f s = X at *
  generalize shA d f g = Y at *
  have yb : Y.b ≠ 0 := fun z => by
    rw [z, Int.zero_mul] at ya
    have h1 := Int.mul_pos (Int.mul_pos fc hD) yc
    omega
  have hc : X.c * Y.b ≠ 0 := Int.mul_ne_zero (by omega) yb
  refine ⟨Rep.JR (jh (a := X.b * Y.c) (b := 0) hc) (Int.mul_ne_zero (by omega) (by omega)) ?_ (by grind), iP _ _ hc⟩
  generalize f.a * f.a - d * f.b * f.b = N at *
  generalize s.b * f.a - s.a * f.b = V at *
  generalize g.b * f.a - g.a * f.b = DD at *
  apply Int.eq_of_mul_eq_mul_right hN
  have e1 : X.b * Y.c * (s.c * DD) * N = (X.b * (s.c * N)) * (Y.c * DD) := by grind
  have e2 : g.c * V * (X.c * Y.b) * N = (Y.b * (g.c * N)) * (V * X.c) := by grind
  rw [e1, e2, xa, ya]
  grind
theorem Jn (of : Ok f) (og : Ok g) (os : Ok s) (nf : norm d f ≠ 0) (T : E4 d f g s) : Rep (Ke d f g s) (f.c * (s.a * g.b - s.b * g.a)) 0 (s.c * (g.b * f.a - g.a * f.b)) ∧ Ok (Ke d f g s) := by
  obtain ⟨rv, ov⟩ := Ef of og os nf T
  have rX := wk of os nf (aq of) (aq os)
  have rY := wk of og nf (aq of) (aq og)
  have oX : Ok (shA d f s) := ik os nf
  have oY : Ok (shA d f g) := ik og nf
  have hD := T.D
  have sc := os.c
  have ot := ai (d := d) ov oY
  have r := Rep.less oX ot rX (Rep.times (d := d) ov oY rv rY)
  refine ⟨Rep.JR r (Int.mul_ne_zero (by omega) (by omega)) ?_ ?_, lH oX ot⟩
  · clear r rX rY rv oX oY ot ov hD T nf
    generalize f.a = fa; generalize f.b = fb; generalize f.c = fc; generalize g.a = ga; generalize g.b = gb; generalize g.c = gc; generalize s.a = sa; generalize s.b = sb; generalize s.c = sC
    grind
  · clear r rX rY rv oX oY ot ov hD T nf
    generalize f.a = fa; generalize f.b = fb; generalize f.c = fc; generalize g.a = ga; generalize g.b = gb; generalize g.c = gc; generalize s.a = sa; generalize s.b = sb; generalize s.c = sC
    grind
theorem Rw (of : Ok f) (og : Ok g) (os : Ok s) (nf : norm d f ≠ 0) (T : E4 d f g s) : plus (times d (Ke d f g s) f) (times d (AN d f g s) g) = s := by
  obtain ⟨rv, ov⟩ := Ef of og os nf T
  obtain ⟨ru, ou⟩ := Jn of og os nf T
  have o1 := ai (d := d) ou of
  have o2 := ai (d := d) ov og
  refine Rep.eq (bM o1 o2) os (Rep.plus o1 o2 (Rep.times ou of ru (aq of)) (Rep.times ov og rv (aq og))) (aq os) ?_ ?_
  · clear o1 o2 rv ov ru ou T nf
    generalize f.a = fa; generalize f.b = fb; generalize f.c = fc; generalize g.a = ga; generalize g.b = gb; generalize g.c = gc; generalize s.a = sa; generalize s.b = sb; generalize s.c = sC
    grind
  · clear o1 o2 rv ov ru ou T nf
    generalize f.a = fa; generalize f.b = fb; generalize f.c = fc; generalize g.a = ga; generalize g.b = gb; generalize g.c = gc; generalize s.a = sa; generalize s.b = sb; generalize s.c = sC
    grind
end
open PySem PySem.Spec PyProof.Rows NM
section
variable {d : Int} {ks : List N3} {s : N3}
structure SK (d : Int) (ks : List N3) (s : N3) (p : Pt) : Prop where
  good : p.good ks.length
  depth : p.depth ≤ 5
  count : p.count ≤ 8
  sh : ShT d ks p s
def K5 (d : Int) (k : N3) (i : Nat) : Pt := if grB (ao d k) = true then .turn (.kind i) else .kind i
theorem Jp {i : Nat} (hd : aA d) (ho : da d ks) (hi : i < ks.length) : (K5 d (ks.getD i aw) i).data = grP d (ks.getD i aw) i ∧ (K5 d (ks.getD i aw) i).good ks.length ∧ (K5 d (ks.getD i aw) i).depth ≤ 2 ∧ (K5 d (ks.getD i aw) i).count ≤ 2 ∧ ShT d ks (K5 d (ks.getD i aw) i) (grN d (ks.getD i aw)) := by
  obtain ⟨ok, bk, sk⟩ := ho.ok _ (ey hi).2
  unfold K5 grP grN
  split
  · exact ⟨rfl, hi, Nat.le_refl _, Nat.le_refl _, .turn (.kind hi) (aK hd ok sk) (bk.mono (by decide))⟩
  · exact ⟨rfl, hi, by show 1 ≤ 2; decide, by show 1 ≤ 2; decide, .kind hi⟩
theorem OF (hd : aA d) (ho : da d ks) (hm : dE d ks = true) (os : Ok s) (bs : Bd 480 s) (hs : sg d s.a s.b = 1) : ∃ p : Pt, p.data = Fe d ks s ∧ SK d ks s p := by
  have s5 := jt hd.1 hd.2.1
  have ns := aK hd os hs
  have hm' := hm
  unfold dE at hm'
  rw [Bool.and_eq_true] at hm'
  obtain ⟨i1, i2, i3⟩ := vE hm'.1
  obtain ⟨j1, j2, j3⟩ := vE hm'.2
  obtain ⟨ok1, bk1, sk1⟩ := ho.ok _ (ey i2).2
  obtain ⟨ok2, bk2, sk2⟩ := ho.ok _ (ey j2).2
  have g1 := Jx hd ok1 bk1 sk1
  have g2 := Jx hd ok2 bk2 sk2
  obtain ⟨fo, fs⟩ := OT hd os hs
  have fb : Bd 970 (flat d s) := by
    unfold flat
    split
    · exact (bT s5 ns bs).mono (by decide)
    · exact bs.mono (by decide)
  obtain ⟨fa0, fb0⟩ := NS hd fs (KO os ns)
  have n1 := g1.pos.mpr (JH i3)
  have n2 := g2.neg.mpr (Ka j3)
  have T : E4 d (grN d (ks.getD (iOf d ks 1) aw)) (grN d (ks.getD (iOf d ks (-1)) aw)) (flat d s) := Ra hd g1.sg n1 (JG ok1 (aK hd ok1 sk1)) g2.sg n2 (JG ok2 (aK hd ok2 sk2)) fa0 fb0
  have nf : norm d (grN d (ks.getD (iOf d ks 1) aw)) ≠ 0 := by omega
  obtain ⟨rv, ov⟩ := Ef g1.ok g2.ok fo nf T
  obtain ⟨ru, ou⟩ := Jn g1.ok g2.ok fo nf T
  have su := Rw g1.ok g2.ok fo nf T
  obtain ⟨p1, p2, p3, p4, p5⟩ := Jp hd ho i2
  obtain ⟨q1, q2, q3, q4, q5⟩ := Jp hd ho j2
  have F : ∀ {A C : Int} {x : N3}, Ok x → Rep x A 0 C → 0 ≤ A → 0 < C → Sz 1560 A → Sz 1560 C → Frn 4000 x := fun ox r a c za zc => OD ox r a c (za.mono (by decide)) (zc.mono (by decide))
  have zD : Sz 1560 ((flat d s).c * ((grN d (ks.getD (iOf d ks (-1)) aw)).b * (grN d (ks.getD (iOf d ks 1) aw)).a - (grN d (ks.getD (iOf d ks (-1)) aw)).a * (grN d (ks.getD (iOf d ks 1) aw)).b)) := (fb.c.mul ((g2.bd.b.mul g1.bd.a).sub (g2.bd.a.mul g1.bd.b))).mono (by decide)
  have cD := Int.mul_pos fo.c T.D
  have fu := F ou ru (Int.mul_nonneg (Int.le_of_lt g1.ok.c) T.u) cD ((g1.bd.c.mul ((fb.a.mul g2.bd.b).sub (fb.b.mul g2.bd.a))).mono (by decide)) zD
  have fv := F ov rv (Int.mul_nonneg (Int.le_of_lt g2.ok.c) T.v) cD ((g2.bd.c.mul ((fb.b.mul g1.bd.a).sub (fb.a.mul g1.bd.b))).mono (by decide)) zD
  have hn : ¬ (Ke d (grN d (ks.getD (iOf d ks 1) aw)) (grN d (ks.getD (iOf d ks (-1)) aw)) (flat d s) = aw ∧ AN d (grN d (ks.getD (iOf d ks 1) aw)) (grN d (ks.getD (iOf d ks (-1)) aw)) (flat d s) = aw) := fun z => by
    rw [z.1, z.2, u4 g1.ok, u4 g2.ok, IL g0] at su
    exact eL fs su.symm
  obtain ⟨p, e, pg, pd, pc, ps⟩ := Jh s5 fu fv hn p5 q5 g1.ok g2.ok g1.bd g2.bd p2 q2 p3 q3 p4 q4
  rw [su] at ps
  rw [p1, q1] at e
  unfold Fe
  by_cases h : grB s = true
  · have ef : flat d s = ao d s := if_pos h
    rw [if_pos h]
    refine ⟨.turn p, ?_, pg, by show p.depth + 1 ≤ 5; omega, by show p.count + 1 ≤ 8; omega, ?_⟩
    · show PyData.tuple [.str "turn", p.data] = _
      rw [e]
      rfl
    · have t := ShT.turn ps (by rw [ef]; exact aK hd (aB ns) (dX hd os hs)) (fb.mono (by decide))
      rw [ef, NV os ns] at t
      exact t
  · have ef : flat d s = s := if_neg h
    rw [if_neg h]
    refine ⟨p, e, pg, by omega, by omega, ?_⟩
    rw [ef] at ps
    exact ps
theorem Oq (hd : aA d) (ho : da d ks) (os : Ok s) (bs : Bd 480 s) (hs : sg d s.a s.b = 1) (hl : kU d ks s = true) : ∃ p : Pt, B3 d ks s = .tuple [.str "plan", p.data] ∧ SK d ks s p := by
  have s5 := jt hd.1 hd.2.1
  unfold B3
  by_cases hm : dE d ks = true
  · obtain ⟨p, e, h⟩ := OF hd ho hm os bs hs
    exact ⟨p, by rw [if_pos hm, e], h⟩
  · have hx : fT d (kx d ks) s = true := by unfold kU at hl; rw [Bool.eq_false_iff.mpr hm, Bool.false_or] at hl; exact hl
    rw [if_neg hm, if_pos hx]
    have hi := AO hd ho
    obtain ⟨ok, bk, sk⟩ := ho.ok _ (tD hd ho)
    have nk := aK hd ok sk
    have M := Mb (s := s) hd ok bk sk os bs
    have hx' := hx
    unfold fT at hx'
    rw [Bool.and_eq_true] at hx'
    have fu : Frn 4000 (vb d (kx d ks) s) := ⟨M.ou, CO hx'.1, JQ hx'.1, M.bu.mono (by decide)⟩
    have fv : Frn 4000 (uD d (kx d ks) s) := ⟨M.ov, CO hx'.2, JQ hx'.2, M.bv.mono (by decide)⟩
    have su := O5 ok os nk
    have oc := aB nk
    have hn : ¬ (vb d (kx d ks) s = aw ∧ uD d (kx d ks) s = aw) := fun z => by
      rw [z.1, z.2, u4 ok, u4 oc, IL g0] at su
      exact eL hs su.symm
    have t1 : ShT d ks (.kind (Cu d ks)) (kx d ks) := .kind hi
    obtain ⟨p, e, pg, pd, pc, ps⟩ := Jh (m := ks.length) s5 fu fv hn t1 (.turn t1 nk (bk.mono (by decide))) ok oc (bk.mono (by decide)) (bT s5 nk bk) hi hi (by show 1 ≤ 2; decide) (Nat.le_refl 2) (by show 1 ≤ 2; decide) (Nat.le_refl 2)
    rw [su] at ps
    exact ⟨p, by rw [e]; rfl, pg, by omega, by omega, ps⟩
end
open PySem PySem.Spec PyProof.Rows NM
theorem Mo {a b : Str} {neg : Bool} {μ : Mu} {Q : DK} (ha : SeqAt.shaped (.str a) = true) (hb : SeqAt.shaped (.str b) = true) : dD neg (.v (.str a)) (.v (.str b)) μ Q = Q (.v (.bool (neg ^^ decide (a = b)))) μ := by
  rw [Gk]
  have e : PyData.eqv (.str a) (.str b) = decide (a = b) := by simp [PyData.eqv]; rfl
  rw [e]
  exact propext ⟨fun h => h.2.2, fun h => ⟨ha, hb, h⟩⟩
theorem Uk : SeqAt.shaped (.str "kind") = true := by decide +kernel
theorem TU : SeqAt.shaped (.str "turn") = true := by decide +kernel
theorem Ul : SeqAt.shaped (.str "grid") = true := by decide +kernel
theorem T8 : SeqAt.shaped (.str "upon") = true := by decide +kernel
theorem TH : decide (("kind" : Str) = "kind") = true := by decide
theorem TN : decide (("turn" : Str) = "kind") = false := by decide
theorem TM : decide (("grid" : Str) = "kind") = false := by decide
theorem Uc : decide (("upon" : Str) = "kind") = false := by decide
theorem Ts : decide (("turn" : Str) = "turn") = true := by decide
theorem TL : decide (("grid" : Str) = "turn") = false := by decide
theorem Tz : decide (("upon" : Str) = "turn") = false := by decide
theorem Uw : decide (("grid" : Str) = "grid") = true := by decide
theorem TZ : decide (("upon" : Str) = "grid") = false := by decide
theorem TC : decide (("upon" : Str) = "upon") = true := by decide
theorem Sr {x : Str} : isT "str" (.str x) = true := rfl
theorem RY {xs : List PyData} : isT "tuple" (.tuple xs) = true := rfl
theorem TK {u : Int} : isWhole (.int u) = true := rfl
theorem Sw : decide (((2 : Nat) : Int) < 2) = false := rfl
theorem RK : decide (((4 : Nat) : Int) < 2) = false := rfl
theorem TV : decide (((2 : Nat) : Int) = 2) = true := rfl
theorem Tu : decide (((4 : Nat) : Int) = 4) = true := rfl
theorem Uu : decide ((2 : Int) ≤ ((2 : Nat) : Int)) = true := rfl
theorem Tp : decide (((2 : Nat) : Int) ≤ 8) = true := rfl
theorem QV {m : Nat} : decide (((m + 1 : Nat) : Int) = 0) = false := decide_eq_false (by omega)
theorem TB {m : Nat} : decide ((0 : Int) ≤ (m : Int)) = true := decide_eq_true (by omega)
theorem Te : ([PyData.str "turn", .str "upon", .str "beside"].any fun b => PyData.eqv b (.str "turn")) = true := by decide +kernel
theorem RR : ([PyData.str "turn", .str "upon", .str "beside"].any fun b => PyData.eqv b (.str "upon")) = true := by decide +kernel
theorem Tx : decide (("kind" : Str) = "grid") = false := by decide
theorem Tv : decide (("turn" : Str) = "grid") = false := by decide
theorem R7 {a b : PyData} : tK [a, b] (some 1) none = [b] := rfl
noncomputable def fw (n : Nat) : DSp := fun ds μ Q => ∃ (m : Nat) (p : Pt) (deep : Int), ds = [.v (.int m), .v p.data, .v (.int deep)] ∧ p.good m ∧ p.depth ≤ n ∧ (p.depth : Int) ≤ deep ∧ p.count ≤ 59 ∧ ∀ μ', (∀ b ds, μ b = some ds → μ' b = some ds) → Q (.v (.int p.count)) μ'
theorem BI {n : Nat} {μ : Mu} {Q : DK} {ds : List D} (h : fw n ds μ Q) : ds.length = 3 := by obtain ⟨_, _, _, rfl, _⟩ := h; rfl
theorem Ap {μ : Mu} {Q : DK} {ds : List D} (h : fw 0 ds μ Q) : False := by obtain ⟨_, p, _, _, _, h, _⟩ := h; have := p.xh; omega
noncomputable def fU (n : Nat) : DSp := fun ds μ Q => ∃ (d : Int) (ks : List N3) (p : Pt) (x : N3), ds = [.v (.int d), .v (.tuple (ks.map dN)), .v p.data] ∧ aA d ∧ ShT d ks p x ∧ p.depth ≤ n ∧ Q (.v (dN x)) μ
theorem Ed {n : Nat} {μ : Mu} {Q : DK} {ds : List D} (h : fU n ds μ Q) : ds.length = 3 := by obtain ⟨_, _, _, _, rfl, _⟩ := h; rfl
theorem Cp {μ : Mu} {Q : DK} {ds : List D} (h : fU 0 ds μ Q) : False := by obtain ⟨_, _, p, _, _, _, _, h, _⟩ := h; have := p.xh; omega
noncomputable def C7 : DSp := fun ds μ Q => ∃ (d : Int) (ks : List N3) (s p q r t : N3), ds = [.v (.int d), .v (.tuple (ks.map dN)), .v (dN s), .v (.tuple [dN one, W4 p q r t])] ∧ aA d ∧ da d ks ∧ Ok s ∧ Bd 480 s ∧ OkW 1800 10 p q r t ∧ Q (.v (.bool (Cc d ks s one p q r t))) μ
theorem GW {μ : Mu} {Q : DK} {ds : List D} (h : C7 ds μ Q) : ds.length = 4 := by obtain ⟨_, _, _, _, _, _, _, rfl, _⟩ := h; rfl
noncomputable def pq : DSp := fun ds μ Q => ∃ (d : Int) (ks : List N3) (s p q r t : N3), ds = [.v (.int d), .v (.tuple (ks.map dN)), .v (dN s), .v (.tuple [.str "bar", .tuple [dN one, W4 p q r t]])] ∧ aA d ∧ da d ks ∧ Ok s ∧ Bd 480 s ∧ OkW 1800 10 p q r t ∧ Q (.v (.bool (Cc d ks s one p q r t))) μ
theorem zo {μ : Mu} {Q : DK} {ds : List D} (h : pq ds μ Q) : ds.length = 4 := by obtain ⟨_, _, _, _, _, _, _, rfl, _⟩ := h; rfl
noncomputable def lV : DSp := fun ds μ Q => ∃ (d : Int) (ks : List N3) (s : N3), ds = [.v (.int d), .v (.tuple (ks.map dN)), .v (dN s)] ∧ aA d ∧ da d ks ∧ Ok s ∧ Bd 480 s ∧ sg d s.a s.b = 1 ∧ ∀ μ', (∀ b ds, μ b = some ds → μ' b = some ds) → Q (.v (.bool true)) μ'
theorem DQ {μ : Mu} {Q : DK} {ds : List D} (h : lV ds μ Q) : ds.length = 3 := by obtain ⟨_, _, _, rfl, _⟩ := h; rfl
theorem Po : SeqAt.shaped (.str "bar") = true := by decide +kernel
local macro_rules | `(tactic| walk_at "rs") => `(tactic| simp only [Sr, RY, TK, Sw, RK, TV, Tu, Uu, Tp, QV, TB, Te, RR, Tx, Tv, R7, decide_true, decide_false, Bool.xor_true, Bool.true_xor, ↓Mo, Uk, TU, Ul, T8, ↓Sx, ↓Od, eE, TH, TN, TM, Uc, Ts, TL, Tz, Uw, TZ, TC, ↓Ib, ↓IY, ↓Ij, ↓IE, ↓IZ, ↓HR, ↓Hj, ↓Hz, ↓IM, ↓Iu, ↓DP, ↓q_c, ↓P7, ↓q_B, ↓QS, ↓M7, ↓NK, ↓Hy, ↓Lp, ↓Hs, ↓Jf, ↓Lv, ↓GY, ↓RF, ↓NG, ↓Hr, ↓MO, ↓LO, ↓Il, ↓MR, ↓LM, ↓Nu, ↓Lw, ↓MT, ↓Mi, ↓M5, ↓HY, ↓Ja, ↓Hu, ↓CT, ↓Eb, ↓EY, ↓GR, ↓Ck, ↓zg, ↓LU, ↓Nv, ↓Ly, ↓HS, ↓Io, ↓H0, ↓Hn, ↓I0, ↓P2, ↓zE, ↓Hb, ↓MX, ↓Nh, ↓LK, ↓PR, ↓HX, ↓HI, ↓Hx, ↓IA, ↓Mp, ↓QW, ↓Je, ↓IJ, ↓Cv, ↓EW, ↓NI, ↓NP, ↓Lm, ↓MM, ↓Ek, ↓GU, ↓DH, ↓Ig, ↓IV, ↓Nx, ↓M3, ↓Ie, ↓Jj, ↓Lk, ↓Jb, ↓MD, ↓DC, ↓GZ, ↓Lx, ↓LA, ↓Ha, ↓EV, ↓HW, ↓zx, ↓Dz, ↓zO, ↓zX, ↓D7, ↓zV, ↓AB, ↓AE, ↓Nn, Kx, ↓HU, ↓D9, GX, IT, MY, Mf, LG, Option.bind_none, Option.bind_some, Option.join_some, List.getElem?_cons_zero, List.getElem?_cons_succ, aX, Pl, MF, Nk, Mh, NB, wu, ye, B7, Gw, J1, List.map, List.append, List.replicate, List.length_cons, List.length_nil, Nat.reduceAdd, Nat.reduceSub, List.nil_append, List.cons_append, List.set_cons_zero, List.set_cons_succ, Option.map_some, ↓reduceIte, Bool.not_true, Bool.not_false, Bool.false_eq_true, Bool.true_eq_false, Bool.xor_false, Bool.false_xor])
noncomputable def fO : DTS :=
  (aO (bJ (af 1) (sE 4 (dF (ay 3) (dF (ay 4) (dF (ay 5) (dF (ay 6) ug))))))
  (aO (AZ 7 8 (ab (au bF (ab (af 0) (ab (af 3) (ab (af 2) ar)))) (ab (au bF (ab (af 0) (ab (af 6) (ab (au eA (ab (af 2) ar)) ar)))) ar)))
  (aO (bJ (au fB (ab (au bF (ab (af 0) (ab (af 4) (ab (au eA (ab (af 2) ar)) ar)))) (ab (au bF (ab (af 0) (ab (af 5) (ab (af 2) ar)))) ar))) (ay 9))
  (aO (cV (jX (dB (dOp rLt (au fg (ab (af 0) (ab (af 7) ar))) (dC (.int 0)))) (dB (dOp rLt (au fg (ab (af 0) (ab (af 8) ar))) (dC (.int 0))))) (bI (dC (.bool false))) bU)
  (aO (bJ (au bF (ab (af 0) (ab (eC (ab (dC (.int 4)) (ab (dC (.int 0)) (ab (dC (.int 1)) ar)))) (ab (au bF (ab (af 0) (ab (af 7) (ab (af 8) ar)))) ar)))) (ay 10))
  (bI (Ce (au tH (ab (af 0) (ab (af 10) (ab (au bF (ab (af 0) (ab (af 9) (ab (af 9) ar)))) ar)))))))))))
noncomputable def nt : DTS :=
  (aO (bJ (af 1) (sE 4 (dF (ay 4) (dF (ay 5) (dF (ay 6) (dF (ay 7) ug))))))
  (aO (bJ (au fB (ab (au bF (ab (af 0) (ab (af 4) (ab (af 3) ar)))) (ab (au bF (ab (af 0) (ab (af 5) (ab (au eA (ab (af 3) ar)) ar)))) ar))) (ay 8))
  (aO (bJ (au fB (ab (au bF (ab (af 0) (ab (af 6) (ab (af 3) ar)))) (ab (au bF (ab (af 0) (ab (af 7) (ab (au eA (ab (af 3) ar)) ar)))) ar))) (ay 9))
  (bI (au fB (ab (au bF (ab (af 0) (ab (af 2) (ab (af 8) ar)))) (ab (au bF (ab (af 0) (ab (au eA (ab (af 2) ar)) (ab (af 9) ar)))) ar)))))))
noncomputable def kJ (n : Nat) : DTS :=
  (aO (cV (jX (eZ (dB (vw "tuple" (af 1)))) (jX (dB (dOp rLt (dCB fE (ab (af 1) ar)) (dC (.int 2)))) (jX (eZ (dB (vw "str" (dOp aF (af 1) (dC (.int 0)))))) (dB (dOp (dD false) (af 2) (dC (.int 0))))))) (bI (dC (.int 0))) bU)
  (aO (cV (dB (dOp (dD false) (dOp aF (af 1) (dC (.int 0))) (dC (.str "kind")))) (bI (dCB rH (ab (ui (dOp (dD false) (dCB fE (ab (af 1) ar)) (dC (.int 2))) (ui (au iw (ab (dOp aF (af 1) (dC (.int 1))) ar)) (zH rLe rLt (dC (.int 0)) (dOp aF (af 1) (dC (.int 1))) (af 0)))) ar))) bU)
  (aO (cV (dB (dOp (dD false) (dOp aF (af 1) (dC (.int 0))) (dC (.str "grid")))) (aO (cV (jX (dB (dOp (dD true) (dCB fE (ab (af 1) ar)) (dC (.int 4)))) (jX (eZ (dB (au iw (ab (dOp aF (af 1) (dC (.int 1))) ar)))) (eZ (dB (au iw (ab (dOp aF (af 1) (dC (.int 2))) ar)))))) (bI (dC (.int 0))) bU)
  (aO (bJ (au (fw n) (ab (af 0) (ab (dOp aF (af 1) (dC (.int 3))) (ab (qV (af 2) (dC (.int 1))) ar)))) (ay 3))
  (bI (dIf (rj (dB (dOp rGt (af 3) (dC (.int 0)))) (rj (dB (dOp rGt (dOp aF (af 1) (dC (.int 1))) (dC (.int 0)))) (rj (dB (dOp rGt (dOp aF (af 1) (dC (.int 2))) (dC (.int 0)))) (dB (dOp rLt (af 3) (dC (.int 60))))))) (mD (af 3) (dC (.int 1))) (dC (.int 0)))))) bU)
  (aO (bJ (dIf (dB (dOp (dD false) (dOp aF (af 1) (dC (.int 0))) (dC (.str "turn")))) (dSl (af 1) (FD (dC (.int 1))) vR) (dOp aF (af 1) (dC (.int 1)))) (ay 4))
  (aO (cV (jX (dB (dOp (Gi true) (dOp aF (af 1) (dC (.int 0))) (qS (ab (dC (.str "turn")) (ab (dC (.str "upon")) (ab (dC (.str "beside")) ar)))))) (jX (dB (dOp (dD true) (dCB fE (ab (af 1) ar)) (dC (.int 2)))) (eZ (dB (vw "tuple" (af 4)))))) (bI (dC (.int 0))) bU)
  (aO (cV (rj (dB (dOp (dD true) (dOp aF (af 1) (dC (.int 0))) (dC (.str "turn")))) (eZ (dB (zH rLe rLe (dC (.int 2)) (dCB fE (ab (af 4) ar)) (dC (.int 8)))))) (bI (dC (.int 0))) bU)
  (aO (bJ (rN [none, some 0, some 2] (oj (af 4)) (ay 0) qM (au (fw n) (ab (af 1) (ab (af 0) (ab (qV (af 2) (dC (.int 1))) ar))))) (ay 5))
  (bI (dIf (rj (dB (dOp (Gi true) (dC (.int 0)) (af 5))) (dB (dOp rLt (dCB B9 (ab (af 5) ar)) (dC (.int 60))))) (mD (dCB B9 (ab (af 5) ar)) (dC (.int 1))) (dC (.int 0)))))))))))
section
variable {μ : Mu} {Qd : DK} {ds : List D}
theorem qi (h : yX ds μ Qd) : fO { nx := fun _ μ' => Qd (.v .none) μ', rt := Qd } (aX ["_law_d", "_law_weights", "_law_kind", "_law_p", "_law_q", "_law_s", "_law_t", "_law_first", "_law_last", "_law_middle", "_law_four"] ds) μ := by
  obtain ⟨d, p, q', s, t, k, n, n', m, rfl, hd, o4, ok, bk, l1, l2, q⟩ := h
  obtain ⟨op, oq, os, ot, bp, bq, bs, bt⟩ := o4
  have s5 := jt hd.1 hd.2.1
  have omk := aD ok
  have bmk := dM bk
  have o1 := ai (d := d) op ok
  have o2 := ai (d := d) ot omk
  have b1 := aT s5 op ok bp bk
  have b2' := aT s5 ot omk bt bmk
  have oq' := ai (d := d) oq omk
  have os' := ai (d := d) os ok
  have bq' := aT s5 oq omk bq bmk
  have bs' := aT s5 os ok bs bk
  have om := bM oq' os'
  have bm := fj oq' os' bq' bs'
  have o12 := ai (d := d) o1 o2
  have b12 := aT s5 o1 o2 b1 b2'
  have o4' : Ok ⟨4, 0, 1⟩ := yR 4
  have b4' : Bd 4 ⟨4, 0, 1⟩ := ⟨Sz.of (by decide), Sz.of (by decide), Sz.of (by decide)⟩
  unfold gF at q
  unfold fO
  simp only [W4]
  walk_at "rn"
  refine ⟨trivial, d, p, k, rfl, s5, op, ok, bp.mono (by omega), bk.mono (by omega), k, rfl, d, t, bH k, rfl, s5, ot, omk, bt.mono (by omega), bmk.mono (by omega), ?_⟩
  walk_at "rn"
  refine ⟨k, rfl, d, q', bH k, rfl, s5, oq, omk, bq.mono (by omega), bmk.mono (by omega), d, s, k, rfl, s5, os, ok, bs.mono (by omega), bk.mono (by omega), _, _, rfl, oq', os', bq'.mono (by omega), bs'.mono (by omega), ?_⟩
  walk_at "rn"
  refine ⟨d, _, rfl, hd, b1.mono (by omega), ?_⟩
  walk_at "rn"
  by_cases c1 : sg d (times d p k).a (times d p k).b < 0
  · rw [if_pos (by simpa using c1)]
    rw [if_pos c1] at q
    exact q
  · rw [if_neg (by simpa using c1)]
    rw [if_neg c1] at q
    refine ⟨d, _, rfl, hd, b2'.mono (by omega), ?_⟩
    walk_at "rn"
    by_cases c2 : sg d (times d t (bH k)).a (times d t (bH k)).b < 0
    · rw [if_pos (by simpa using c2)]
      rw [if_pos c2] at q
      exact q
    · rw [if_neg (by simpa using c2)]
      rw [if_neg c2] at q
      refine ⟨d, _, _, rfl, s5, o1, o2, b1.mono (by omega), b2'.mono (by omega), d, _, _, rfl, s5, o4', o12, b4'.mono (by decide), b12.mono (by omega), ?_⟩
      walk_at "rn"
      refine ⟨d, _, _, rfl, s5, om, om, bm.mono (by omega), bm.mono (by omega), ?_⟩
      walk_at "rn"
      refine ⟨d, _, _, rfl, hd, ai o4' o12, ai om om, (aT s5 o4' o12 b4' b12).mono (by omega), (aT s5 om om bm bm).mono (by omega), ?_⟩
      walk_at "rn"
      exact q
theorem AX (h : tw ds μ Qd) : nt { nx := fun _ μ' => Qd (.v .none) μ', rt := Qd } (aX ["_law_d", "_law_weights", "_law_width", "_law_height", "_law_p", "_law_q", "_law_s", "_law_t", "_law_first", "_law_second"] ds) μ := by
  obtain ⟨d, p, q', s, t, w, h, n, n', m, l, rfl, hd, o4, ow, bw, oh, bh, lt, q⟩ := h
  obtain ⟨op, oq, os, ot, bp, bq, bs, bt⟩ := o4
  have s5 := jt hd.1 hd.2.1
  have omh := aD oh
  have bmh := dM bh
  have tp := aT s5 op oh bp bh
  have tq := aT s5 oq omh bq bmh
  have ts := aT s5 os oh bs bh
  have tt := aT s5 ot omh bt bmh
  have o1 := ai (d := d) op oh
  have o2 := ai (d := d) oq omh
  have o3 := ai (d := d) os oh
  have o4 := ai (d := d) ot omh
  have b12 := fj o1 o2 tp tq
  have b34 := fj o3 o4 ts tt
  have o12 := bM o1 o2
  have o34 := bM o3 o4
  have ow1 := ai (d := d) ow o12
  have ow2 := ai (d := d) (aD ow) o34
  have bw1 := aT s5 ow o12 bw b12
  have bw2 := aT s5 (aD ow) o34 (dM bw) b34
  unfold nt
  simp only [W4]
  walk_at "rn"
  refine ⟨trivial, d, p, h, rfl, s5, op, oh, bp.mono (by omega), bh.mono (by omega), ?_⟩
  walk_at "rn"
  refine ⟨h, rfl, d, q', bH h, rfl, s5, oq, omh, bq.mono (by omega), bmh.mono (by omega), _, _, rfl, o1, o2, tp.mono (by omega), tq.mono (by omega), ?_⟩
  walk_at "rn"
  refine ⟨d, s, h, rfl, s5, os, oh, bs.mono (by omega), bh.mono (by omega), ?_⟩
  walk_at "rn"
  refine ⟨h, rfl, d, t, bH h, rfl, s5, ot, omh, bt.mono (by omega), bmh.mono (by omega), _, _, rfl, o3, o4, ts.mono (by omega), tt.mono (by omega), ?_⟩
  walk_at "rn"
  refine ⟨d, w, _, rfl, s5, ow, o12, bw.mono (by omega), b12.mono (by omega), ?_⟩
  walk_at "rn"
  exact ⟨w, rfl, d, bH w, _, rfl, s5, aD ow, o34, (dM bw).mono (by omega), b34.mono (by omega), _, _, rfl, ow1, ow2, bw1.mono (by omega), bw2.mono (by omega), q⟩
theorem Ry {i : Int} (h : i ≠ 0) : PyData.eqv (.int i) (.int 0) = false := by simp [PyData.eqv, h]
theorem yt (n : Nat) (h : fw (n + 1) ds μ Qd) : kJ n { nx := fun _ μ' => Qd (.v .none) μ', rt := Qd } (aX ["_law_many", "_law_thing", "_law_deep", "_law_inner", "_law_parts", "_law_counts"] ds) μ := by
  obtain ⟨M, p, deep, rfl, hg, hdp, hde, hc, q⟩ := h
  obtain ⟨m, rfl⟩ : ∃ m : Nat, deep = ((m + 1 : Nat) : Int) := ⟨(deep - 1).toNat, by have := p.xh; omega⟩
  unfold kJ
  cases p with
  | kind i =>
    simp only [Pt.data]
    walk_at "rs"
    refine ⟨_, rfl, ?_⟩
    walk_at "rs"
    have hi : i < M := hg
    have q' := q μ fun _ _ e => e
    rw [decide_eq_true (by omega : (i : Int) < (M : Int))]
    exact q'
  | turn p =>
    have hd' : p.depth + 1 ≤ n + 1 := hdp
    have he' : ((p.depth + 1 : Nat) : Int) ≤ ((m + 1 : Nat) : Int) := hde
    have hc' : p.count + 1 ≤ 59 := hc
    simp only [Pt.data]
    walk_at "rs"
    have hp := p.o8
    have hz : PyData.eqv (.int (p.count : Int)) (.int 0) = false := Ry (by omega)
    refine ⟨by decide +kernel, by decide +kernel, by decide +kernel, by decide, fun a ha => ⟨fun i acc μ' => acc = ([PyData.int p.count].take i) ∧ ∀ b ds, b ≠ a → μ b = some ds → μ' b = some ds, ⟨rfl, fun b ds hb e => by rw [bV hb]; exact e⟩, ?_, ?_⟩⟩
    · rintro i x acc μ' hx hacc ⟨rfl, hk⟩
      rcases i with _ | i
      · simp only [List.getElem?_cons_zero, Option.some.injEq] at hx
        subst hx
        exact ⟨⟨trivial, trivial, trivial⟩, M, p, _, rfl, hg, by omega, by omega, by omega, fun μ4 h4 => ⟨h4 _ _ hacc, rfl, fun b ds hb e => by rw [bV hb]; exact h4 b ds (hk b ds hb e)⟩⟩
      · exfalso; simp at hx
    · rintro acc μ' ⟨rfl, hk⟩ hacc
      refine ⟨rfl, rfl, by decide, ?_⟩
      have q' := q (il μ' a) fun b ds e => by
        have hb : b ≠ a := fun z => by rw [z, ha] at e; cases e
        rw [zw hb]; exact hk b ds hb e
      simp only [List.take, List.any, hz, Bool.or_false, Bool.not_false, ↓reduceIte, eE, Option.map_some, List.sum_cons, List.sum_nil, Int.add_zero]
      rw [decide_eq_true (by omega : (p.count : Int) < 60)]
      simp only [↓reduceIte]
      exact q'
  | grid u v p =>
    obtain ⟨⟨u0, v0⟩, hg'⟩ := hg
    have hd' : p.depth + 1 ≤ n + 1 := hdp
    have he' : ((p.depth + 1 : Nat) : Int) ≤ ((m + 1 : Nat) : Int) := hde
    have hc' : p.count + 1 ≤ 59 := hc
    have hp := p.o8
    simp only [Pt.data]
    walk_at "rs"
    refine ⟨_, rfl, ?_⟩
    walk_at "rs"
    refine ⟨_, rfl, ?_⟩
    walk_at "rs"
    refine ⟨M, p, _, rfl, hg', by omega, by omega, by omega, fun μ' hs => ?_⟩
    walk_at "rs"
    rw [decide_eq_true (by omega : (0 : Int) < (p.count : Int)), decide_eq_true u0, decide_eq_true v0, decide_eq_true (by omega : (p.count : Int) < 60)]
    simp only [↓reduceIte]
    exact q μ' hs
  | upon p r =>
    obtain ⟨g1, g2⟩ := hg
    have hd' : max p.depth r.depth + 1 ≤ n + 1 := hdp
    have he' : ((max p.depth r.depth + 1 : Nat) : Int) ≤ ((m + 1 : Nat) : Int) := hde
    have hc' : p.count + r.count + 1 ≤ 59 := hc
    simp only [Pt.data]
    walk_at "rs"
    have hp := p.o8
    have hr := r.o8
    have hz : PyData.eqv (.int (p.count : Int)) (.int 0) = false := Ry (by omega)
    have hz2 : PyData.eqv (.int (r.count : Int)) (.int 0) = false := Ry (by omega)
    refine ⟨by decide +kernel, by decide +kernel, by decide +kernel, by decide, fun a ha => ⟨fun i acc μ' => acc = ([PyData.int p.count, PyData.int r.count].take i) ∧ ∀ b ds, b ≠ a → μ b = some ds → μ' b = some ds, ⟨rfl, fun b ds hb e => by rw [bV hb]; exact e⟩, ?_, ?_⟩⟩
    · rintro i x acc μ' hx hacc ⟨rfl, hk⟩
      rcases i with _ | _ | i
      · simp only [List.getElem?_cons_zero, Option.some.injEq] at hx
        subst hx
        exact ⟨⟨trivial, trivial, trivial⟩, M, p, _, rfl, g1, by omega, by omega, by omega, fun μ4 h4 => ⟨h4 _ _ hacc, rfl, fun b ds hb e => by rw [bV hb]; exact h4 b ds (hk b ds hb e)⟩⟩
      · simp only [List.getElem?_cons_zero, List.getElem?_cons_succ, Option.some.injEq] at hx
        subst hx
        exact ⟨⟨trivial, trivial, trivial⟩, M, r, _, rfl, g2, by omega, by omega, by omega, fun μ4 h4 => ⟨h4 _ _ hacc, rfl, fun b ds hb e => by rw [bV hb]; exact h4 b ds (hk b ds hb e)⟩⟩
      · exfalso; simp at hx
    · rintro acc μ' ⟨rfl, hk⟩ hacc
      refine ⟨rfl, rfl, by decide, ?_⟩
      have q' := q (il μ' a) fun b ds e => by
        have hb : b ≠ a := fun z => by rw [z, ha] at e; cases e
        rw [zw hb]; exact hk b ds hb e
      simp only [List.take, List.any, hz, hz2, Bool.or_false, Bool.not_false, ↓reduceIte, eE, Option.map_some, List.sum_cons, List.sum_nil, Int.add_zero]
      rw [decide_eq_true (by omega : (p.count : Int) + (r.count : Int) < 60)]
      simp only [↓reduceIte]
      exact q'
end
open PySem PySem.Spec PyProof.Rows NM
noncomputable def iQ (n : Nat) : DTS :=
  (aO (cV (dB (dOp (dD false) (dOp aF (af 2) (dC (.int 0))) (dC (.str "kind")))) (bI (dOp aF (af 1) (dOp aF (af 2) (dC (.int 1))))) bU)
  (aO (cV (dB (dOp (dD false) (dOp aF (af 2) (dC (.int 0))) (dC (.str "turn")))) (bI (au bZ (ab (af 0) (ab (au (fU n) (ab (af 0) (ab (af 1) (ab (dOp aF (af 2) (dC (.int 1))) ar)))) ar)))) bU)
  (aO (cV (dB (dOp (dD false) (dOp aF (af 2) (dC (.int 0))) (dC (.str "grid")))) (bI (au bF (ab (af 0) (ab (au cY (ab (dOp aF (af 2) (dC (.int 2))) (ab (dC (.int 0)) (ab (dOp aF (af 2) (dC (.int 1))) ar)))) (ab (au (fU n) (ab (af 0) (ab (af 1) (ab (dOp aF (af 2) (dC (.int 3))) ar)))) ar))))) bU)
  (aO (bJ (eC (ab (dC (.int 0)) (ab (dC (.int 0)) (ab (dC (.int 1)) ar)))) (ay 3))
  (aO (vG (oj (dOp aF (af 2) (dC (.int 1)))) (ay 4) (aO (bJ (au (fU n) (ab (af 0) (ab (af 1) (ab (af 4) ar)))) (ay 5))
  (bJ (au fB (ab (af 3) (ab (dIf (dB (dOp (dD false) (dOp aF (af 2) (dC (.int 0))) (dC (.str "upon")))) (af 5) (au bZ (ab (af 0) (ab (af 5) ar)))) ar))) (ay 3))))
  (bI (dIf (dB (dOp (dD false) (dOp aF (af 2) (dC (.int 0))) (dC (.str "upon")))) (af 3) (au bZ (ab (af 0) (ab (af 3) ar))))))))))
noncomputable def me : DTS :=
  (aO (cV (jX (eZ (dB (vw "tuple" (af 3)))) (jX (dB (dOp (dD true) (dCB fE (ab (af 3) ar)) (dC (.int 2)))) (eZ (dB (au rD (ab (dOp aF (af 3) (dC (.int 0))) ar)))))) (bI (dC (.bool false))) bU)
  (aO (cV (jX (dB (dOp rLe (au fg (ab (af 0) (ab (dOp aF (af 3) (dC (.int 0))) ar))) (dC (.int 0)))) (jX (eZ (dB (vw "tuple" (dOp aF (af 3) (dC (.int 1)))))) (dB (dOp (dD true) (dCB fE (ab (dOp aF (af 3) (dC (.int 1))) ar)) (dC (.int 4)))))) (bI (dC (.bool false))) bU)
  (aO (cV (eZ (dB (dCB xW (ab (vJ [none] (oj (dOp aF (af 3) (dC (.int 1)))) (ay 0) qM (au rD (ab (af 0) ar))) ar)))) (bI (dC (.bool false))) bU)
  (aO (vG (oj (af 1)) (ay 4) (vG (xn (qS (ab (af 4) (ab (au bZ (ab (af 0) (ab (af 4) ar))) ar)))) (ay 5) (cV (eZ (dB (au yX (ab (af 0) (ab (dOp aF (af 3) (dC (.int 1))) (ab (af 5) ar)))))) (bI (dC (.bool false))) bU)))
  (bI (dOp rLt (au fg (ab (af 0) (ab (au tw (ab (af 0) (ab (dOp aF (af 3) (dC (.int 1))) (ab (dOp aF (af 3) (dC (.int 0))) (ab (au bF (ab (af 0) (ab (af 2) (ab (dOp aF (af 3) (dC (.int 0))) ar)))) ar))))) ar))) (dC (.int 0))))))))
noncomputable def ij : DTS :=
  (aO (cV (jX (eZ (dB (vw "tuple" (af 3)))) (jX (dB (dOp (dD true) (dCB fE (ab (af 3) ar)) (dC (.int 2)))) (dB (dOp (dD true) (dOp aF (af 3) (dC (.int 0))) (dC (.str "bar")))))) (bI (dC (.bool false))) bU)
  (bI (au C7 (ab (af 0) (ab (af 1) (ab (af 2) (ab (dOp aF (af 3) (dC (.int 1))) ar)))))))
noncomputable def kL : DTS :=
  (aO (bJ (au E3 (ab (af 0) (ab (af 1) (ab (af 2) ar)))) (ay 3))
  (aO (cV (eZ (dB (au sV (ab (af 0) (ab (af 1) (ab (af 2) ar)))))) (bI (au pq (ab (af 0) (ab (af 1) (ab (af 2) (ab (af 3) ar)))))) bU)
  (aO (cV (jX (eZ (dB (vw "tuple" (af 3)))) (jX (dB (dOp (dD true) (dCB fE (ab (af 3) ar)) (dC (.int 2)))) (dB (dOp (dD true) (dOp aF (af 3) (dC (.int 0))) (dC (.str "plan")))))) (bI (dC (.bool false))) bU)
  (bI (ui (dOp rGt (au (fw 5) (ab (dCB fE (ab (af 1) ar)) (ab (dOp aF (af 3) (dC (.int 1))) (ab (dC (.int 12)) ar)))) (dC (.int 0))) (dOp (dD false) (au (fU 5) (ab (af 0) (ab (af 1) (ab (dOp aF (af 3) (dC (.int 1))) ar)))) (af 2)))))))
section
variable {μ : Mu} {Qd : DK} {ds : List D}
theorem MS {ks : List N3} {i : Nat} (h : i < ks.length) : atI (ks.map dN) (i : Int) = some (dN (ks.getD i aw)) := k8 (ey h).1
theorem LJ : Bd 1 aw := ⟨Sz.of (by decide), Sz.of (by decide), Sz.of (by decide)⟩
theorem uj (n : Nat) (h : fU (n + 1) ds μ Qd) : iQ n { nx := fun _ μ' => Qd (.v .none) μ', rt := Qd } (aX ["_law_d", "_law_kinds_here", "_law_plan", "_law_found", "_law_part", "_law_shape_here"] ds) μ := by
  obtain ⟨d, ks, p, x, rfl, hd, hs, hdp, q⟩ := h
  have s5 := jt hd.1 hd.2.1
  unfold iQ
  cases hs with
  | @kind i hi =>
    simp only [Pt.data]
    walk_at "rs"
    rw [MS hi]
    exact q
  | @turn p x h1 h2 h3 =>
    have hd' : p.depth + 1 ≤ n + 1 := hdp
    simp only [Pt.data]
    walk_at "rs"
    exact ⟨d, ks, p, x, rfl, hd, h1, by omega, d, _, rfl, s5, h2, h3, q⟩
  | @grid u v p x h1 h2 h3 h4 h5 h6 =>
    have hd' : p.depth + 1 ≤ n + 1 := hdp
    simp only [Pt.data]
    walk_at "rs"
    refine ⟨v, 0, u, rfl, h1, h2.mono (by decide), ?_⟩
    walk_at "rs"
    exact ⟨d, ks, p, x, rfl, hd, h3, by omega, d, _, _, rfl, s5, iP _ _ h1, h4, h6, h5, q⟩
  | @upon p r x y h1 h2 o1 o2 b1 b2 =>
    have hd' : max p.depth r.depth + 1 ≤ n + 1 := hdp
    simp only [Pt.data]
    walk_at "rs"
    rw [rP]
    walk_at "rs"
    refine ⟨fun j ρ μ' => ∃ r4 r5, ρ = [some (.v (.int d)), some (.v (.tuple (ks.map dN))), some (.v (.tuple [.str "upon", .tuple [p.data, r.data]])), some (.v (dN (if j = 0 then aw else if j = 1 then x else plus x y))), r4, r5] ∧ μ' = μ, ⟨_, _, rfl, rfl⟩, ?_, ?_⟩
    · rintro j z ρ μ' hz ⟨r4, r5, rfl, rfl⟩
      rcases j with _ | _ | j
      · simp only [List.getElem?_cons_zero, Option.some.injEq] at hz
        subst hz
        walk_at "rs"
        refine ⟨d, ks, p, x, rfl, hd, h1, by omega, ?_⟩
        walk_at "rs"
        refine ⟨_, _, rfl, g0, o1, LJ.mono (by decide), b1, some (.v p.data), some (.v (dN x)), ?_, rfl⟩
        rw [IL o1]; rfl
      · simp only [List.getElem?_cons_zero, List.getElem?_cons_succ, Option.some.injEq] at hz
        subst hz
        walk_at "rs"
        refine ⟨d, ks, r, y, rfl, hd, h2, by omega, ?_⟩
        walk_at "rs"
        exact ⟨_, _, rfl, o1, o2, b1, b2, _, _, rfl, rfl⟩
      · exfalso; simp at hz
    · rintro ρ μ' ⟨r4, r5, rfl, rfl⟩
      walk_at "rs"
      exact q
theorem Om {a b c e : N3} (oa : Ok a) (ob : Ok b) (oc : Ok c) (oe : Ok e) : List.filterMap (fun x => some (PyData.bool (isNum x))) [dN a, dN b, dN c, dN e] = [.bool true, .bool true, .bool true, .bool true] := by
  show [PyData.bool (isNum (dN a)), PyData.bool (isNum (dN b)), PyData.bool (isNum (dN c)), PyData.bool (isNum (dN e))] = _
  rw [oO oa, oO ob, oO oc, oO oe]
theorem AF (h : C7 ds μ Qd) : me { nx := fun _ μ' => Qd (.v .none) μ', rt := Qd } (aX ["_law_d", "_law_kinds_here", "_law_shape_here", "_law_thing", "_law_kind", "_law_way"] ds) μ := by
  obtain ⟨d, ks, shape, p, q1, s, u, rfl, hd, ho, osh, bsh, o4, q⟩ := h
  have s5 := jt hd.1 hd.2.1
  have b1 : Bd 1 one := ⟨Sz.of (by decide), Sz.of (by decide), Sz.of (by decide)⟩
  have ob := o4
  obtain ⟨op, oq, os, ot, _, _, _, _⟩ := ob
  unfold me
  walk_at "rn"
  have e : isT "tuple" (.tuple [dN one, W4 p q1 s u]) = true := rfl
  rw [e]
  walk_at "rn"
  refine ⟨_, rfl, Kd, ?_⟩
  rw [oO kA]
  walk_at "rn"
  refine ⟨d, one, rfl, hd, b1.mono (by decide), ?_⟩
  rw [y6]
  walk_at "rn"
  have e2 : isT "tuple" (W4 p q1 s u) = true := rfl
  rw [e2]
  simp only [W4]
  walk_at "rn"
  refine ⟨by simp, fun x => some (.bool (isNum x)), fun x hx μ' hs => ⟨trivial, x, rfl, ?_, rfl, rfl⟩, ?_⟩
  · simp only [List.mem_cons, List.not_mem_nil, or_false] at hx
    rcases hx with rfl | rfl | rfl | rfl <;> exact Kd
  rw [Om op oq os ot]
  show (if (!true) = true then _ else _)
  simp only [Bool.not_true, Bool.false_eq_true, ↓reduceIte]
  unfold Cc at q
  rw [rP]
  walk_at "rn"
  refine ⟨fun i ρ μ' => ∃ r4 r5, ρ = [some (.v (.int d)), some (.v (.tuple (ks.map dN))), some (.v (dN shape)), some (.v (.tuple [dN one, .tuple [dN p, dN q1, dN s, dN u]])), r4, r5] ∧ μ' = μ ∧ ∀ k ∈ ks.take i, (gF d p q1 s u k && gF d p q1 s u (ao d k)) = true, ⟨_, _, rfl, rfl, fun k h => by simp at h⟩, ?_, ?_⟩
  · rintro i y ρ μ' hy ⟨r4, r5, rfl, rfl, hi⟩
    obtain ⟨k, hki, rfl⟩ := LP hy
    have hm := List.mem_of_getElem? hki
    obtain ⟨ok, bk, sk⟩ := ho.ok k hm
    have nk := aK hd ok sk
    have oc := aB nk
    have bc := bT s5 nk bk
    walk_at "rn"
    rw [rP]
    walk_at "rn"
    refine ⟨d, k, rfl, s5, nk, bk.mono (by decide), ?_⟩
    walk_at "rn"
    refine ⟨fun j ρ μ'' => ∃ r5, ρ = [some (.v (.int d)), some (.v (.tuple (ks.map dN))), some (.v (dN shape)), some (.v (.tuple [dN one, .tuple [dN p, dN q1, dN s, dN u]])), some (.v (dN k)), r5] ∧ μ'' = μ' ∧ (1 ≤ j → gF d p q1 s u k = true) ∧ (2 ≤ j → gF d p q1 s u (ao d k) = true), ⟨_, rfl, rfl, fun h => absurd h (by decide), fun h => absurd h (by decide)⟩, ?_, ?_⟩
    · rintro j y ρ μ2 hy ⟨r5, rfl, rfl, g1, g2⟩
      rcases j with _ | _ | j
      · obtain rfl := (Option.some.inj hy).symm
        walk_at "rn"
        refine ⟨d, p, q1, s, u, k, 1800, 10, 140, rfl, hd, o4, ok, bk, by decide, by decide, ?_⟩
        cases n1 : gF d p q1 s u k with
        | false =>
          walk_at "rn"
          rw [Au hm (by rw [n1]; rfl), Bool.false_and] at q
          exact q
        | true =>
          walk_at "rn"
          exact ⟨_, rfl, trivial, fun _ => trivial, fun h => absurd h (by decide)⟩
      · obtain rfl := (Option.some.inj hy).symm
        walk_at "rn"
        refine ⟨d, p, q1, s, u, _, 1800, 10, 2 * 140 + 6, rfl, hd, o4, oc, bc, by decide, by decide, ?_⟩
        cases n2 : gF d p q1 s u (ao d k) with
        | false =>
          walk_at "rn"
          rw [Au hm (by rw [n2, Bool.and_false]), Bool.false_and] at q
          exact q
        | true =>
          walk_at "rn"
          exact ⟨_, rfl, trivial, fun _ => g1 (by omega), fun _ => trivial⟩
      · simp at hy
    · rintro ρ μ2 ⟨r5, rfl, rfl, g1, g2⟩
      exact ⟨_, _, rfl, rfl, IX hki hi (by rw [g1 (by decide), g2 (by decide)]; rfl)⟩
  · rintro ρ μ' ⟨r4, r5, rfl, rfl, hi⟩
    rw [List.length_map, List.take_length] at hi
    have ha : ks.all (fun k => gF d p q1 s u k && gF d p q1 s u (ao d k)) = true := by rw [List.all_eq_true]; exact hi
    rw [ha, Bool.true_and] at q
    have ot := ai (d := d) osh kA
    have bt := aT s5 osh kA bsh b1
    walk_at "rn"
    refine ⟨d, shape, one, rfl, s5, osh, kA, bsh.mono (by decide), b1.mono (by decide), d, p, q1, s, u, one, _, 1800, 10, 1, 480 + 1 + 6, rfl, hd, o4, kA, b1, ot, bt, by decide, d, _, rfl, hd, (MZ hd o4 kA b1 ot bt).mono (by decide), ?_⟩
    walk_at "rn"
    exact q
theorem tT (h : pq ds μ Qd) : ij { nx := fun _ μ' => Qd (.v .none) μ', rt := Qd } (aX ["_law_d", "_law_kinds_here", "_law_shape_here", "_law_told"] ds) μ := by
  obtain ⟨d, ks, shape, p, q1, s, u, rfl, hd, ho, os, bs, o4, q⟩ := h
  unfold ij
  walk_at "rn"
  have e : isT "tuple" (.tuple [.str "bar", .tuple [dN one, W4 p q1 s u]]) = true := rfl
  rw [e]
  walk_at "rn"
  rw [Mo Po Po]
  show (if (true ^^ decide (Str.ofString "bar" = Str.ofString "bar")) = true then _ else _)
  rw [if_neg (by simp)]
  exact ⟨d, ks, shape, p, q1, s, u, rfl, hd, ho, os, bs, o4, q⟩
theorem yB (h : lV ds μ Qd) : kL { nx := fun _ μ' => Qd (.v .none) μ', rt := Qd } (aX ["_law_d", "_law_kinds_here", "_law_shape_here", "_law_told"] ds) μ := by
  obtain ⟨d, ks, s, rfl, hd, ho, os, bs, hs, q⟩ := h
  unfold kL
  walk_at "rn"
  refine ⟨d, ks, s, rfl, hd, ho, os, SB.of hd os hs (bs.mono (by decide)), hs, ?_⟩
  walk_at "rn"
  refine ⟨d, ks, s, rfl, hd, ho, os, bs, hs, ?_⟩
  cases hl : kU d ks s with
  | false =>
    have hm : dE d ks = false := by
      cases e : dE d ks with
      | false => rfl
      | true => unfold kU at hl; rw [e] at hl; cases hl
    have hx : fT d (kx d ks) s = false := by unfold kU at hl; rw [hm] at hl; exact hl
    obtain ⟨ok, bk, sk⟩ := ho.ok _ (tD hd ho)
    obtain ⟨p, q1, r, t, eb, o4, hb⟩ := Lz hd ok bk sk os (bs.mono (by decide)) hs hx
    have em : B3 d ks s = .tuple [.str "bar", .tuple [dN one, W4 p q1 r t]] := by unfold B3; rw [hm, hx, eb]; rfl
    rw [em]
    walk_at "rn"
    refine ⟨d, ks, s, p, q1, r, t, rfl, hd, ho, os, bs, o4, ?_⟩
    rw [hb ks (fun x hx' => ⟨(ho.ok x hx').1, (ho.ok x hx').2.2, Gh hd ho hm hx'⟩)]
    exact q μ fun _ _ e => e
  | true =>
    obtain ⟨p, ew, P⟩ := Oq hd ho os bs hs hl
    rw [ew]
    have e0 : isT "tuple" (.tuple [.str "plan", p.data]) = true := rfl
    walk_at "rn"
    rw [e0]
    walk_at "rn"
    rw [Mo LR LR]
    show (if (true ^^ decide (Str.ofString "plan" = Str.ofString "plan")) = true then _ else _)
    rw [if_neg (by simp)]
    have h5 := P.depth
    have h8 := P.count
    have hp := p.o8
    refine ⟨ks.length, p, 12, by rw [List.length_map], P.good, h5, by omega, by omega, fun μ' h' => ?_⟩
    walk_at "rn"
    rw [decide_eq_true (by omega : (0 : Int) < (p.count : Int))]
    simp only [↓reduceIte]
    refine ⟨d, ks, p, s, rfl, hd, P.sh, h5, ?_⟩
    dsimp only
    rw [NB]
    simpa using q μ' h'
end
open PySem PySem.Spec PyProof.Rows NM
noncomputable def Iq : DTS :=
  (aO (vG (uq (ab (dCB (Jd max) (ab (dC (.int 2)) (ab (dCB (Jd min) (ab (dC (.int 5)) (ab (dCB fE (ab (af 0) ar)) ar))) ar))) ar)) (ay 1) (aO (bJ (au JS (ab (af 0) (ab (af 1) ar))) (ay 2))
  (aO (bJ (au y7 (ab (af 2) ar)) (ay 3))
  (aO (bJ (au vX (ab (af 2) (ab (af 3) ar))) (ay 4))
  (aO (bJ (rN [none, some 2, some 3, some 4] (uq (ab (dC (.int 4)) ar)) (ay 0) qM (au wH (ab (af 1) (ab (af 2) (ab (af 3) ar))))) (ay 5))
  (aO (vG (xn (dOp yi (af 5) (dSl (af 5) vR (FD (dC (.int 2)))))) (ay 6) (cV (jX (eZ (dB (au lV (ab (af 3) (ab (af 4) (ab (af 6) ar)))))) (eZ (dB (au lV (ab (af 3) (ab (QE (af 4)) (ab (af 6) ar))))))) (bI (dC (.bool false))) bU))
  (aO (bJ (au yP (ab (af 2) (ab (af 3) ar))) (ay 7))
  (aO (bJ (eC (ab (au bZ (ab (af 3) (ab (dOp aF (af 4) (dC (.int 0))) ar))) (ab (af 7) ar))) (ay 8))
  (Lu (au vV (ab (af 2) (ab (af 3) (ab (af 7) ar)))) (ay 6) (cV (jX (eZ (dB (au lV (ab (af 3) (ab (eC (ab (af 7) ar)) (ab (af 6) ar)))))) (eZ (dB (au lV (ab (af 3) (ab (af 8) (ab (af 6) ar))))))) (bI (dC (.bool false))) bU))))))))))
  (bI (dC (.bool true))))
section
variable {μ : Mu} {Qd : DK} {ds : List D} {ρ : Rho}
theorem Kc {a : Addr} {μ μ' : Mu} (hb : Bag μ a) (h : ∀ b ds, μ b = some ds → μ' b = some ds) : Bag μ' a := by
  obtain ⟨g, m, e, z⟩ := hb
  exact ⟨g, m, h _ _ e, z⟩
theorem J8 {a p : Addr} {μ : Mu} {xs : List PyData} (h : a ≠ p) (hb : Bag μ a) : Bag (bD μ p xs) a := by
  obtain ⟨g, m, e, z⟩ := hb
  exact ⟨g, m, by rw [bV h]; exact e, z⟩
theorem Ml {d : Int} {w : N3} (ow : Ok w) (bw : Bd 140 w) (gw : sg d w.a w.b = 1) : da d [w] := ⟨by simp, by simp, fun k hk => by rw [List.mem_singleton.mp hk]; exact ⟨ow, bw, gw⟩⟩
theorem MA {d : Int} {w v : N3} (ow : Ok w) (bw : Bd 140 w) (gw : sg d w.a w.b = 1) (ov : Ok v) (bv : Bd 140 v) (gv : sg d v.a v.b = 1) : da d [w, v] := ⟨by simp, by simp, fun k hk => by
  simp only [List.mem_cons, List.not_mem_nil, or_false] at hk
  rcases hk with rfl | rfl
  · exact ⟨ow, bw, gw⟩
  · exact ⟨ov, bv, gv⟩⟩
theorem Iy {d : Int} {ks : List N3} (h : da d ks) : da d ks.reverse := ⟨by rw [List.length_reverse]; exact h.l1, by rw [List.length_reverse]; exact h.l3, fun k hk => h.ok k (List.mem_reverse.mp hk)⟩
noncomputable def Sm (d : Int) (s : N3) : Prop := Ok s ∧ Bd 230 s ∧ sg d s.a s.b = 1
theorem Q5 (h : zp ds μ Qd) : Iq { nx := fun _ μ' => Qd (.v .none) μ', rt := Qd } (aX ["_law_script", "_law_k", "_law_bag_here", "_law_d", "_law_kinds_here", "_law_shapes", "_law_shape_here", "_law_kind", "_law_pair"] ds) μ := by
  obtain ⟨ns, rfl, h63, q⟩ := h
  unfold Iq
  rw [Jj, rP]
  walk_at "rn"
  have hm : (-(2 ^ 62) ≤ max 2 (min 5 ((ns.length : Nat) : Int)) ∧ max 2 (min 5 ((ns.length : Nat) : Int)) < 2 ^ 62) := by omega
  refine ⟨hm, fun i ρ μ' => ∃ r1 r2 r3 r4 r5 r6 r7 r8, ρ = [some (.s ns), r1, r2, r3, r4, r5, r6, r7, r8], ⟨_, _, _, _, _, _, _, _, rfl⟩, ?_, ?_⟩
  · rintro i x ρ μ0 hx ⟨r1, r2, r3, r4, r5, r6, r7, r8, rfl⟩
    obtain ⟨rfl, hi⟩ := GC hx
    walk_at "rn"
    refine ⟨ns, _, rfl, by omega, by omega, fun a μ1 ha s1 => ?_⟩
    walk_at "rn"
    refine ⟨a, rfl, s1.1, fun d μ2 hd s2 => ?_⟩
    walk_at "rn"
    refine ⟨a, d, rfl, hd, s2.1, fun ks μ3 ho s3 => ?_⟩
    have s5 := jt hd.1 hd.2.1
    walk_at "rn"
    refine ⟨⟨by decide, by decide⟩, by rw [wR]; decide, fun pf hpf => ?_⟩
    have hb3 := s3.1
    have haf : a ≠ pf := fun z => by obtain ⟨g, m, e, _⟩ := hb3; rw [z, hpf] at e; cases e
    refine ⟨fun i acc μ' => Bag μ' a ∧ ∃ ss : List N3, acc = ss.map dN ∧ ss.length = i ∧ ∀ s ∈ ss, Sm d s, ⟨J8 haf hb3, [], rfl, rfl, fun k hk => by cases hk⟩, ?_, ?_⟩
    · rintro t y acc μ' hy' hacc ⟨hb, ss, rfl, hl, hok⟩
      refine ⟨⟨trivial, trivial, trivial, trivial⟩, a, d, ks, rfl, hd, ho, hb, fun s μ5 os bs gs s5' => ?_⟩
      refine ⟨by rw [s5'.2 pf (fun z => haf z.symm)]; exact hacc, ?_⟩
      exact ⟨J8 haf s5'.1, ss ++ [s], by simp, by simp [hl], fun k hk' => by
        rcases List.mem_append.mp hk' with z | z
        · exact hok k z
        · rw [List.mem_singleton.mp z]; exact ⟨os, bs, gs⟩⟩
    · rintro acc μ' ⟨hb, ss, rfl, hl, hok⟩ hacc
      rw [wR] at hl
      have hb4 : Bag (il μ' pf) a := by obtain ⟨g, m, e, z⟩ := hb; exact ⟨g, m, by rw [zw haf]; exact e, z⟩
      generalize il μ' pf = μ4 at hb4
      rw [rP]
      walk_at "rn"
      have l4 : ss.length = 4 := hl
      have cutL : ∀ x ∈ tK (ss.map dN) none (some 2), x ∈ ss.map dN := fun x hx => by
        unfold tK at hx
        exact List.mem_of_mem_drop (List.mem_of_mem_take hx)
      have cutN : (tK (ss.map dN) none (some 2)).length ≤ 4 := by
        unfold tK
        rw [List.length_take, List.length_drop, List.length_map]
        omega
      refine ⟨by rw [List.length_map]; omega, fun j ρ μ' => ∃ r6, ρ = [some (D.s ns), some (D.v (PyData.int (0 + (i : Int)))), some (D.m a), some (D.v (PyData.int d)), some (D.v (PyData.tuple (List.map dN ks))), some (D.v (PyData.list (List.map dN ss))), r6, r7, r8] ∧ Bag μ' a, ⟨_, rfl, hb4⟩, ?_, ?_⟩
      · rintro j x ρ' μ5 hx' ⟨r6, rfl, hb5⟩
        have hmem : x ∈ ss.map dN := by
          rcases List.mem_append.mp (List.mem_of_getElem? hx') with z | z
          · exact z
          · exact cutL x z
        obtain ⟨s, hs', rfl⟩ := List.mem_map.mp hmem
        obtain ⟨os, bs, gs⟩ := hok s hs'
        walk_at "rn"
        refine ⟨d, ks, s, rfl, hd, ho.wide, os, bs.mono (by decide), gs, fun μ6 h6 => ?_⟩
        simp only [Bool.not_true, Bool.false_eq_true, ↓reduceIte]
        refine ⟨d, ks.reverse, s, by rw [List.map_reverse], hd, Iy ho.wide, os, bs.mono (by decide), gs, fun μ7 h7 => ?_⟩
        simp only [Bool.not_true, Bool.false_eq_true, ↓reduceIte]
        exact ⟨_, rfl, Kc (Kc hb5 h6) h7⟩
      · rintro ρ' μ5 ⟨r6, rfl, hb5⟩
        have l1 := ho.l1
        walk_at "rn"
        refine ⟨a, d, rfl, hd, hb5, fun w μ6 ow bw gw s56 => ?_⟩
        obtain ⟨k0, hk0, e0⟩ : ∃ k ∈ ks, atI (ks.map dN) 0 = some (dN k) := by
          match ks, l1 with
          | k :: t, _ => exact ⟨k, by simp, ye⟩
        obtain ⟨ok0, bk0, gk0⟩ := ho.ok k0 hk0
        have nk0 := aK hd ok0 gk0
        have bc0 := bT s5 nk0 bk0
        rw [e0]
        dsimp only
        refine ⟨d, k0, rfl, s5, nk0, bk0.mono (by decide), ?_⟩
        dsimp only
        rw [show dO [D.v (dN (ao d k0)), D.v (dN w)] = some [dN (ao d k0), dN w] from rfl]
        dsimp only
        rw [QC]
        walk_at "rn"
        refine ⟨a, d, w, rfl, hd, ow, bw, gw, s56.1, fun pw W μ7 hpw s67 hW lW aW => ?_⟩
        refine ⟨W, hW, fun i' ρ μ' => ∃ r6, ρ = [some (D.s ns), some (D.v (PyData.int (0 + (i : Int)))), some (D.m a), some (D.v (PyData.int d)), some (D.v (PyData.tuple (List.map dN ks))), some (D.v (PyData.list (List.map dN ss))), r6, some (.v (dN w)), some (.v (.tuple [dN (ao d k0), dN w]))] ∧ μ' pw = some W, ⟨_, rfl, hW⟩, ?_, ?_, ?_⟩
        · rintro _ _ μ' ⟨_, _, h⟩; exact h
        · rintro i' x ρ' μ' hx' ⟨r6, rfl, hW'⟩
          obtain ⟨t, rfl, ot, bt, gt⟩ := aW x (List.mem_of_getElem? hx')
          walk_at "rn"
          refine ⟨d, [w], t, rfl, hd, Ml ow bw gw, ot, bt, gt, fun μ8 h8 => ?_⟩
          simp only [Bool.not_true, Bool.false_eq_true, ↓reduceIte]
          refine ⟨d, [ao d k0, w], t, rfl, hd, MA (aB nk0) (bc0.mono (by decide)) (dX hd ok0 gk0) ow bw gw, ot, bt, gt, fun μ9 h9 => ?_⟩
          simp only [Bool.not_true, Bool.false_eq_true, ↓reduceIte]
          exact ⟨_, rfl, h9 _ _ (h8 _ _ hW')⟩
        · rintro ρ' μ' ⟨r6, rfl, _⟩
          exact ⟨_, _, _, _, _, _, _, _, rfl⟩
  · rintro ρ μ0 ⟨r1, r2, r3, r4, r5, r6, r7, r8, rfl⟩
    exact q _
end
end L2.DL
set_option Elab.async false
set_option linter.all false
set_option maxRecDepth 100000
set_option maxHeartbeats 4000000
namespace K39
open PySem L2 L2.DL
set_option genInjectivity false in
structure Adr where
  qe : Addr
  uA : FuncData
  gM : Addr
  jM : FuncData
  mL : Addr
  sj : FuncData
  gS : Addr
  jK : FuncData
  vj : Addr
  zR : FuncData
  Dk : Addr
  HZ : FuncData
  El : Addr
  G6 : FuncData
  EJ : Addr
  HE : FuncData
  yV : Addr
  CB : FuncData
  Eu : Addr
  IB : FuncData
  pL : Addr
  uR : FuncData
  sR : Addr
  xl : FuncData
  iF : Addr
  kD : FuncData
  gk : Addr
  ju : FuncData
  dR : Addr
  fK : FuncData
  qB : Addr
  uo : FuncData
  iA : Addr
  kC : FuncData
  iD : Addr
  kI : FuncData
  lE : Addr
  pD : FuncData
  mO : Addr
  rF : FuncData
  pW : Addr
  u5 : FuncData
  sS : Addr
  xI : FuncData
  Dg : Addr
  Hv : FuncData
  gj : Addr
  jE : FuncData
  gZ : Addr
  j6 : FuncData
  lF : Addr
  pQ : FuncData
  mY : Addr
  sF : FuncData
  lu : Addr
  pG : FuncData
  k5 : Addr
  pK : FuncData
  lz : Addr
  qs : FuncData
  jA : Addr
  mh : FuncData
  fi : Addr
  ig : FuncData
  fQ : Addr
  iU : FuncData
  pH : Addr
  u7 : FuncData
  mV : Addr
  qZ : FuncData
  iH : Addr
  kK : FuncData
  ke : Addr
  nO : FuncData
  qg : Addr
  uX : FuncData
  hR : Addr
  j7 : FuncData
  mU : Addr
  qY : FuncData
  k9 : Addr
  pF : FuncData
  mT : Addr
  sO : FuncData
  lB : Addr
  qy : FuncData
  iC : Addr
  kM : FuncData
  mK : Addr
  si : FuncData
  lC : Addr
  pN : FuncData
  mP : Addr
  q9 : FuncData
  kf : Addr
  nE : FuncData
  lj : Addr
  qA : FuncData
  kY : Addr
  qf : FuncData
  eB : Addr
  gf : FuncData
  lA : Addr
  qb : FuncData
  j9 : Addr
  nu : FuncData
  cu : Addr
  cS : FuncData
  dn : Addr
  el : FuncData
  eR : Addr
  gC : FuncData
  lq : Addr
  pZ : FuncData
  ix : Addr
  kH : FuncData
  fL : Addr
  iO : FuncData
  jx : Addr
  mm : FuncData
  mW : Addr
  sL : FuncData
  fM : Addr
  iM : FuncData
  jo : Addr
  mv : FuncData
  JT : Addr
  MI : FuncData
  BL : Tok
  KH : Addr
  Rm : Addr
structure Txt (K : PySem.W.Frag) (mg : Str → Option Value) (t : Adr) : Prop where
  HQ : Fun K "is_whole" "is_whole" jN t.qe t.uA
  u6 : mg "is_whole" = some (.ref t.qe)
  uJ : PySem.W.keepIn K (.ref t.qe) = true
  vg : Binds K t.uA ["thing"] []
  xO : Fun K "common_divisor" "common_divisor" d8 t.gM t.jM
  n9 : mg "common_divisor" = some (.ref t.gM)
  oB : PySem.W.keepIn K (.ref t.gM) = true
  oD : Binds K t.jM ["a", "b"] []
  Gy : Fun K "is_number" "is_number" i8 t.mL t.sj
  Ft : mg "is_number" = some (.ref t.mL)
  Gx : PySem.W.keepIn K (.ref t.mL) = true
  Gv : Binds K t.sj ["thing"] []
  xN : Fun K "divisor_of_all" "divisor_of_all" d6 t.gS t.jK
  n8 : mg "divisor_of_all" = some (.ref t.gS)
  oT : PySem.W.keepIn K (.ref t.gS) = true
  nU : Binds K t.jK ["a", "b", "c"] []
  Na : Fun K "number" "number" oA t.vj t.zR
  rE : mg "number" = some (.ref t.vj)
  rZ : PySem.W.keepIn K (.ref t.vj) = true
  sr : Binds K t.zR ["a", "b", "c"] []
  Q4 : Fun K "mate" "mate" wL t.Dk t.HZ
  qj : mg "mate" = some (.ref t.Dk)
  qc : PySem.W.keepIn K (.ref t.Dk) = true
  qo : Binds K t.HZ ["x"] []
  RE : Fun K "plus" "plus" xy t.El t.G6
  Nj : mg "plus" = some (.ref t.El)
  L6 : PySem.W.keepIn K (.ref t.El) = true
  Nt : Binds K t.G6 ["x", "y"] []
  Rl : Fun K "less" "less" xM t.EJ t.HE
  MH : mg "less" = some (.ref t.EJ)
  Lr : PySem.W.keepIn K (.ref t.EJ) = true
  My : Binds K t.HE ["x", "y"] []
  OX : Fun K "times" "times" tj t.yV t.CB
  ly : mg "times" = some (.ref t.yV)
  kW : PySem.W.keepIn K (.ref t.yV) = true
  ll : Binds K t.CB ["d", "x", "y"] []
  Qr : Fun K "over" "over" wV t.Eu t.IB
  uZ : mg "over" = some (.ref t.Eu)
  uN : PySem.W.keepIn K (.ref t.Eu) = true
  um : Binds K t.IB ["d", "x", "y"] []
  GQ : Fun K "contrary" "contrary" jW t.pL t.uR
  lU : mg "contrary" = some (.ref t.pL)
  mw : PySem.W.keepIn K (.ref t.pL) = true
  mf : Binds K t.uR ["d", "x"] []
  K2 : Fun K "sign_of" "sign_of" lN t.sR t.xl
  lJ : mg "sign_of" = some (.ref t.sR)
  lK : PySem.W.keepIn K (.ref t.sR) = true
  lO : Binds K t.xl ["d", "x"] []
  yn : Fun K "sign_of_parts" "sign_of_parts" eO t.iF t.kD
  yo : mg "sign_of_parts" = some (.ref t.iF)
  yO : PySem.W.keepIn K (.ref t.iF) = true
  yz : Binds K t.kD ["d", "a", "b"] []
  vM : Fun K "is_above_nought" "is_above_nought" du t.gk t.ju
  mZ : mg "is_above_nought" = some (.ref t.gk)
  mQ : PySem.W.keepIn K (.ref t.gk) = true
  nh : Binds K t.ju ["d", "thing"] []
  pA : Fun K "must_be_above_nought" "must_be_above_nought" cq t.dR t.fK
  dI : mg "must_be_above_nought" = some (.ref t.dR)
  dG : PySem.W.keepIn K (.ref t.dR) = true
  dS : Binds K t.fK ["d", "thing"] []
  HF : Fun K "is_kinds" "is_kinds" j8 t.qB t.uo
  He : mg "is_kinds" = some (.ref t.qB)
  HD : PySem.W.keepIn K (.ref t.qB) = true
  G9 : Binds K t.uo ["d", "thing"] []
  yM : Fun K "must_be_kinds" "must_be_kinds" eM t.iA t.kC
  qI : mg "must_be_kinds" = some (.ref t.iA)
  qL : PySem.W.keepIn K (.ref t.iA) = true
  qK : Binds K t.kC ["d", "thing"] []
  yH : Fun K "lean_fraction" "lean_fraction" eN t.iD t.kI
  qJ : mg "lean_fraction" = some (.ref t.iD)
  qE : PySem.W.keepIn K (.ref t.iD) = true
  qC : Binds K t.kI ["d", "shape"] []
  EH : Fun K "mixture_of" "mixture_of" hJ t.lE t.pD
  Dh : mg "mixture_of" = some (.ref t.lE)
  Dn : PySem.W.keepIn K (.ref t.lE) = true
  CH : Binds K t.pD ["d", "kind", "shape"] []
  FG : Fun K "shares_of" "shares_of" i6 t.mO t.rF
  yf : mg "shares_of" = some (.ref t.mO)
  xV : PySem.W.keepIn K (.ref t.mO) = true
  x6 : Binds K t.rF ["d", "first", "second", "shape"] []
  Hh : Fun K "is_share" "is_share" jO t.pW t.u5
  Ia : mg "is_share" = some (.ref t.pW)
  Hl : PySem.W.keepIn K (.ref t.pW) = true
  IU : Binds K t.u5 ["d", "x"] []
  KI : Fun K "bar_for" "bar_for" lI t.sS t.xI
  KY : mg "bar_for" = some (.ref t.sS)
  KU : PySem.W.keepIn K (.ref t.sS) = true
  Kj : Binds K t.xI ["d", "kind", "shape"] []
  Rc : Fun K "skew" "skew" xA t.Dg t.Hv
  LQ : mg "skew" = some (.ref t.Dg)
  Mx : PySem.W.keepIn K (.ref t.Dg) = true
  Lo : Binds K t.Hv ["shape", "way"] []
  vO : Fun K "plan_of_mixture" "plan_of_mixture" dy t.gj t.jE
  vZ : mg "plan_of_mixture" = some (.ref t.gj)
  vm : PySem.W.keepIn K (.ref t.gj) = true
  wK : Binds K t.jE ["u", "v", "place"] []
  xi : Fun K "plan_of_shares" "plan_of_shares" ec t.gZ t.j6
  oJ : mg "plan_of_shares" = some (.ref t.gZ)
  oG : PySem.W.keepIn K (.ref t.gZ) = true
  oE : Binds K t.j6 ["u", "first", "v", "second"] []
  EN : Fun K "share_plan" "share_plan" gT t.lF t.pQ
  lD : mg "share_plan" = some (.ref t.lF)
  k6 : PySem.W.keepIn K (.ref t.lF) = true
  kX : Binds K t.pQ ["share", "plan"] []
  Fs : Fun K "wish_told" "wish_told" jc t.mY t.sF
  Fi : mg "wish_told" = some (.ref t.mY)
  GF : PySem.W.keepIn K (.ref t.mY) = true
  Fw : Binds K t.sF ["d", "kinds", "shape"] []
  Dt : Fun K "leans_most" "leans_most" gJ t.lu t.pG
  CZ : mg "leans_most" = some (.ref t.lu)
  CV : PySem.W.keepIn K (.ref t.lu) = true
  CF : Binds K t.pG ["d", "kinds"] []
  EL : Fun K "mate_signs" "mate_signs" gN t.k5 t.pK
  vo : mg "mate_signs" = some (.ref t.k5)
  wG : PySem.W.keepIn K (.ref t.k5) = true
  wg : Binds K t.pK ["d", "kinds"] []
  Cw : Fun K "leans_more" "leans_more" gW t.lz t.qs
  Dr : mg "leans_more" = some (.ref t.lz)
  EU : PySem.W.keepIn K (.ref t.lz) = true
  CN : Binds K t.qs ["d", "kind", "other"] []
  zP : Fun K "plan_by_both" "plan_by_both" fz t.jA t.mh
  zW : mg "plan_by_both" = some (.ref t.jA)
  zI : PySem.W.keepIn K (.ref t.jA) = true
  zh : Binds K t.mh ["d", "kinds", "shape"] []
  tQ : Fun K "with_greater_mate" "with_greater_mate" cT t.fi t.ig
  kN : mg "with_greater_mate" = some (.ref t.fi)
  kQ : PySem.W.keepIn K (.ref t.fi) = true
  kS : Binds K t.ig ["d", "kinds", "place"] []
  vf : Fun K "has_greater_mate" "has_greater_mate" de t.fQ t.iU
  mE : mg "has_greater_mate" = some (.ref t.fQ)
  mj : PySem.W.keepIn K (.ref t.fQ) = true
  mi : Binds K t.iU ["shape"] []
  HG : Fun K "_law_bag" "_law_bag" jY t.pH t.u7
  Jc : mg "_law_bag" = some (.ref t.pH)
  Ih : PySem.W.keepIn K (.ref t.pH) = true
  G4 : Binds K t.u7 ["_law_script", "_law_at"] []
  Fm : Fun K "_law_take" "_law_take" i4 t.mV t.qZ
  bN : mg "_law_take" = some (.ref t.mV)
  bQ : PySem.W.keepIn K (.ref t.mV) = true
  bO : Binds K t.qZ ["_law_bag_here", "_law_many"] []
  yy : Fun K "_law_is_whole" "_law_is_whole" eK t.iH t.kK
  iB : mg "_law_is_whole" = some (.ref t.iH)
  iI : PySem.W.keepIn K (.ref t.iH) = true
  iE : Binds K t.kK ["_law_thing"] []
  BB : Fun K "_law_shared" "_law_shared" fX t.ke t.nO
  kd : mg "_law_shared" = some (.ref t.ke)
  kh : PySem.W.keepIn K (.ref t.ke) = true
  kg : Binds K t.nO ["_law_one", "_law_other"] []
  G3 : Fun K "_law_low" "_law_low" jS t.qg t.uX
  gx : mg "_law_low" = some (.ref t.qg)
  gA : PySem.W.keepIn K (.ref t.qg) = true
  gq : Binds K t.uX ["_law_a", "_law_b", "_law_c"] []
  wQ : Fun K "_law_is_number" "_law_is_number" eh t.hR t.j7
  nV : mg "_law_is_number" = some (.ref t.hR)
  pe : PySem.W.keepIn K (.ref t.hR) = true
  oI : Binds K t.j7 ["_law_thing"] []
  FN : Fun K "_law_plus" "_law_plus" je t.mU t.qY
  cI : mg "_law_plus" = some (.ref t.mU)
  cJ : PySem.W.keepIn K (.ref t.mU) = true
  cK : Binds K t.qY ["_law_x", "_law_y"] []
  DU : Fun K "_law_minus" "_law_minus" gO t.k9 t.pF
  p6 : mg "_law_minus" = some (.ref t.k9)
  qm : PySem.W.keepIn K (.ref t.k9) = true
  pJ : Binds K t.pF ["_law_x"] []
  FR : Fun K "_law_mate" "_law_mate" i7 t.mT t.sO
  eW : mg "_law_mate" = some (.ref t.mT)
  eQ : PySem.W.keepIn K (.ref t.mT) = true
  ff : Binds K t.sO ["_law_x"] []
  EO : Fun K "_law_times" "_law_times" gX t.lB t.qy
  aR : mg "_law_times" = some (.ref t.lB)
  aP : PySem.W.keepIn K (.ref t.lB) = true
  aQ : Binds K t.qy ["_law_d", "_law_x", "_law_y"] []
  yr : Fun K "_law_contrary" "_law_contrary" eG t.iC t.kM
  cE : mg "_law_contrary" = some (.ref t.iC)
  cB : PySem.W.keepIn K (.ref t.iC) = true
  cC : Binds K t.kM ["_law_d", "_law_x"] []
  FU : Fun K "_law_sign" "_law_sign" ja t.mK t.si
  d5 : mg "_law_sign" = some (.ref t.mK)
  d4 : PySem.W.keepIn K (.ref t.mK) = true
  dY : Binds K t.si ["_law_d", "_law_x"] []
  E1 : Fun K "_law_below" "_law_below" gI t.lC t.pN
  pV : mg "_law_below" = some (.ref t.lC)
  pS : PySem.W.keepIn K (.ref t.lC) = true
  pX : Binds K t.pN ["_law_d", "_law_x", "_law_y"] []
  Ga : Fun K "_law_root" "_law_root" jd t.mP t.q9
  Ff : mg "_law_root" = some (.ref t.mP)
  GB : PySem.W.keepIn K (.ref t.mP) = true
  GN : Binds K t.q9 ["_law_bag_here"] []
  Bw : Fun K "_law_number" "_law_number" fY t.kf t.nE
  BM : mg "_law_number" = some (.ref t.kf)
  Bi : PySem.W.keepIn K (.ref t.kf) = true
  A9 : Binds K t.nE ["_law_bag_here"] []
  EM : Fun K "_law_above" "_law_above" g9 t.lj t.qA
  lh : mg "_law_above" = some (.ref t.lj)
  kZ : PySem.W.keepIn K (.ref t.lj) = true
  lG : Binds K t.qA ["_law_bag_here", "_law_d"] []
  Dj : Fun K "_law_kinds" "_law_kinds" g8 t.kY t.qf
  CG : mg "_law_kinds" = some (.ref t.kY)
  EK : PySem.W.keepIn K (.ref t.kY) = true
  D4 : Binds K t.qf ["_law_bag_here", "_law_d"] []
  qP : Fun K "_law_is_never_below" "_law_is_never_below" cw t.eB t.gf
  qR : mg "_law_is_never_below" = some (.ref t.eB)
  qO : PySem.W.keepIn K (.ref t.eB) = true
  qU : Binds K t.gf ["_law_d", "_law_weights", "_law_kind"] []
  CW : Fun K "_law_weigh" "_law_weigh" gH t.lA t.qb
  DN : mg "_law_weigh" = some (.ref t.lA)
  Ea : PySem.W.keepIn K (.ref t.lA) = true
  CQ : Binds K t.qb ["_law_d", "_law_weights", "_law_width", "_law_height"] []
  AS : Fun K "_law_is_bar" "_law_is_bar" fV t.j9 t.nu
  Bp : mg "_law_is_bar" = some (.ref t.j9)
  BH : PySem.W.keepIn K (.ref t.j9) = true
  BU : Binds K t.nu ["_law_d", "_law_kinds_here", "_law_shape_here", "_law_thing"] []
  vh : Fun K "_law_plan_shape" "_law_plan_shape" dw t.cu t.cS
  gm : mg "_law_plan_shape" = some (.ref t.cu)
  gi : PySem.W.keepIn K (.ref t.cu) = true
  gn : Binds K t.cS ["_law_d", "_law_kinds_here", "_law_plan"] []
  zL : Fun K "_law_is_plan" "_law_is_plan" fG t.dn t.el
  md : mg "_law_is_plan" = some (.ref t.dn)
  mr : PySem.W.keepIn K (.ref t.dn) = true
  mn : Binds K t.el ["_law_many", "_law_thing", "_law_deep"] []
  sA : Fun K "_law_lean_fraction" "_law_lean_fraction" cH t.eR t.gC
  gp : mg "_law_lean_fraction" = some (.ref t.eR)
  gu : PySem.W.keepIn K (.ref t.eR) = true
  gz : Binds K t.gC ["_law_d", "_law_shape_here"] []
  CK : Fun K "_law_shape" "_law_shape" gR t.lq t.pZ
  Ew : mg "_law_shape" = some (.ref t.lq)
  C8 : PySem.W.keepIn K (.ref t.lq) = true
  Dm : Binds K t.pZ ["_law_bag_here", "_law_d", "_law_kinds_here"] []
  yG : Fun K "_law_fraction" "_law_fraction" eJ t.ix t.kH
  iy : mg "_law_fraction" = some (.ref t.ix)
  iJ : PySem.W.keepIn K (.ref t.ix) = true
  iz : Binds K t.kH ["_law_bag_here"] []
  uQ : Fun K "_law_is_told_bar" "_law_is_told_bar" dg t.fL t.iO
  uH : mg "_law_is_told_bar" = some (.ref t.fL)
  uI : PySem.W.keepIn K (.ref t.fL) = true
  uP : Binds K t.iO ["_law_d", "_law_kinds_here", "_law_shape_here", "_law_told"] []
  AG : Fun K "_law_is_laid" "_law_is_laid" fA t.jx t.mm
  AI : mg "_law_is_laid" = some (.ref t.jx)
  Aw : PySem.W.keepIn K (.ref t.jx) = true
  zU : Binds K t.mm ["_law_d", "_law_kinds_here", "_law_shape_here"] []
  FP : Fun K "_law_wide" "_law_wide" i5 t.mW t.sL
  FF : mg "_law_wide" = some (.ref t.mW)
  GL : PySem.W.keepIn K (.ref t.mW) = true
  Fz : Binds K t.sL ["_law_bag_here", "_law_d"] []
  ur : Fun K "_law_wide_shapes" "_law_wide_shapes" df t.fM t.iM
  uO : mg "_law_wide_shapes" = some (.ref t.fM)
  uU : PySem.W.keepIn K (.ref t.fM) = true
  uG : Binds K t.iM ["_law_bag_here", "_law_d", "_law_kind"] []
  zk : Fun K "_law_is_told" "_law_is_told" fF t.jo t.mv
  jz : mg "_law_is_told" = some (.ref t.jo)
  jr : PySem.W.keepIn K (.ref t.jo) = true
  js : Binds K t.mv ["_law_d", "_law_kinds_here", "_law_shape_here"] []
  Sy : Fun K "law" "law" uh t.JT t.MI
  Uz : mg "law" = some (.ref t.JT)
  Ux : PySem.W.keepIn K (.ref t.JT) = true
  Uy : Binds K t.MI ["_law_script"] []
  cf : mg "isinstance" = none
  xX : mg "int" = none
  Mz : mg "bool" = none
  Aj : mg "abs" = none
  kc : mg "tuple" = none
  jb : mg "len" = none
  Jl : mg "all" = none
  pU : mg "range" = none
  R0 : mg "str" = none
  Pk : mg "sum" = none
  Pz : mg "any" = none
  Sq : mg "set" = none
  Tc : mg "max" = none
  RL : mg "min" = none
  ES : mg "MOST_KINDS" = some (.int 3 t.BL)
  mx : QU K mg "NOUGHT" t.KH 0 0 1
  LS : QU K mg "ONE" t.Rm 1 0 1
structure EQ where
  P : Program
  w : World
  K : PySem.W.Frag
  mg : Str → Option Value
  base : Heap
  t : Adr
noncomputable abbrev TX (e : EQ) : Prop := Txt e.K e.mg e.t
noncomputable abbrev xZ (e : EQ) : Prop := bS e.P e.w e.K e.mg e.base CX0 1 e.t.qe e.t.uA ["thing"] (spD e.K iw)
noncomputable abbrev mI (e : EQ) : Prop := bS e.P e.w e.K e.mg e.base CX0 1 e.t.gM e.t.jM ["a", "b"] (spD e.K qX)
noncomputable abbrev wB (e : EQ) : Prop := bS e.P e.w e.K e.mg e.base CX0 3 e.t.mL e.t.sj ["thing"] (spD e.K rD)
noncomputable abbrev jn (e : EQ) : Prop := bS e.P e.w e.K e.mg e.base CX0 2 e.t.gS e.t.jK ["a", "b", "c"] (spD e.K zS)
noncomputable abbrev lM (e : EQ) : Prop := bS e.P e.w e.K e.mg e.base CX0 3 e.t.vj e.t.zR ["a", "b", "c"] (spD e.K cY)
noncomputable abbrev vU (e : EQ) : Prop := bS e.P e.w e.K e.mg e.base CX0 1 e.t.Dk e.t.HZ ["x"] (spD e.K eA)
noncomputable abbrev Di (e : EQ) : Prop := bS e.P e.w e.K e.mg e.base CX0 4 e.t.El e.t.G6 ["x", "y"] (spD e.K fB)
noncomputable abbrev C9 (e : EQ) : Prop := bS e.P e.w e.K e.mg e.base CX0 4 e.t.EJ e.t.HE ["x", "y"] (spD e.K zJ)
noncomputable abbrev n6 (e : EQ) : Prop := bS e.P e.w e.K e.mg e.base CX0 4 e.t.yV e.t.CB ["d", "x", "y"] (spD e.K bF)
noncomputable abbrev wt (e : EQ) : Prop := bS e.P e.w e.K e.mg e.base CX0 5 e.t.Eu e.t.IB ["d", "x", "y"] (spD e.K nK)
noncomputable abbrev kn (e : EQ) : Prop := bS e.P e.w e.K e.mg e.base CX0 4 e.t.pL e.t.uR ["d", "x"] (spD e.K bZ)
noncomputable abbrev mB (e : EQ) : Prop := bS e.P e.w e.K e.mg e.base CX0 2 e.t.sR e.t.xl ["d", "x"] (spD e.K fg)
noncomputable abbrev oi (e : EQ) : Prop := bS e.P e.w e.K e.mg e.base CX0 1 e.t.iF e.t.kD ["d", "a", "b"] (spD e.K yS)
noncomputable abbrev iX (e : EQ) : Prop := bS e.P e.w e.K e.mg e.base CX0 4 e.t.gk e.t.ju ["d", "thing"] (spD e.K rg)
noncomputable abbrev dz (e : EQ) : Prop := bS e.P e.w e.K e.mg e.base CX0 5 e.t.dR e.t.fK ["d", "thing"] (spD e.K gG)
noncomputable abbrev xY (e : EQ) : Prop := bS e.P e.w e.K e.mg e.base CX0 5 e.t.qB e.t.uo ["d", "thing"] (spD e.K vQ)
noncomputable abbrev jQ (e : EQ) : Prop := bS e.P e.w e.K e.mg e.base CX0 6 e.t.iA e.t.kC ["d", "thing"] (spD e.K ku)
noncomputable abbrev oP (e : EQ) : Prop := bS e.P e.w e.K e.mg e.base CX0 6 e.t.iD e.t.kI ["d", "shape"] (spD e.K wz)
noncomputable abbrev tV (e : EQ) : Prop := bS e.P e.w e.K e.mg e.base CX0 7 e.t.lE e.t.pD ["d", "kind", "shape"] (spD e.K tF)
noncomputable abbrev qp (e : EQ) : Prop := bS e.P e.w e.K e.mg e.base CX0 6 e.t.mO e.t.rF ["d", "first", "second", "shape"] (spD e.K sH)
noncomputable abbrev x9 (e : EQ) : Prop := bS e.P e.w e.K e.mg e.base CX0 3 e.t.pW e.t.u5 ["d", "x"] (spD e.K tf)
noncomputable abbrev zd (e : EQ) : Prop := bS e.P e.w e.K e.mg e.base CX0 6 e.t.sS e.t.xI ["d", "kind", "shape"] (spD e.K vD)
noncomputable abbrev JA (e : EQ) : Prop := bS e.P e.w e.K e.mg e.base CX0 5 e.t.Dg e.t.Hv ["shape", "way"] (spD e.K zy)
noncomputable abbrev mC (e : EQ) : Prop := bS e.P e.w e.K e.mg e.base CX0 3 e.t.gj e.t.jE ["u", "v", "place"] (spD e.K tu)
noncomputable abbrev jq (e : EQ) : Prop := bS e.P e.w e.K e.mg e.base CX0 2 e.t.gZ e.t.j6 ["u", "first", "v", "second"] (spD e.K rA)
noncomputable abbrev tW (e : EQ) : Prop := bS e.P e.w e.K e.mg e.base CX0 1 e.t.lF e.t.pQ ["share", "plan"] (spD e.K ml)
noncomputable abbrev wF (e : EQ) : Prop := bS e.P e.w e.K e.mg e.base CX0 9 e.t.mY e.t.sF ["d", "kinds", "shape"] (spD e.K E3)
noncomputable abbrev uc (e : EQ) : Prop := bS e.P e.w e.K e.mg e.base CX0 8 e.t.lu e.t.pG ["d", "kinds"] (spD e.K Dc)
noncomputable abbrev nD (e : EQ) : Prop := bS e.P e.w e.K e.mg e.base CX0 3 e.t.k5 e.t.pK ["d", "kinds"] (spD e.K vk)
noncomputable abbrev uf (e : EQ) : Prop := bS e.P e.w e.K e.mg e.base CX0 7 e.t.lz e.t.qs ["d", "kind", "other"] (spD e.K zi)
noncomputable abbrev qG (e : EQ) : Prop := bS e.P e.w e.K e.mg e.base CX0 7 e.t.jA e.t.mh ["d", "kinds", "shape"] (spD e.K Ex)
noncomputable abbrev kz (e : EQ) : Prop := bS e.P e.w e.K e.mg e.base CX0 5 e.t.fi e.t.ig ["d", "kinds", "place"] (spD e.K oS)
noncomputable abbrev ia (e : EQ) : Prop := bS e.P e.w e.K e.mg e.base CX0 1 e.t.fQ e.t.iU ["shape"] (spD e.K vn)
noncomputable abbrev x5 (e : EQ) : Prop := bS e.P e.w e.K e.mg e.base CX0 1 e.t.pH e.t.u7 ["_law_script", "_law_at"] (spD e.K JS)
noncomputable abbrev eX (e : EQ) : Prop := bS e.P e.w e.K e.mg e.base CX0 1 e.t.mV e.t.qZ ["_law_bag_here", "_law_many"] (spD e.K ez)
noncomputable abbrev gK (e : EQ) : Prop := bS e.P e.w e.K e.mg e.base CX0 1 e.t.iH e.t.kK ["_law_thing"] (spD e.K iw)
noncomputable abbrev mq (e : EQ) : Prop := bS e.P e.w e.K e.mg e.base CX0 1 e.t.ke e.t.nO ["_law_one", "_law_other"] (spD e.K qX)
noncomputable abbrev dW (e : EQ) : Prop := bS e.P e.w e.K e.mg e.base CX0 2 e.t.qg e.t.uX ["_law_a", "_law_b", "_law_c"] (spD e.K cY)
noncomputable abbrev mS (e : EQ) : Prop := bS e.P e.w e.K e.mg e.base CX0 2 e.t.hR e.t.j7 ["_law_thing"] (spD e.K rD)
noncomputable abbrev dH (e : EQ) : Prop := bS e.P e.w e.K e.mg e.base CX0 3 e.t.mU e.t.qY ["_law_x", "_law_y"] (spD e.K fB)
noncomputable abbrev km (e : EQ) : Prop := bS e.P e.w e.K e.mg e.base CX0 1 e.t.k9 e.t.pF ["_law_x"] (spD e.K sU)
noncomputable abbrev jF (e : EQ) : Prop := bS e.P e.w e.K e.mg e.base CX0 1 e.t.mT e.t.sO ["_law_x"] (spD e.K eA)
noncomputable abbrev cN (e : EQ) : Prop := bS e.P e.w e.K e.mg e.base CX0 3 e.t.lB e.t.qy ["_law_d", "_law_x", "_law_y"] (spD e.K bF)
noncomputable abbrev cj (e : EQ) : Prop := bS e.P e.w e.K e.mg e.base CX0 3 e.t.iC e.t.kM ["_law_d", "_law_x"] (spD e.K bZ)
noncomputable abbrev eS (e : EQ) : Prop := bS e.P e.w e.K e.mg e.base CX0 1 e.t.mK e.t.si ["_law_d", "_law_x"] (spD e.K fg)
noncomputable abbrev nH (e : EQ) : Prop := bS e.P e.w e.K e.mg e.base CX0 4 e.t.lC e.t.pN ["_law_d", "_law_x", "_law_y"] (spD e.K tH)
noncomputable abbrev vq (e : EQ) : Prop := bS e.P e.w e.K e.mg e.base CX0 2 e.t.mP e.t.q9 ["_law_bag_here"] (spD e.K y7)
noncomputable abbrev rW (e : EQ) : Prop := bS e.P e.w e.K e.mg e.base CX0 3 e.t.kf e.t.nE ["_law_bag_here"] (spD e.K sP)
noncomputable abbrev nr (e : EQ) : Prop := bS e.P e.w e.K e.mg e.base CX0 4 e.t.lj e.t.qA ["_law_bag_here", "_law_d"] (spD e.K lP)
noncomputable abbrev tU (e : EQ) : Prop := bS e.P e.w e.K e.mg e.base CX0 5 e.t.kY e.t.qf ["_law_bag_here", "_law_d"] (spD e.K vX)
noncomputable abbrev jB (e : EQ) : Prop := bS e.P e.w e.K e.mg e.base CX0 5 e.t.eB e.t.gf ["_law_d", "_law_weights", "_law_kind"] (spD e.K yX)
noncomputable abbrev ub (e : EQ) : Prop := bS e.P e.w e.K e.mg e.base CX0 4 e.t.lA e.t.qb ["_law_d", "_law_weights", "_law_width", "_law_height"] (spD e.K tw)
noncomputable abbrev sI (e : EQ) : Prop := bS e.P e.w e.K e.mg e.base CX0 6 e.t.j9 e.t.nu ["_law_d", "_law_kinds_here", "_law_shape_here", "_law_thing"] (spD e.K C7)
noncomputable abbrev uV (e : EQ) : Prop := bS e.P e.w e.K e.mg e.base CX0 9 e.t.cu e.t.cS ["_law_d", "_law_kinds_here", "_law_plan"] (spD e.K (fU 5))
noncomputable abbrev yv (e : EQ) : Prop := bS e.P e.w e.K e.mg e.base CX0 7 e.t.dn e.t.el ["_law_many", "_law_thing", "_law_deep"] (spD e.K (fw 5))
noncomputable abbrev jJ (e : EQ) : Prop := bS e.P e.w e.K e.mg e.base CX0 4 e.t.eR e.t.gC ["_law_d", "_law_shape_here"] (spD e.K nY)
noncomputable abbrev tZ (e : EQ) : Prop := bS e.P e.w e.K e.mg e.base CX0 5 e.t.lq e.t.pZ ["_law_bag_here", "_law_d", "_law_kinds_here"] (spD e.K wH)
noncomputable abbrev j4 (e : EQ) : Prop := bS e.P e.w e.K e.mg e.base CX0 3 e.t.ix e.t.kH ["_law_bag_here"] (spD e.K qh)
noncomputable abbrev kP (e : EQ) : Prop := bS e.P e.w e.K e.mg e.base CX0 7 e.t.fL e.t.iO ["_law_d", "_law_kinds_here", "_law_shape_here", "_law_told"] (spD e.K pq)
noncomputable abbrev qF (e : EQ) : Prop := bS e.P e.w e.K e.mg e.base CX0 5 e.t.jx e.t.mm ["_law_d", "_law_kinds_here", "_law_shape_here"] (spD e.K sV)
noncomputable abbrev wa (e : EQ) : Prop := bS e.P e.w e.K e.mg e.base CX0 3 e.t.mW e.t.sL ["_law_bag_here", "_law_d"] (spD e.K yP)
noncomputable abbrev kO (e : EQ) : Prop := bS e.P e.w e.K e.mg e.base CX0 4 e.t.fM e.t.iM ["_law_bag_here", "_law_d", "_law_kind"] (spD e.K vV)
noncomputable abbrev qH (e : EQ) : Prop := bS e.P e.w e.K e.mg e.base CX0 10 e.t.jo e.t.mv ["_law_d", "_law_kinds_here", "_law_shape_here"] (spD e.K lV)
noncomputable abbrev ND (e : EQ) : Prop := bS e.P e.w e.K e.mg e.base CX0 11 e.t.JT e.t.MI ["_law_script"] (spD e.K zp)
section
variable {e : EQ}
theorem Fp : aI ["thing"] ["thing"] (aC jN) := ⟨rfl, rfl, rfl, by decide +kernel, rfl, by decide +kernel, by decide +kernel⟩
theorem Gf (T : TX e)  : xZ e := by
  have S := Fp
  exact T.HQ.okD S (fun ds μ Q h => yg h) (fun cdv A outer s H E hr => ⟨mM, (av (aE (pC (jC (JU _) rfl T.cf rfl T.xX PyProof.Rows.Boot.«int» (dv 0)) (rq (Aa (jC (E6 _) rfl T.cf rfl T.Mz PyProof.Rows.Boot.«bool» (dv 0))))))), fun ds μ Qd h => yd h⟩)
theorem vS : aI ["a", "b"] ["a", "b"] (aC d8) := ⟨rfl, rfl, rfl, by decide +kernel, rfl, by decide +kernel, by decide +kernel⟩
theorem wD (T : TX e)  : mI e := by
  have S := vS
  exact T.xO.okD S (fun ds μ Q h => Ca h) (fun cdv A outer s H E hr => ⟨jD, (aj (GP PassesOwn.never (aV (iW hr.units) bW (dv 1) ae (aH _)) (av (rG (i := 0) (j := 1) rfl S.nd rfl rfl (by decide) rfl rfl (aa (dv 1) (aa (lZ (dv 0) (dv 1)) ag)) rfl)))
    (av (aE (vc rfl T.Aj (aa (dv 0) ag))))), fun ds μ Qd h => wd h⟩)
theorem OZ : aI ["x"] ["x"] (aC wL) := ⟨rfl, rfl, rfl, by decide +kernel, rfl, by decide +kernel, by decide +kernel⟩
theorem aD (T : TX e)  : vU e := by
  have S := OZ
  exact T.Q4.okD S (fun ds μ Q h => Ax h) (fun cdv A outer s H E hr => ⟨Dl, (av (aE (bR (aa (ax (dv 0) ae (fun _ _ => rfl)) (aa (nL (ax (dv 0) ae (fun _ _ => rfl))) (aa (ax (dv 0) ae (fun _ _ => rfl)) ag)))))), fun ds μ Qd h => N2 h⟩)
theorem xr : aI ["d", "a", "b", "prevailing"] ["d", "a", "b"] (aC eO) := ⟨rfl, rfl, rfl, by decide +kernel, rfl, by decide +kernel, by decide +kernel⟩
theorem xf (T : TX e)  : oi e := by
  have S := xr
  exact T.yn.okD S (fun ds μ Q h => FK h) (fun cdv A outer s H E hr => ⟨jP, (aj (bX (DW.dt (pP (aV (dj hr.units) bW (dv 1) ae (aH _)) (pR (aV (dj hr.units) bW (dv 2) ae (aH _))))) (av (aE ae)) aY)
    (aj (bX (DW.dt (pP (aV Cf d7 (dv 1) ae (aH _)) (pR (aV Cf d7 (dv 2) ae (aH _))))) (av (aE ae)) aY)
    (aj (bX (DW.dt (pP (aV B4 d7 (dv 1) ae (aH _)) (pR (aV B4 d7 (dv 2) ae (aH _))))) (av (aE (nL ae))) aY)
    (aj (aM (i := 3) S.nd rfl (Or.inl rfl) (oH (aV hV d7 (bB (dv 1) (dv 1)) (bB (bB (dv 0) (dv 2)) (dv 2)) (aH _)) (dv 1) (dv 2)))
    (av (aE (oH (aV hV d7 (dv 3) ae (aH _)) ae (nL ae)))))))), fun ds μ Qd h => xu h⟩)
theorem A6 : aI ["share", "plan"] ["share", "plan"] (aC gT) := ⟨rfl, rfl, rfl, by decide +kernel, rfl, by decide +kernel, by decide +kernel⟩
theorem Bk (T : TX e)  : tW e := by
  have S := A6
  exact T.EN.okD S (fun ds μ Q h => D5 h) (fun cdv A outer s H E hr => ⟨nJ, (aj (bX (aV (dj hr.units) bW (dv 0) (ir rfl T.LS) (aH _)) (av (aE (dv 1))) aY)
    (av (aE (bR (aa di (aa (ax (dv 0) ae (fun _ _ => rfl)) (aa (ax (dv 0) ae (fun _ _ => rfl)) (aa (dv 1) ag)))))))), fun ds μ Qd h => BV h⟩)
theorem tO : aI ["shape"] ["shape"] (aC de) := ⟨rfl, rfl, rfl, by decide +kernel, rfl, by decide +kernel, by decide +kernel⟩
theorem tL (T : TX e)  : ia e := by
  have S := tO
  exact T.vf.okD S (fun ds μ Q h => FY h) (fun cdv A outer s H E hr => ⟨ie, (av (aE (fP mX d7 (bB (ax (dv 0) ae (fun _ _ => rfl)) (ax (dv 0) ae (fun _ _ => rfl))) ae (aH _)))), fun ds μ Qd h => tP h⟩)
theorem Gm : aI ["_law_script", "_law_at", "_law_cell", "_law_great", "_law_primes", "_law_mixed"] ["_law_script", "_law_at"] (aC jY) := ⟨rfl, rfl, rfl, by decide +kernel, rfl, by decide +kernel, by decide +kernel⟩
theorem Gu (T : TX e)  : x5 e := by
  have S := Gm
  exact T.HG.okD S (fun ds μ Q h => K1 h) (fun cdv A outer s H E hr => ⟨rf, (aj (aM (i := 2) S.nd rfl (Or.inl rfl) ae)
    (aj (bX (aV mX d7 (dv 1) (fN rfl T.jb (aa (dv 0) ag)) (aH _)) (av (aM (i := 2) S.nd rfl (Or.inl rfl) (ax (dv 0) (dv 1) (fun _ _ => rfl)))) aY)
    (aj (aM (i := 3) S.nd rfl (Or.inl rfl) ae)
    (aj (bX (aV Cf d7 (vc rfl T.Aj (aa (dv 2) ag)) (nq ae ae) (aH _)) (av (aM (i := 3) S.nd rfl (Or.inl rfl) (vc rfl T.Aj (aa (dv 2) ag)))) aY)
    (aj (aM (i := 4) S.nd rfl (Or.inl rfl) (ib (aa ae (aa ae (aa ae (aa ae (aa ae (aa ae (aa ae (aa ae ag))))))))))
    (aj (aM (i := 5) S.nd rfl (Or.inl rfl) (eD (eD (eD (bB (lZ (dv 2) ae) ae) (bB (bB ae (dv 1)) (dv 1))) (bB ae (dv 1))) ae))
    (av (aE (y4 (aa (dv 3) (aa (lZ (dv 5) (ax (dv 4) (lZ (dv 1) ae) (fun _ _ => rfl))) ag))))))))))), fun ds μ Qd h => Fj h⟩)
theorem C3 : aI ["_law_bag_here", "_law_many", "_law_digit"] ["_law_bag_here", "_law_many"] (aC i4) := ⟨rfl, rfl, rfl, by decide +kernel, rfl, by decide +kernel, by decide +kernel⟩
theorem Dq (T : TX e)  : eX e := by
  have S := C3
  exact T.Fm.okD S (fun ds μ Q h => IS h) (fun cdv A outer s H E hr => ⟨p7, (aj (bX (aV hV d7 (ax (dv 0) ae (fun _ _ => rfl)) ae (aH _)) (aj (aM (i := 2) S.nd rfl (Or.inl rfl) (lZ (ax (dv 0) ae (fun _ _ => rfl)) (dv 1)))
    (aj (nM (nQ (ax (dv 0) ae (fun _ _ => rfl)) (dv 1)) (Ls (dv 0) ae))
    (av (aE (dv 2))))) aY)
    (aj (nM (lZ (eD (bB (ax (dv 0) ae (fun _ _ => rfl)) ae) ae) ae) (Ls (dv 0) ae))
    (av (aE (lZ (nQ (lZ (nq (ax (dv 0) ae (fun _ _ => rfl)) ae) ae) ae) (dv 1)))))), fun ds μ Qd h => DR h⟩)
theorem xo : aI ["_law_thing"] ["_law_thing"] (aC eK) := ⟨rfl, rfl, rfl, by decide +kernel, rfl, by decide +kernel, by decide +kernel⟩
theorem wY (T : TX e)  : gK e := by
  have S := xo
  exact T.yy.okD S (fun ds μ Q h => yg h) (fun cdv A outer s H E hr => ⟨oF, (av (aE (pC (jC (JU _) rfl T.cf rfl T.xX PyProof.Rows.Boot.«int» (dv 0)) (rq (Aa (jC (E6 _) rfl T.cf rfl T.Mz PyProof.Rows.Boot.«bool» (dv 0))))))), fun ds μ Qd h => xF h⟩)
theorem zr : aI ["_law_one", "_law_other"] ["_law_one", "_law_other"] (aC fX) := ⟨rfl, rfl, rfl, by decide +kernel, rfl, by decide +kernel, by decide +kernel⟩
theorem y9 (T : TX e)  : mq e := by
  have S := zr
  exact T.BB.okD S (fun ds μ Q h => Ca h) (fun cdv A outer s H E hr => ⟨mH, (aj (rG (i := 0) (j := 1) rfl S.nd rfl rfl (by decide) rfl rfl (aa (vc rfl T.Aj (aa (dv 0) ag)) (aa (vc rfl T.Aj (aa (dv 1) ag)) ag)) rfl)
    (aj (GP PassesOwn.never (aV hV d7 (dv 1) ae (aH _)) (av (rG (i := 0) (j := 1) rfl S.nd rfl rfl (by decide) rfl rfl (aa (dv 1) (aa (lZ (dv 0) (dv 1)) ag)) rfl)))
    (av (aE (dv 0))))), fun ds μ Qd h => Aq h⟩)
theorem Ba : aI ["_law_x"] ["_law_x"] (aC gO) := ⟨rfl, rfl, rfl, by decide +kernel, rfl, by decide +kernel, by decide +kernel⟩
theorem BN (T : TX e)  : km e := by
  have S := Ba
  exact T.DU.okD S (fun ds μ Q h => FX h) (fun cdv A outer s H E hr => ⟨nR, (av (aE (bR (aa (gy ae (ax (dv 0) ae (fun _ _ => rfl))) (aa (gy ae (ax (dv 0) ae (fun _ _ => rfl))) (aa (ax (dv 0) ae (fun _ _ => rfl)) ag)))))), fun ds μ Qd h => A0 h⟩)
theorem Dy : aI ["_law_x"] ["_law_x"] (aC i7) := ⟨rfl, rfl, rfl, by decide +kernel, rfl, by decide +kernel, by decide +kernel⟩
theorem Ei (T : TX e)  : jF e := by
  have S := Dy
  exact T.FR.okD S (fun ds μ Q h => Ax h) (fun cdv A outer s H E hr => ⟨qa, (av (aE (bR (aa (ax (dv 0) ae (fun _ _ => rfl)) (aa (gy ae (ax (dv 0) ae (fun _ _ => rfl))) (aa (ax (dv 0) ae (fun _ _ => rfl)) ag)))))), fun ds μ Qd h => Er h⟩)
theorem EC : aI ["_law_d", "_law_x", "_law_first", "_law_second", "_law_sides"] ["_law_d", "_law_x"] (aC ja) := ⟨rfl, rfl, rfl, by decide +kernel, rfl, by decide +kernel, by decide +kernel⟩
theorem CD (T : TX e)  : eS e := by
  have S := EC
  exact T.FU.okD S (fun ds μ Q h => As h) (fun cdv A outer s H E hr => ⟨qr, (aj (rG (i := 2) (j := 3) rfl S.nd rfl rfl (by decide) rfl rfl (aa (bB (ax (dv 1) ae (fun _ _ => rfl)) (ax (dv 1) ae (fun _ _ => rfl))) (aa (bB (bB (dv 0) (ax (dv 1) ae (fun _ _ => rfl))) (ax (dv 1) ae (fun _ _ => rfl))) ag)) rfl)
    (aj (aM (i := 4) S.nd rfl (Or.inl rfl) (ib (aa (gy (oK rfl T.xX (aa (fP hV d7 (ax (dv 1) ae (fun _ _ => rfl)) ae (aH _)) ag)) (oK rfl T.xX (aa (fP mX d7 (ax (dv 1) ae (fun _ _ => rfl)) ae (aH _)) ag))) (aa (gy (oK rfl T.xX (aa (fP hV d7 (ax (dv 1) ae (fun _ _ => rfl)) ae (aH _)) ag)) (oK rfl T.xX (aa (fP mX d7 (ax (dv 1) ae (fun _ _ => rfl)) ae (aH _)) ag))) ag))))
    (aj (bX (aV Cf d7 (bB (ax (dv 4) ae (fun _ _ => rfl)) (ax (dv 4) ae (fun _ _ => rfl))) ae (aH _)) (av (aE (oH (aV (iW hr.units) bW (ax (dv 4) ae (fun _ _ => rfl)) ae (aH _)) (ax (dv 4) ae (fun _ _ => rfl)) (ax (dv 4) ae (fun _ _ => rfl))))) aY)
    (av (aE (oH (aV hV d7 (dv 2) (dv 3) (aH _)) (ax (dv 4) ae (fun _ _ => rfl)) (ax (dv 4) ae (fun _ _ => rfl)))))))), fun ds μ Qd h => D0 h⟩)
theorem vz : aI ["a", "b", "c"] ["a", "b", "c"] (aC d6) := ⟨rfl, rfl, rfl, by decide +kernel, rfl, by decide +kernel, by decide +kernel⟩
theorem v5 (T : TX e) (gL : mI e) : jn e := by
  have S := vz
  exact T.xN.okD S (fun ds μ Q h => Im h) (fun cdv A outer s H E hr => ⟨jm, (av (aE (ah gL (hr.mono (by decide)) rfl T.n9 T.oB T.oD (aa (ah gL (hr.mono (by decide)) rfl T.n9 T.oB T.oD (aa (dv 2) (aa (dv 0) ag))) (aa (dv 1) ag))))), fun ds μ Qd h => vY h⟩)
theorem IK : aI ["d", "x"] ["d", "x"] (aC lN) := ⟨rfl, rfl, rfl, by decide +kernel, rfl, by decide +kernel, by decide +kernel⟩
theorem Hk (T : TX e) (kF : oi e) : mB e := by
  have S := IK
  exact T.K2.okD S (fun ds μ Q h => As h) (fun cdv A outer s H E hr => ⟨uv, (av (aE (ah kF (hr.mono (by decide)) rfl T.yo T.yO T.yz (aa (dv 0) (aa (ax (dv 1) ae (fun _ _ => rfl)) (aa (ax (dv 1) ae (fun _ _ => rfl)) ag)))))), fun ds μ Qd h => G7 h⟩)
theorem vF : aI ["u", "first", "v", "second"] ["u", "first", "v", "second"] (aC ec) := ⟨rfl, rfl, rfl, by decide +kernel, rfl, by decide +kernel, by decide +kernel⟩
theorem vK (T : TX e) (hU : tW e) : jq e := by
  have S := vF
  exact T.xi.okD S (fun ds μ Q h => DM h) (fun cdv A outer s H E hr => ⟨jk, (aj (bX (aV (dj hr.units) bW (dv 2) (ir rfl T.mx) (aH _)) (av (aE (ah hU (hr.mono (by decide)) rfl T.lD T.k6 T.kX (aa (dv 0) (aa (dv 1) ag))))) aY)
    (aj (bX (aV (dj hr.units) bW (dv 0) (ir rfl T.mx) (aH _)) (av (aE (ah hU (hr.mono (by decide)) rfl T.lD T.k6 T.kX (aa (dv 2) (aa (dv 3) ag))))) aY)
    (av (aE (bR (aa di (aa (bR (aa (ah hU (hr.mono (by decide)) rfl T.lD T.k6 T.kX (aa (dv 0) (aa (dv 1) ag))) (aa (ah hU (hr.mono (by decide)) rfl T.lD T.k6 T.kX (aa (dv 2) (aa (dv 3) ag))) ag))) ag))))))), fun ds μ Qd h => we h⟩)
theorem E8 : aI ["_law_a", "_law_b", "_law_c", "_law_common"] ["_law_a", "_law_b", "_law_c"] (aC jS) := ⟨rfl, rfl, rfl, by decide +kernel, rfl, by decide +kernel, by decide +kernel⟩
theorem Fb (T : TX e) (dZ : mq e) : dW e := by
  have S := E8
  exact T.G3.okD S (fun ds μ Q h => wx h) (fun cdv A outer s H E hr => ⟨rV, (aj (aM (i := 3) S.nd rfl (Or.inl rfl) (bB (ah dZ (hr.mono (by decide)) rfl T.kd T.kh T.kg (aa (ah dZ (hr.mono (by decide)) rfl T.kd T.kh T.kg (aa (dv 0) (aa (dv 1) ag))) (aa (dv 2) ag))) (ax (ib (aa ae (aa (nL ae) ag))) (oK rfl T.xX (aa (fP mX d7 (dv 2) ae (aH _)) ag)) (fun _ _ => rfl))))
    (av (aE (bR (aa (nQ (dv 0) (dv 3)) (aa (nQ (dv 1) (dv 3)) (aa (nQ (dv 2) (dv 3)) ag))))))), fun ds μ Qd h => E7 h⟩)
theorem vW : aI ["_law_thing"] ["_law_thing"] (aC eh) := ⟨rfl, rfl, rfl, by decide +kernel, rfl, by decide +kernel, by decide +kernel⟩
theorem v7 (T : TX e) (bK : gK e) (dZ : mq e) : mS e := by
  have S := vW
  exact T.wQ.okD S (fun ds μ Q h => zz h) (fun cdv A outer s H E hr => ⟨jG, (aj (bX (DW.dt (fS (dc (cG (jC (kit_tuple _) rfl T.cf rfl T.kc PyProof.Rows.Boot.«tuple» (dv 0)))) (fS (aV (iW hr.units) bW (fN rfl T.jb (aa (dv 0) ag)) ae (aH _)) (jg (dc (cG (CM rfl rfl T.Jl (aa (pO (N' := ["_law_one"]) (cap := [none]) rfl (mG (dv 0)) (fun _ _ _ => (bC (i := 0) (show List.Nodup (["_law_one"] : List Str) by decide +kernel) rfl (Or.inl rfl))) (fun _ _ _ => iq) (fun _ _ _ => (ah bK (hr.mono (by decide)) rfl T.iB T.iI T.iE (aa (dv 0) ag))) rfl (by decide +kernel) rfl (by decide +kernel) (by intro _ _ h; first | exact h | exact cl1 h | exact cl2 (by decide +kernel) h | exact cl3 (by decide +kernel) h | exact cl_of (cl_c rfl cl_n) _ _ h | exact cl_of (cl_c rfl (cl_c rfl cl_n)) _ _ h | exact cl_of (cl_c rfl (cl_c rfl (cl_c rfl cl_n))) _ _ h | cases h) (mz rfl) rfl (j0 trivial)) ag)))))))) (av (aE kR)) aY)
    (av (aE (pC (fP hV d7 (ax (dv 0) ae (fun _ _ => rfl)) ae (aH _)) (rq (fP (dj hr.units) bW (ah dZ (hr.mono (by decide)) rfl T.kd T.kh T.kg (aa (ah dZ (hr.mono (by decide)) rfl T.kd T.kh T.kg (aa (ax (dv 0) ae (fun _ _ => rfl)) (aa (ax (dv 0) ae (fun _ _ => rfl)) ag))) (aa (ax (dv 0) ae (fun _ _ => rfl)) ag))) ae (aH _))))))), fun ds μ Qd h => vP h⟩)
theorem Cy : aI ["_law_bag_here", "_law_some"] ["_law_bag_here"] (aC jd) := ⟨rfl, rfl, rfl, by decide +kernel, rfl, by decide +kernel, by decide +kernel⟩
theorem CI (T : TX e) (aN : eX e) : vq e := by
  have S := Cy
  exact T.Ga.okD S (fun ds μ Q h => FL h) (fun cdv A outer s H E hr => ⟨pY, (aj (bX (aV (dj hr.units) bW (ah aN (hr.mono (by decide)) rfl T.bN T.bQ T.bO (aa (dv 0) (aa ae ag))) ae (aH _)) (av (aE (ax (ib (aa ae (aa ae (aa ae ag)))) (ah aN (hr.mono (by decide)) rfl T.bN T.bQ T.bO (aa (dv 0) (aa ae ag))) (fun _ _ => rfl)))) aY)
    (aj (yU (i := 1) (N' := ["_law_d"]) (cap := [none]) S.nd rfl rfl rfl (Jk rfl T.pU (aa ae (aa ae ag))) (fun _ _ _ => (bC (i := 0) (show List.Nodup (["_law_d"] : List Str) by decide +kernel) rfl (Or.inl rfl))) (fun _ _ _ => (L3 (aV (xB hr.units) ze (dv 0) (ib (aa ae (aa ae (aa ae (aa ae ag))))) (by with_unfolding_all rfl)))) (fun _ _ _ => (dv 0)) rfl (by decide +kernel) rfl (by decide +kernel) (by intro _ _ h; first | exact h | exact cl1 h | exact cl2 (by decide +kernel) h | exact cl3 (by decide +kernel) h | exact cl_of (cl_c rfl cl_n) _ _ h | exact cl_of (cl_c rfl (cl_c rfl cl_n)) _ _ h | exact cl_of (cl_c rfl (cl_c rfl (cl_c rfl cl_n))) _ _ h | cases h) (mz rfl) rfl (j0 trivial))
    (av (aE (ax (dv 1) (ah aN (hr.mono (by decide)) rfl T.bN T.bQ T.bO (aa (dv 0) (aa ae ag))) (fun _ _ => rfl)))))), fun ds μ Qd h => EG h⟩)
theorem Df : aI ["thing", "a", "b", "c"] ["thing"] (aC i8) := ⟨rfl, rfl, rfl, by decide +kernel, rfl, by decide +kernel, by decide +kernel⟩
theorem Eg (T : TX e) (ma : xZ e) (d9 : jn e) : wB e := by
  have S := Df
  exact T.Gy.okD S (fun ds μ Q h => zz h) (fun cdv A outer s H E hr => ⟨qx, (aj (bX (DW.dt (fS (dc (cG (jC (kit_tuple _) rfl T.cf rfl T.kc PyProof.Rows.Boot.«tuple» (dv 0)))) (jg (aV (iW hr.units) bW (fN rfl T.jb (aa (dv 0) ag)) ae (aH _))))) (av (aE kR)) aY)
    (aj (nM (dv 0) (rm (n := 3) rfl (cg (bC (i := 1) S.nd rfl (Or.inl rfl)) (cg (bC (i := 2) S.nd rfl (Or.inl rfl)) (cg (bC (i := 3) S.nd rfl (Or.inl rfl)) mJ)))))
    (aj (bX (DW.dt (fS (dc (cG (ah ma (hr.mono (by decide)) rfl T.u6 T.uJ T.vg (aa (dv 1) ag)))) (fS (dc (cG (ah ma (hr.mono (by decide)) rfl T.u6 T.uJ T.vg (aa (dv 2) ag)))) (jg (dc (cG (ah ma (hr.mono (by decide)) rfl T.u6 T.uJ T.vg (aa (dv 3) ag)))))))) (av (aE kR)) aY)
    (av (aE (pC (fP Cf d7 (dv 3) ae (aH _)) (rq (fP (dj hr.units) bW (ah d9 (hr.mono (by decide)) rfl T.n8 T.oT T.nU (aa (dv 1) (aa (dv 2) (aa (dv 3) ag)))) ae (aH _))))))))), fun ds μ Qd h => C2 h⟩)
theorem K4 : aI ["a", "b", "c", "divisor"] ["a", "b", "c"] (aC oA) := ⟨rfl, rfl, rfl, by decide +kernel, rfl, by decide +kernel, by decide +kernel⟩
theorem Kn (T : TX e) (d9 : jn e) : lM e := by
  have S := K4
  exact T.Na.okD S (fun ds μ Q h => wx h) (fun cdv A outer s H E hr => ⟨xj, (aj (bX (aV (dj hr.units) bW (dv 2) ae (aH _)) (av vT) aY)
    (aj (aM (i := 3) S.nd rfl (Or.inl rfl) (ah d9 (hr.mono (by decide)) rfl T.n8 T.oT T.nU (aa (dv 0) (aa (dv 1) (aa (dv 2) ag)))))
    (aj (bX (aV mX d7 (dv 2) ae (aH _)) (av (aM (i := 3) S.nd rfl (Or.inl rfl) (nL (dv 3)))) aY)
    (av (aE (bR (aa (nQ (dv 0) (dv 3)) (aa (nQ (dv 1) (dv 3)) (aa (nQ (dv 2) (dv 3)) ag))))))))), fun ds μ Qd h => Kl h⟩)
theorem Gd : aI ["d", "x"] ["d", "x"] (aC jO) := ⟨rfl, rfl, rfl, by decide +kernel, rfl, by decide +kernel, by decide +kernel⟩
theorem GD (T : TX e) (dA : mB e) : x9 e := by
  have S := Gd
  exact T.Hh.okD S (fun ds μ Q h => By h) (fun cdv A outer s H E hr => ⟨sD, (av (aE (pC (fP (dj hr.units) bW (ax (dv 1) ae (fun _ _ => rfl)) ae (aH _)) (rq (fP Cf d7 (ah dA (hr.mono (by decide)) rfl T.lJ T.lK T.lO (aa (dv 0) (aa (dv 1) ag))) ae (aH _)))))), fun ds μ Qd h => FE h⟩)
theorem uK : aI ["u", "v", "place", "kind"] ["u", "v", "place"] (aC dy) := ⟨rfl, rfl, rfl, by decide +kernel, rfl, by decide +kernel, by decide +kernel⟩
theorem uW (T : TX e) (ej : jq e) : mC e := by
  have S := uK
  exact T.vO.okD S (fun ds μ Q h => BO h) (fun cdv A outer s H E hr => ⟨iY, (aj (aM (i := 3) S.nd rfl (Or.inl rfl) (bR (aa di (aa (dv 2) ag))))
    (av (aE (ah ej (hr.mono (by decide)) rfl T.oJ T.oG T.oE (aa (dv 0) (aa (dv 3) (aa (dv 1) (aa (bR (aa di (aa (dv 3) ag))) ag)))))))), fun ds μ Qd h => uC h⟩)
theorem Bq : aI ["d", "kinds"] ["d", "kinds"] (aC gN) := ⟨rfl, rfl, rfl, by decide +kernel, rfl, by decide +kernel, by decide +kernel⟩
theorem BQ (T : TX e) (dA : mB e) (gE : vU e) : nD e := by
  have S := Bq
  exact T.EL.okD S (fun ds μ Q h => Gr h) (fun cdv A outer s H E hr => ⟨nI, (av (aE (pO (N' := ["kind", "d"]) (cap := [none, some 0]) rfl (mG (dv 1)) (fun _ _ _ => (bC (i := 0) (show List.Nodup (["kind", "d"] : List Str) by decide +kernel) rfl (Or.inl rfl))) (fun _ _ _ => iq) (fun _ _ _ => (ah dA (hr.mono (by decide)) rfl T.lJ T.lK T.lO (aa (dv 1) (aa (ah gE (hr.mono (by decide)) rfl T.qj T.qc T.qo (aa (dv 0) ag)) ag)))) rfl (by decide +kernel) rfl (by decide +kernel) (by intro _ _ h; first | exact h | exact cl1 h | exact cl2 (by decide +kernel) h | exact cl3 (by decide +kernel) h | exact cl_of (cl_c rfl cl_n) _ _ h | exact cl_of (cl_c rfl (cl_c rfl cl_n)) _ _ h | exact cl_of (cl_c rfl (cl_c rfl (cl_c rfl cl_n))) _ _ h | cases h) (mz rfl) rfl (j0 ⟨xk, trivial⟩)))), fun ds μ Qd h => Bh h⟩)
theorem Cz : aI ["_law_x", "_law_y"] ["_law_x", "_law_y"] (aC je) := ⟨rfl, rfl, rfl, by decide +kernel, rfl, by decide +kernel, by decide +kernel⟩
theorem D1 (T : TX e) (bj : dW e) : dH e := by
  have S := Cz
  exact T.FN.okD S (fun ds μ Q h => zF h) (fun cdv A outer s H E hr => ⟨vN, (av (aE (ah bj (hr.mono (by decide)) rfl T.gx T.gA T.gq (aa (eD (bB (ax (dv 0) ae (fun _ _ => rfl)) (ax (dv 1) ae (fun _ _ => rfl))) (bB (ax (dv 1) ae (fun _ _ => rfl)) (ax (dv 0) ae (fun _ _ => rfl)))) (aa (eD (bB (ax (dv 0) ae (fun _ _ => rfl)) (ax (dv 1) ae (fun _ _ => rfl))) (bB (ax (dv 1) ae (fun _ _ => rfl)) (ax (dv 0) ae (fun _ _ => rfl)))) (aa (bB (ax (dv 0) ae (fun _ _ => rfl)) (ax (dv 1) ae (fun _ _ => rfl))) ag)))))), fun ds μ Qd h => DZ h⟩)
theorem AV : aI ["_law_d", "_law_x", "_law_y"] ["_law_d", "_law_x", "_law_y"] (aC gX) := ⟨rfl, rfl, rfl, by decide +kernel, rfl, by decide +kernel, by decide +kernel⟩
theorem Bm (T : TX e) (bj : dW e) : cN e := by
  have S := AV
  exact T.EO.okD S (fun ds μ Q h => yh h) (fun cdv A outer s H E hr => ⟨ue, (av (aE (ah bj (hr.mono (by decide)) rfl T.gx T.gA T.gq (aa (eD (bB (ax (dv 1) ae (fun _ _ => rfl)) (ax (dv 2) ae (fun _ _ => rfl))) (bB (bB (dv 0) (ax (dv 1) ae (fun _ _ => rfl))) (ax (dv 2) ae (fun _ _ => rfl)))) (aa (eD (bB (ax (dv 1) ae (fun _ _ => rfl)) (ax (dv 2) ae (fun _ _ => rfl))) (bB (ax (dv 1) ae (fun _ _ => rfl)) (ax (dv 2) ae (fun _ _ => rfl)))) (aa (bB (ax (dv 1) ae (fun _ _ => rfl)) (ax (dv 2) ae (fun _ _ => rfl))) ag)))))), fun ds μ Qd h => Bc h⟩)
theorem w9 : aI ["_law_d", "_law_x"] ["_law_d", "_law_x"] (aC eG) := ⟨rfl, rfl, rfl, by decide +kernel, rfl, by decide +kernel, by decide +kernel⟩
theorem wM (T : TX e) (bj : dW e) : cj e := by
  have S := w9
  exact T.yr.okD S (fun ds μ Q h => rC h) (fun cdv A outer s H E hr => ⟨jV, (av (aE (ah bj (hr.mono (by decide)) rfl T.gx T.gA T.gq (aa (bB (ax (dv 1) ae (fun _ _ => rfl)) (ax (dv 1) ae (fun _ _ => rfl))) (aa (gy ae (bB (ax (dv 1) ae (fun _ _ => rfl)) (ax (dv 1) ae (fun _ _ => rfl)))) (aa (gy (bB (ax (dv 1) ae (fun _ _ => rfl)) (ax (dv 1) ae (fun _ _ => rfl))) (bB (bB (dv 0) (ax (dv 1) ae (fun _ _ => rfl))) (ax (dv 1) ae (fun _ _ => rfl)))) ag)))))), fun ds μ Qd h => xC h⟩)
theorem zG : aI ["_law_bag_here", "_law_wide_here", "_law_a", "_law_b", "_law_c", "_law_way"] ["_law_bag_here"] (aC fY) := ⟨rfl, rfl, rfl, by decide +kernel, rfl, by decide +kernel, by decide +kernel⟩
theorem Af (T : TX e) (aN : eX e) (bj : dW e) : rW e := by
  have S := zG
  exact T.Bw.okD S (fun ds μ Q h => A1 h) (fun cdv A outer s H E hr => ⟨l7, (aj (aM (i := 1) S.nd rfl (Or.inl rfl) (ax (ib (aa ae (aa ae (aa ae (aa ae ag))))) (ah aN (hr.mono (by decide)) rfl T.bN T.bQ T.bO (aa (dv 0) (aa ae ag))) (fun _ _ => rfl)))
    (aj (rG (i := 2) (j := 3) rfl S.nd rfl rfl (by decide) rfl rfl (aa (gy (ah aN (hr.mono (by decide)) rfl T.bN T.bQ T.bO (aa (dv 0) (aa (dv 1) ag))) (nQ (dv 1) ae)) (aa (gy (ah aN (hr.mono (by decide)) rfl T.bN T.bQ T.bO (aa (dv 0) (aa (dv 1) ag))) (nQ (dv 1) ae)) ag)) rfl)
    (aj (aM (i := 4) S.nd rfl (Or.inl rfl) (eD ae (ah aN (hr.mono (by decide)) rfl T.bN T.bQ T.bO (aa (dv 0) (aa (gy (dv 1) ae) ag)))))
    (aj (aM (i := 5) S.nd rfl (Or.inl rfl) (ah aN (hr.mono (by decide)) rfl T.bN T.bQ T.bO (aa (dv 0) (aa ae ag))))
    (av (aE (ah bj (hr.mono (by decide)) rfl T.gx T.gA T.gq (aa (ax (ib (aa (dv 2) (aa (dv 2) (aa (dv 2) (aa (dv 2) (aa (dv 2) (aa (dv 2) (aa (dv 2) (aa ae ag))))))))) (dv 5) (fun _ _ => rfl)) (aa (ax (ib (aa (dv 3) (aa (dv 3) (aa (dv 3) (aa (dv 3) (aa (dv 3) (aa ae (aa ae (aa (dv 3) ag))))))))) (dv 5) (fun _ _ => rfl)) (aa (ax (ib (aa (dv 4) (aa (dv 4) (aa ae (aa (dv 4) (aa ae (aa (dv 4) (aa ae (aa (dv 4) ag))))))))) (dv 5) (fun _ _ => rfl)) ag)))))))))), fun ds μ Qd h => AH h⟩)
theorem xK : aI ["_law_bag_here", "_law_wide_here"] ["_law_bag_here"] (aC eJ) := ⟨rfl, rfl, rfl, by decide +kernel, rfl, by decide +kernel, by decide +kernel⟩
theorem xD (T : TX e) (aN : eX e) (bj : dW e) : j4 e := by
  have S := xK
  exact T.yG.okD S (fun ds μ Q h => Gj h) (fun cdv A outer s H E hr => ⟨jZ, (aj (aM (i := 1) S.nd rfl (Or.inl rfl) (ax (ib (aa ae (aa ae (aa ae (aa ae ag))))) (ah aN (hr.mono (by decide)) rfl T.bN T.bQ T.bO (aa (dv 0) (aa ae ag))) (fun _ _ => rfl)))
    (av (aE (ah bj (hr.mono (by decide)) rfl T.gx T.gA T.gq (aa (eD ae (ah aN (hr.mono (by decide)) rfl T.bN T.bQ T.bO (aa (dv 0) (aa (dv 1) ag)))) (aa ae (aa (eD ae (ah aN (hr.mono (by decide)) rfl T.bN T.bQ T.bO (aa (dv 0) (aa (dv 1) ag)))) ag))))))), fun ds μ Qd h => wO h⟩)
theorem CJ : aI ["_law_bag_here", "_law_d", "_law_parts", "_law_turn", "_law_found", "_law_k", "_law_x"] ["_law_bag_here", "_law_d"] (aC i5) := ⟨rfl, rfl, rfl, by decide +kernel, rfl, by decide +kernel, by decide +kernel⟩
theorem En (T : TX e) (aN : eX e) (bj : dW e) (dU : km e) (bE : eS e) : wa e := by
  have S := CJ
  exact T.FP.okD S (fun ds μ Q h => Fd h) (fun cdv A outer s H E hr => ⟨qd, (aj (aM (i := 2) S.nd rfl (Or.inl rfl) (y4 ag))
    (aj (lY PassesOwn.never rfl (vA rfl T.pU (aa ae ag)) (bC (i := 3) S.nd rfl (Or.inl rfl)) (aj (aM (i := 4) S.nd rfl (Or.inl rfl) ae)
    (aj (lY PassesOwn.never rfl (vA rfl T.pU (aa ae ag)) (bC (i := 5) S.nd rfl (Or.inl rfl)) (av (aM (i := 4) S.nd rfl (Or.inl rfl) (eD (bB (dv 4) (nq ae ae)) (ah aN (hr.mono (by decide)) rfl T.bN T.bQ T.bO (aa (dv 0) (aa (nq ae ae) ag)))))))
    (av (kj (sW (dv 2) (dv 4)))))))
    (aj (aM (i := 6) S.nd rfl (Or.inl rfl) (ah bj (hr.mono (by decide)) rfl T.gx T.gA T.gq (aa (gy (ax (dv 2) ae (fun _ _ => rfl)) (bB ae (nq ae ae))) (aa (gy (ax (dv 2) ae (fun _ _ => rfl)) (bB ae (nq ae ae))) (aa (eD ae (lZ (ax (dv 2) ae (fun _ _ => rfl)) (nq ae ae))) ag)))))
    (av (aE (ax (ib (aa (bR (aa ae (aa ae (aa ae ag)))) (aa (dv 6) (aa (ah dU (hr.mono (by decide)) rfl T.p6 T.qm T.pJ (aa (dv 6) ag)) ag)))) (ah bE (hr.mono (by decide)) rfl T.d5 T.d4 T.dY (aa (dv 1) (aa (dv 6) ag))) (fun _ _ => rfl))))))), fun ds μ Qd h => DX h⟩)
theorem Oh : aI ["x", "y"] ["x", "y"] (aC xy) := ⟨rfl, rfl, rfl, by decide +kernel, rfl, by decide +kernel, by decide +kernel⟩
theorem bM (T : TX e) (eo : lM e) : Di e := by
  have S := Oh
  exact T.RE.okD S (fun ds μ Q h => zF h) (fun cdv A outer s H E hr => ⟨Ep, (av (aE (ah eo (hr.mono (by decide)) rfl T.rE T.rZ T.sr (aa (eD (bB (ax (dv 0) ae (fun _ _ => rfl)) (ax (dv 1) ae (fun _ _ => rfl))) (bB (ax (dv 1) ae (fun _ _ => rfl)) (ax (dv 0) ae (fun _ _ => rfl)))) (aa (eD (bB (ax (dv 0) ae (fun _ _ => rfl)) (ax (dv 1) ae (fun _ _ => rfl))) (bB (ax (dv 1) ae (fun _ _ => rfl)) (ax (dv 0) ae (fun _ _ => rfl)))) (aa (bB (ax (dv 0) ae (fun _ _ => rfl)) (ax (dv 1) ae (fun _ _ => rfl))) ag)))))), fun ds μ Qd h => Jq h⟩)
theorem Pf : aI ["x", "y"] ["x", "y"] (aC xM) := ⟨rfl, rfl, rfl, by decide +kernel, rfl, by decide +kernel, by decide +kernel⟩
theorem lH (T : TX e) (eo : lM e) : C9 e := by
  have S := Pf
  exact T.Rl.okD S (fun ds μ Q h => HC h) (fun cdv A outer s H E hr => ⟨EA, (av (aE (ah eo (hr.mono (by decide)) rfl T.rE T.rZ T.sr (aa (gy (bB (ax (dv 0) ae (fun _ _ => rfl)) (ax (dv 1) ae (fun _ _ => rfl))) (bB (ax (dv 1) ae (fun _ _ => rfl)) (ax (dv 0) ae (fun _ _ => rfl)))) (aa (gy (bB (ax (dv 0) ae (fun _ _ => rfl)) (ax (dv 1) ae (fun _ _ => rfl))) (bB (ax (dv 1) ae (fun _ _ => rfl)) (ax (dv 0) ae (fun _ _ => rfl)))) (aa (bB (ax (dv 0) ae (fun _ _ => rfl)) (ax (dv 1) ae (fun _ _ => rfl))) ag)))))), fun ds μ Qd h => OW h⟩)
theorem MK : aI ["d", "x", "y"] ["d", "x", "y"] (aC tj) := ⟨rfl, rfl, rfl, by decide +kernel, rfl, by decide +kernel, by decide +kernel⟩
theorem ai (T : TX e) (eo : lM e) : n6 e := by
  have S := MK
  exact T.OX.okD S (fun ds μ Q h => yh h) (fun cdv A outer s H E hr => ⟨zZ, (av (aE (ah eo (hr.mono (by decide)) rfl T.rE T.rZ T.sr (aa (eD (bB (ax (dv 1) ae (fun _ _ => rfl)) (ax (dv 2) ae (fun _ _ => rfl))) (bB (bB (dv 0) (ax (dv 1) ae (fun _ _ => rfl))) (ax (dv 2) ae (fun _ _ => rfl)))) (aa (eD (bB (ax (dv 1) ae (fun _ _ => rfl)) (ax (dv 2) ae (fun _ _ => rfl))) (bB (ax (dv 1) ae (fun _ _ => rfl)) (ax (dv 2) ae (fun _ _ => rfl)))) (aa (bB (ax (dv 1) ae (fun _ _ => rfl)) (ax (dv 2) ae (fun _ _ => rfl))) ag)))))), fun ds μ Qd h => FI h⟩)
theorem Gb : aI ["d", "x", "norm"] ["d", "x"] (aC jW) := ⟨rfl, rfl, rfl, by decide +kernel, rfl, by decide +kernel, by decide +kernel⟩
theorem aB (T : TX e) (eo : lM e) : kn e := by
  have S := Gb
  exact T.GQ.okD S (fun ds μ Q h => rC h) (fun cdv A outer s H E hr => ⟨rn, (aj (aM (i := 2) S.nd rfl (Or.inl rfl) (gy (bB (ax (dv 1) ae (fun _ _ => rfl)) (ax (dv 1) ae (fun _ _ => rfl))) (bB (bB (dv 0) (ax (dv 1) ae (fun _ _ => rfl))) (ax (dv 1) ae (fun _ _ => rfl)))))
    (av (aE (ah eo (hr.mono (by decide)) rfl T.rE T.rZ T.sr (aa (bB (ax (dv 1) ae (fun _ _ => rfl)) (ax (dv 1) ae (fun _ _ => rfl))) (aa (bB (nL (ax (dv 1) ae (fun _ _ => rfl))) (ax (dv 1) ae (fun _ _ => rfl))) (aa (dv 2) ag))))))), fun ds μ Qd h => FV h⟩)
theorem uL : aI ["d", "thing"] ["d", "thing"] (aC du) := ⟨rfl, rfl, rfl, by decide +kernel, rfl, by decide +kernel, by decide +kernel⟩
theorem uY (T : TX e) (rO : wB e) (dA : mB e) : iX e := by
  have S := uL
  exact T.vM.okD S (fun ds μ Q h => CL h) (fun cdv A outer s H E hr => ⟨iL, (av (aE (pC (ah rO (hr.mono (by decide)) rfl T.Ft T.Gx T.Gv (aa (dv 1) ag)) (rq (fP (dj hr.units) bW (ah dA (hr.mono (by decide)) rfl T.lJ T.lK T.lO (aa (dv 0) (aa (dv 1) ag))) ae (aH _)))))), fun ds μ Qd h => uk h⟩)
theorem A4 : aI ["_law_d", "_law_x", "_law_y"] ["_law_d", "_law_x", "_law_y"] (aC gI) := ⟨rfl, rfl, rfl, by decide +kernel, rfl, by decide +kernel, by decide +kernel⟩
theorem Bg (T : TX e) (bE : eS e) (aS : dH e) (dU : km e) : nH e := by
  have S := A4
  exact T.E1.okD S (fun ds μ Q h => Gq h) (fun cdv A outer s H E hr => ⟨nG, (av (aE (fP hV d7 (ah bE (hr.mono (by decide)) rfl T.d5 T.d4 T.dY (aa (dv 0) (aa (ah aS (hr.mono (by decide)) rfl T.cI T.cJ T.cK (aa (dv 2) (aa (ah dU (hr.mono (by decide)) rfl T.p6 T.qm T.pJ (aa (dv 1) ag)) ag))) ag))) ae (aH _)))), fun ds μ Qd h => AR h⟩)
theorem Bl : aI ["_law_bag_here", "_law_d", "_law_x", "_law_sign_here"] ["_law_bag_here", "_law_d"] (aC g9) := ⟨rfl, rfl, rfl, by decide +kernel, rfl, by decide +kernel, by decide +kernel⟩
theorem BF (T : TX e) (nF : rW e) (bE : eS e) (aN : eX e) (dU : km e) : nr e := by
  have S := Bl
  exact T.EM.okD S (fun ds μ Q h => DY h) (fun cdv A outer s H E hr => ⟨nA, (aj (aM (i := 2) S.nd rfl (Or.inl rfl) (ah nF (hr.mono (by decide)) rfl T.BM T.Bi T.A9 (aa (dv 0) ag)))
    (aj (aM (i := 3) S.nd rfl (Or.inl rfl) (ah bE (hr.mono (by decide)) rfl T.d5 T.d4 T.dY (aa (dv 1) (aa (dv 2) ag))))
    (aj (bX (aV (dj hr.units) bW (dv 3) ae (aH _)) (av (aE (bR (aa (eD ae (ah aN (hr.mono (by decide)) rfl T.bN T.bQ T.bO (aa (dv 0) (aa ae ag)))) (aa ae (aa ae ag)))))) aY)
    (av (aE (oH (aV hV d7 (dv 3) ae (aH _)) (dv 2) (ah dU (hr.mono (by decide)) rfl T.p6 T.qm T.pJ (aa (dv 2) ag)))))))), fun ds μ Qd h => Bf h⟩)
theorem Bn : aI ["_law_d", "_law_weights", "_law_width", "_law_height", "_law_p", "_law_q", "_law_s", "_law_t", "_law_first", "_law_second"] ["_law_d", "_law_weights", "_law_width", "_law_height"] (aC gH) := ⟨rfl, rfl, rfl, by decide +kernel, rfl, by decide +kernel, by decide +kernel⟩
theorem BR (T : TX e) (aS : dH e) (az : cN e) (bY : jF e) : ub e := by
  have S := Bn
  exact T.CW.okD S (fun ds μ Q h => AU h) (fun cdv A outer s H E hr => ⟨nt, (aj (nM (dv 1) (rm (n := 4) rfl (cg (bC (i := 4) S.nd rfl (Or.inl rfl)) (cg (bC (i := 5) S.nd rfl (Or.inl rfl)) (cg (bC (i := 6) S.nd rfl (Or.inl rfl)) (cg (bC (i := 7) S.nd rfl (Or.inl rfl)) mJ))))))
    (aj (aM (i := 8) S.nd rfl (Or.inl rfl) (ah aS (hr.mono (by decide)) rfl T.cI T.cJ T.cK (aa (ah az (hr.mono (by decide)) rfl T.aR T.aP T.aQ (aa (dv 0) (aa (dv 4) (aa (dv 3) ag)))) (aa (ah az (hr.mono (by decide)) rfl T.aR T.aP T.aQ (aa (dv 0) (aa (dv 5) (aa (ah bY (hr.mono (by decide)) rfl T.eW T.eQ T.ff (aa (dv 3) ag)) ag)))) ag))))
    (aj (aM (i := 9) S.nd rfl (Or.inl rfl) (ah aS (hr.mono (by decide)) rfl T.cI T.cJ T.cK (aa (ah az (hr.mono (by decide)) rfl T.aR T.aP T.aQ (aa (dv 0) (aa (dv 6) (aa (dv 3) ag)))) (aa (ah az (hr.mono (by decide)) rfl T.aR T.aP T.aQ (aa (dv 0) (aa (dv 7) (aa (ah bY (hr.mono (by decide)) rfl T.eW T.eQ T.ff (aa (dv 3) ag)) ag)))) ag))))
    (av (aE (ah aS (hr.mono (by decide)) rfl T.cI T.cJ T.cK (aa (ah az (hr.mono (by decide)) rfl T.aR T.aP T.aQ (aa (dv 0) (aa (dv 2) (aa (dv 8) ag)))) (aa (ah az (hr.mono (by decide)) rfl T.aR T.aP T.aQ (aa (dv 0) (aa (ah bY (hr.mono (by decide)) rfl T.eW T.eQ T.ff (aa (dv 2) ag)) (aa (dv 9) ag)))) ag)))))))), fun ds μ Qd h => AX h⟩)
theorem qN : aI ["_law_d", "_law_shape_here", "_law_both"] ["_law_d", "_law_shape_here"] (aC cH) := ⟨rfl, rfl, rfl, by decide +kernel, rfl, by decide +kernel, by decide +kernel⟩
theorem qQ (T : TX e) (aS : dH e) (bY : jF e) (az : cN e) (aG : cj e) : jJ e := by
  have S := qN
  exact T.sA.okD S (fun ds μ Q h => CU h) (fun cdv A outer s H E hr => ⟨gg, (aj (aM (i := 2) S.nd rfl (Or.inl rfl) (ah aS (hr.mono (by decide)) rfl T.cI T.cJ T.cK (aa (dv 1) (aa (ah bY (hr.mono (by decide)) rfl T.eW T.eQ T.ff (aa (dv 1) ag)) ag))))
    (av (aE (ah az (hr.mono (by decide)) rfl T.aR T.aP T.aQ (aa (dv 0) (aa (ah az (hr.mono (by decide)) rfl T.aR T.aP T.aQ (aa (dv 0) (aa (dv 2) (aa (dv 2) ag)))) (aa (ah aG (hr.mono (by decide)) rfl T.cE T.cB T.cC (aa (dv 0) (aa (ah az (hr.mono (by decide)) rfl T.aR T.aP T.aQ (aa (dv 0) (aa (dv 1) (aa (ah bY (hr.mono (by decide)) rfl T.eW T.eQ T.ff (aa (dv 1) ag)) ag)))) ag))) ag))))))), fun ds μ Qd h => qT h⟩)
theorem tS : aI ["_law_bag_here", "_law_d", "_law_kind", "_law_u", "_law_v", "_law_turned_kind", "_law_found", "_law_one", "_law_beside", "_law_shape_here"] ["_law_bag_here", "_law_d", "_law_kind"] (aC df) := ⟨rfl, rfl, rfl, by decide +kernel, rfl, by decide +kernel, by decide +kernel⟩
theorem tR (T : TX e) (cU : j4 e) (aG : cj e) (az : cN e) (aS : dH e) (bE : eS e) : kO e := by
  have S := tS
  exact T.ur.okD S (fun ds μ Q h => D6 h) (fun cdv A outer s H E hr => ⟨ic, (aj (rG (i := 3) (j := 4) rfl S.nd rfl rfl (by decide) rfl rfl (aa (ah cU (hr.mono (by decide)) rfl T.iy T.iJ T.iz (aa (dv 0) ag)) (aa (ah cU (hr.mono (by decide)) rfl T.iy T.iJ T.iz (aa (dv 0) ag)) ag)) rfl)
    (aj (aM (i := 5) S.nd rfl (Or.inl rfl) (ah aG (hr.mono (by decide)) rfl T.cE T.cB T.cC (aa (dv 1) (aa (dv 2) ag))))
    (aj (aM (i := 6) S.nd rfl (Or.inl rfl) (y4 (aa (ah az (hr.mono (by decide)) rfl T.aR T.aP T.aQ (aa (dv 1) (aa (dv 3) (aa (dv 2) ag)))) (aa (ah az (hr.mono (by decide)) rfl T.aR T.aP T.aQ (aa (dv 1) (aa (dv 4) (aa (dv 5) ag)))) ag))))
    (aj (kj (sW (dv 6) (ah aS (hr.mono (by decide)) rfl T.cI T.cJ T.cK (aa (ax (dv 6) ae (fun _ _ => rfl)) (aa (ax (dv 6) ae (fun _ _ => rfl)) ag)))))
    (aj (lY PassesOwn.never rfl (yW (Az (dv 6) CP (Du ae))) (bC (i := 7) S.nd rfl (Or.inl rfl)) (av (lY PassesOwn.never rfl (yW (ib (aa (bR (aa ae (aa ae (aa (nq ae ae) ag)))) (aa (bR (aa ae (aa (nL ae) (aa (nq ae ae) ag)))) (aa (bR (aa ae (aa ae (aa (nq ae ae) ag)))) ag))))) (bC (i := 8) S.nd rfl (Or.inl rfl)) (aj (aM (i := 9) S.nd rfl (Or.inl rfl) (ah aS (hr.mono (by decide)) rfl T.cI T.cJ T.cK (aa (dv 7) (aa (dv 8) ag))))
    (av (bX (aV hV d7 (ah bE (hr.mono (by decide)) rfl T.d5 T.d4 T.dY (aa (dv 1) (aa (dv 9) ag))) ae (aH _)) (av (kj (sW (dv 6) (dv 9)))) aY))))))
    (av (aE (dv 6)))))))), fun ds μ Qd h => tN h⟩)
theorem OY : aI ["d", "x", "y"] ["d", "x", "y"] (aC wV) := ⟨rfl, rfl, rfl, by decide +kernel, rfl, by decide +kernel, by decide +kernel⟩
theorem O3 (T : TX e) (dJ : n6 e) (cZ : kn e) : wt e := by
  have S := OY
  exact T.Qr.okD S (fun ds μ Q h => IC h) (fun cdv A outer s H E hr => ⟨C6, (aj (bX (aV (dj hr.units) bW (dv 2) (ir rfl T.mx) (aH _)) (av vT) aY)
    (av (aE (ah dJ (hr.mono (by decide)) rfl T.ly T.kW T.ll (aa (dv 0) (aa (dv 1) (aa (ah cZ (hr.mono (by decide)) rfl T.lU T.mw T.mf (aa (dv 0) (aa (dv 2) ag))) ag))))))), fun ds μ Qd h => ON h⟩)
theorem oU : aI ["d", "thing"] ["d", "thing"] (aC cq) := ⟨rfl, rfl, rfl, by decide +kernel, rfl, by decide +kernel, by decide +kernel⟩
theorem n4 (T : TX e) (dr : iX e) : dz e := by
  have S := oU
  exact T.pA.okD S (fun ds μ Q h => yI h) (fun cdv A outer s H E hr => ⟨fI, (av (bX (dc (cG (ah dr (hr.mono (by decide)) rfl T.mZ T.mQ T.nh (aa (dv 0) (aa (dv 1) ag))))) (av vT) aY)), fun ds μ Qd h => nZ h⟩)
theorem Fg : aI ["d", "thing"] ["d", "thing"] (aC j8) := ⟨rfl, rfl, rfl, by decide +kernel, rfl, by decide +kernel, by decide +kernel⟩
theorem FA (T : TX e) (dr : iX e) : xY e := by
  have S := Fg
  exact T.HF.okD S (fun ds μ Q h => DF h) (fun cdv A outer s H E hr => ⟨rL, (aj (bX (DW.dt (fS (dc (cG (jC (kit_tuple _) rfl T.cf rfl T.kc PyProof.Rows.Boot.«tuple» (dv 1)))) (fS (aV mX d7 (fN rfl T.jb (aa (dv 1) ag)) ae (aH _)) (jg (aV hV d7 (fN rfl T.jb (aa (dv 1) ag)) (JK (u := .int 3) rfl T.ES ⟨_, rfl⟩ (fun _ _ _ => Rp.int 3)) (aH _)))))) (av (aE kR)) aY)
    (av (aE (CM rfl rfl T.Jl (aa (pO (N' := ["kind", "d"]) (cap := [none, some 0]) rfl (mG (dv 1)) (fun _ _ _ => (bC (i := 0) (show List.Nodup (["kind", "d"] : List Str) by decide +kernel) rfl (Or.inl rfl))) (fun _ _ _ => iq) (fun _ _ _ => (ah dr (hr.mono (by decide)) rfl T.mZ T.mQ T.nh (aa (dv 1) (aa (dv 0) ag)))) rfl (by decide +kernel) rfl (by decide +kernel) (by intro _ _ h; first | exact h | exact cl1 h | exact cl2 (by decide +kernel) h | exact cl3 (by decide +kernel) h | exact cl_of (cl_c rfl cl_n) _ _ h | exact cl_of (cl_c rfl (cl_c rfl cl_n)) _ _ h | exact cl_of (cl_c rfl (cl_c rfl (cl_c rfl cl_n))) _ _ h | cases h) (mz rfl) rfl (j0 ⟨xk, trivial⟩)) ag))))), fun ds μ Qd h => Fl h⟩)
theorem N9 : aI ["shape", "way"] ["shape", "way"] (aC xA) := ⟨rfl, rfl, rfl, by decide +kernel, rfl, by decide +kernel, by decide +kernel⟩
theorem cA (T : TX e) (xJ : C9 e) (gE : vU e) (xG : Di e) : JA e := by
  have S := N9
  exact T.Rc.okD S (fun ds μ Q h => Ik h) (fun cdv A outer s H E hr => ⟨Es, (av (aE (oH (aV hV d7 (dv 1) ae (aH _)) (ah xJ (hr.mono (by decide)) rfl T.MH T.Lr T.My (aa (dv 0) (aa (ah gE (hr.mono (by decide)) rfl T.qj T.qc T.qo (aa (dv 0) ag)) ag))) (ah xG (hr.mono (by decide)) rfl T.Nj T.L6 T.Nt (aa (dv 0) (aa (ah gE (hr.mono (by decide)) rfl T.qj T.qc T.qo (aa (dv 0) ag)) ag)))))), fun ds μ Qd h => OL h⟩)
theorem rR : aI ["d", "kinds", "place", "kind", "plan"] ["d", "kinds", "place"] (aC cT) := ⟨rfl, rfl, rfl, by decide +kernel, rfl, by decide +kernel, by decide +kernel⟩
theorem sf (T : TX e) (dh : ia e) (cZ : kn e) : kz e := by
  have S := rR
  exact T.tQ.okD S (fun ds μ Q h => Bb h) (fun cdv A outer s H E hr => ⟨gD, (aj (aM (i := 3) S.nd rfl (Or.inl rfl) (ax (dv 1) (dv 2) (fun _ _ => rfl)))
    (aj (aM (i := 4) S.nd rfl (Or.inl rfl) (bR (aa di (aa (dv 2) ag))))
    (aj (bX (cG (ah dh (hr.mono (by decide)) rfl T.mE T.mj T.mi (aa (ah cZ (hr.mono (by decide)) rfl T.lU T.mw T.mf (aa (dv 0) (aa (dv 3) ag))) ag))) (av (aE (bR (aa (ah cZ (hr.mono (by decide)) rfl T.lU T.mw T.mf (aa (dv 0) (aa (dv 3) ag))) (aa (bR (aa di (aa (dv 4) ag))) ag))))) aY)
    (av (aE (bR (aa (dv 3) (aa (dv 4) ag)))))))), fun ds μ Qd h => se h⟩)
theorem BP : aI ["_law_bag_here", "_law_d", "_law_found", "_law_turn", "_law_way", "_law_part", "_law_kind"] ["_law_bag_here", "_law_d"] (aC g8) := ⟨rfl, rfl, rfl, by decide +kernel, rfl, by decide +kernel, by decide +kernel⟩
theorem AQ (T : TX e) (fe : nr e) (aN : eX e) (aG : cj e) (az : cN e) (bj : dW e) : tU e := by
  have S := BP
  exact T.Dj.okD S (fun ds μ Q h => DV h) (fun cdv A outer s H E hr => ⟨nN, (aj (aM (i := 2) S.nd rfl (Or.inl rfl) (y4 (aa (ah fe (hr.mono (by decide)) rfl T.lh T.kZ T.lG (aa (dv 0) (aa (dv 1) ag))) ag)))
    (aj (lY PassesOwn.never rfl (vA rfl T.pU (aa (ah aN (hr.mono (by decide)) rfl T.bN T.bQ T.bO (aa (dv 0) (aa ae ag))) ag)) (bC (i := 3) S.nd rfl (Or.inl rfl)) (aj (aM (i := 4) S.nd rfl (Or.inl rfl) (ah aN (hr.mono (by decide)) rfl T.bN T.bQ T.bO (aa (dv 0) (aa ae ag))))
    (aj (aM (i := 5) S.nd rfl (Or.inl rfl) (bR (aa (eD ae (ah aN (hr.mono (by decide)) rfl T.bN T.bQ T.bO (aa (dv 0) (aa ae ag)))) (aa ae (aa (eD ae (ah aN (hr.mono (by decide)) rfl T.bN T.bQ T.bO (aa (dv 0) (aa ae ag)))) ag)))))
    (aj (aM (i := 6) S.nd rfl (Or.inl rfl) (ax (ib (aa (ax (dv 2) ae (fun _ _ => rfl)) (aa (ah aG (hr.mono (by decide)) rfl T.cE T.cB T.cC (aa (dv 1) (aa (ax (dv 2) ae (fun _ _ => rfl)) ag))) ag))) (lZ (dv 4) ae) (fun _ _ => rfl)))
    (aj (bX (aV hV d7 (dv 4) ae (aH _)) (av (aM (i := 6) S.nd rfl (Or.inl rfl) (ah fe (hr.mono (by decide)) rfl T.lh T.kZ T.lG (aa (dv 0) (aa (dv 1) ag))))) (av (bX (aV hV d7 (dv 4) ae (aH _)) (av (aM (i := 6) S.nd rfl (Or.inl rfl) (ah az (hr.mono (by decide)) rfl T.aR T.aP T.aQ (aa (dv 1) (aa (dv 6) (aa (ah bj (hr.mono (by decide)) rfl T.gx T.gA T.gq (aa (ax (dv 5) ae (fun _ _ => rfl)) (aa (ax (dv 5) ae (fun _ _ => rfl)) (aa (ax (dv 5) ae (fun _ _ => rfl)) ag)))) ag)))))) aY)))
    (av (kj (sW (dv 2) (dv 6)))))))))
    (av (aE (L5 rfl T.kc (aa (dv 2) ag)))))), fun ds μ Qd h => Bj h⟩)
theorem qk : aI ["_law_d", "_law_weights", "_law_kind", "_law_p", "_law_q", "_law_s", "_law_t", "_law_first", "_law_last", "_law_middle", "_law_four"] ["_law_d", "_law_weights", "_law_kind"] (aC cw) := ⟨rfl, rfl, rfl, by decide +kernel, rfl, by decide +kernel, by decide +kernel⟩
theorem qq (T : TX e) (az : cN e) (bY : jF e) (aS : dH e) (bE : eS e) (fR : nH e) : jB e := by
  have S := qk
  exact T.qP.okD S (fun ds μ Q h => FZ h) (fun cdv A outer s H E hr => ⟨fO, (aj (nM (dv 1) (rm (n := 4) rfl (cg (bC (i := 3) S.nd rfl (Or.inl rfl)) (cg (bC (i := 4) S.nd rfl (Or.inl rfl)) (cg (bC (i := 5) S.nd rfl (Or.inl rfl)) (cg (bC (i := 6) S.nd rfl (Or.inl rfl)) mJ))))))
    (aj (rG (i := 7) (j := 8) rfl S.nd rfl rfl (by decide) rfl rfl (aa (ah az (hr.mono (by decide)) rfl T.aR T.aP T.aQ (aa (dv 0) (aa (dv 3) (aa (dv 2) ag)))) (aa (ah az (hr.mono (by decide)) rfl T.aR T.aP T.aQ (aa (dv 0) (aa (dv 6) (aa (ah bY (hr.mono (by decide)) rfl T.eW T.eQ T.ff (aa (dv 2) ag)) ag)))) ag)) rfl)
    (aj (aM (i := 9) S.nd rfl (Or.inl rfl) (ah aS (hr.mono (by decide)) rfl T.cI T.cJ T.cK (aa (ah az (hr.mono (by decide)) rfl T.aR T.aP T.aQ (aa (dv 0) (aa (dv 4) (aa (ah bY (hr.mono (by decide)) rfl T.eW T.eQ T.ff (aa (dv 2) ag)) ag)))) (aa (ah az (hr.mono (by decide)) rfl T.aR T.aP T.aQ (aa (dv 0) (aa (dv 5) (aa (dv 2) ag)))) ag))))
    (aj (bX (DW.dt (fS (aV mX d7 (ah bE (hr.mono (by decide)) rfl T.d5 T.d4 T.dY (aa (dv 0) (aa (dv 7) ag))) ae (aH _)) (jg (aV mX d7 (ah bE (hr.mono (by decide)) rfl T.d5 T.d4 T.dY (aa (dv 0) (aa (dv 8) ag))) ae (aH _))))) (av (aE kR)) aY)
    (aj (aM (i := 10) S.nd rfl (Or.inl rfl) (ah az (hr.mono (by decide)) rfl T.aR T.aP T.aQ (aa (dv 0) (aa (bR (aa ae (aa ae (aa ae ag)))) (aa (ah az (hr.mono (by decide)) rfl T.aR T.aP T.aQ (aa (dv 0) (aa (dv 7) (aa (dv 8) ag)))) ag)))))
    (av (aE (Aa (ah fR (hr.mono (by decide)) rfl T.pV T.pS T.pX (aa (dv 0) (aa (dv 10) (aa (ah az (hr.mono (by decide)) rfl T.aR T.aP T.aQ (aa (dv 0) (aa (dv 9) (aa (dv 9) ag)))) ag)))))))))))), fun ds μ Qd h => qi h⟩)
theorem AY : aI ["_law_bag_here", "_law_d", "_law_kinds_here", "_law_kind", "_law_other", "_law_u", "_law_v", "_law_way", "_law_turned_kind", "_law_some"] ["_law_bag_here", "_law_d", "_law_kinds_here"] (aC gR) := ⟨rfl, rfl, rfl, by decide +kernel, rfl, by decide +kernel, by decide +kernel⟩
theorem A5 (T : TX e) (aN : eX e) (cU : j4 e) (aG : cj e) (fe : nr e) (az : cN e) (aS : dH e) : tZ e := by
  have S := AY
  exact T.CK.okD S (fun ds μ Q h => Dw h) (fun cdv A outer s H E hr => ⟨nC, (aj (aM (i := 3) S.nd rfl (Or.inl rfl) (ax (dv 2) (ah aN (hr.mono (by decide)) rfl T.bN T.bQ T.bO (aa (dv 0) (aa (fN rfl T.jb (aa (dv 2) ag)) ag))) (fun _ _ => rfl)))
    (aj (aM (i := 4) S.nd rfl (Or.inl rfl) (ax (dv 2) (ah aN (hr.mono (by decide)) rfl T.bN T.bQ T.bO (aa (dv 0) (aa (fN rfl T.jb (aa (dv 2) ag)) ag))) (fun _ _ => rfl)))
    (aj (rG (i := 5) (j := 6) rfl S.nd rfl rfl (by decide) rfl rfl (aa (ah cU (hr.mono (by decide)) rfl T.iy T.iJ T.iz (aa (dv 0) ag)) (aa (ah cU (hr.mono (by decide)) rfl T.iy T.iJ T.iz (aa (dv 0) ag)) ag)) rfl)
    (aj (aM (i := 7) S.nd rfl (Or.inl rfl) (ah aN (hr.mono (by decide)) rfl T.bN T.bQ T.bO (aa (dv 0) (aa ae ag))))
    (aj (aM (i := 8) S.nd rfl (Or.inl rfl) (ah aG (hr.mono (by decide)) rfl T.cE T.cB T.cC (aa (dv 1) (aa (dv 3) ag))))
    (aj (aM (i := 9) S.nd rfl (Or.inl rfl) (ib (aa (ah fe (hr.mono (by decide)) rfl T.lh T.kZ T.lG (aa (dv 0) (aa (dv 1) ag))) (aa (ah az (hr.mono (by decide)) rfl T.aR T.aP T.aQ (aa (dv 1) (aa (dv 3) (aa (dv 5) ag)))) (aa (ah az (hr.mono (by decide)) rfl T.aR T.aP T.aQ (aa (dv 1) (aa (dv 8) (aa (dv 5) ag)))) (aa (ah aS (hr.mono (by decide)) rfl T.cI T.cJ T.cK (aa (ah az (hr.mono (by decide)) rfl T.aR T.aP T.aQ (aa (dv 1) (aa (dv 3) (aa (dv 5) ag)))) (aa (ah az (hr.mono (by decide)) rfl T.aR T.aP T.aQ (aa (dv 1) (aa (dv 8) (aa (dv 6) ag)))) ag))) (aa (ah aS (hr.mono (by decide)) rfl T.cI T.cJ T.cK (aa (dv 3) (aa (ah az (hr.mono (by decide)) rfl T.aR T.aP T.aQ (aa (dv 1) (aa (dv 4) (aa (dv 6) ag)))) ag))) (aa (dv 5) (aa (ah az (hr.mono (by decide)) rfl T.aR T.aP T.aQ (aa (dv 1) (aa (bR (aa ae (aa ae (aa ae ag)))) (aa (dv 5) ag)))) (aa (ah aS (hr.mono (by decide)) rfl T.cI T.cJ T.cK (aa (ah az (hr.mono (by decide)) rfl T.aR T.aP T.aQ (aa (dv 1) (aa (dv 8) (aa (dv 5) ag)))) (aa (bR (aa ae (aa ae (aa ae ag)))) ag))) (aa (ah aS (hr.mono (by decide)) rfl T.cI T.cJ T.cK (aa (ah az (hr.mono (by decide)) rfl T.aR T.aP T.aQ (aa (dv 1) (aa (dv 3) (aa (dv 5) ag)))) (aa (ah az (hr.mono (by decide)) rfl T.aR T.aP T.aQ (aa (dv 1) (aa (dv 6) (aa (bR (aa ae (aa ae (aa ae ag)))) ag)))) ag))) (aa (ah fe (hr.mono (by decide)) rfl T.lh T.kZ T.lG (aa (dv 0) (aa (dv 1) ag))) ag))))))))))))
    (av (aE (ax (dv 9) (dv 7) (fun _ _ => rfl)))))))))), fun ds μ Qd h => BG h⟩)
theorem yp : aI ["_law_d", "_law_kinds_here", "_law_shape_here", "_law_signs", "_law_lean"] ["_law_d", "_law_kinds_here", "_law_shape_here"] (aC fA) := ⟨rfl, rfl, rfl, by decide +kernel, rfl, by decide +kernel, by decide +kernel⟩
theorem yC (T : TX e) (bE : eS e) (bY : jF e) (dq : jJ e) (fR : nH e) : qF e := by
  have S := yp
  exact T.AG.okD S (fun ds μ Q h => A3 h) (fun cdv A outer s H E hr => ⟨kB, (aj (yU (i := 3) (N' := ["_law_kind", "_law_d"]) (cap := [none, some 0]) S.nd rfl rfl rfl (mG (dv 1)) (fun _ _ _ => (bC (i := 0) (show List.Nodup (["_law_kind", "_law_d"] : List Str) by decide +kernel) rfl (Or.inl rfl))) (fun _ _ _ => iq) (fun _ _ _ => (ah bE (hr.mono (by decide)) rfl T.d5 T.d4 T.dY (aa (dv 1) (aa (ah bY (hr.mono (by decide)) rfl T.eW T.eQ T.ff (aa (dv 0) ag)) ag)))) rfl (by decide +kernel) rfl (by decide +kernel) (by intro _ _ h; first | exact h | exact cl1 h | exact cl2 (by decide +kernel) h | exact cl3 (by decide +kernel) h | exact cl_of (cl_c rfl cl_n) _ _ h | exact cl_of (cl_c rfl (cl_c rfl cl_n)) _ _ h | exact cl_of (cl_c rfl (cl_c rfl (cl_c rfl cl_n))) _ _ h | cases h) (mz rfl) rfl (j0 ⟨xk, trivial⟩))
    (aj (bX (aV hV d7 (KS rfl rfl T.jb rfl T.Sq (dv 3)) ae (aH _)) (av (aE kR)) aY)
    (aj (bX (aV (iW hr.units) bW (ah bE (hr.mono (by decide)) rfl T.d5 T.d4 T.dY (aa (dv 0) (aa (ah bY (hr.mono (by decide)) rfl T.eW T.eQ T.ff (aa (dv 2) ag)) ag))) (ax (dv 3) ae (fun _ _ => rfl)) (aH _)) (av (aE kR)) aY)
    (aj (aM (i := 4) S.nd rfl (Or.inr rfl) (ah dq (hr.mono (by decide)) rfl T.gp T.gu T.gz (aa (dv 0) (aa (dv 2) ag))))
    (aj (bX (aV hV d7 (ax (dv 3) ae (fun _ _ => rfl)) ae (aH _)) (av (aE (Ny rfl rfl T.Pz (aa (pO (N' := ["_law_kind", "_law_d", "_law_lean"]) (cap := [none, some 0, some 4]) rfl (mG (dv 1)) (fun _ _ _ => (bC (i := 0) (show List.Nodup (["_law_kind", "_law_d", "_law_lean"] : List Str) by decide +kernel) rfl (Or.inl rfl))) (fun _ _ _ => iq) (fun _ _ _ => (Aa (ah fR (hr.mono (by decide)) rfl T.pV T.pS T.pX (aa (dv 1) (aa (ah dq (hr.mono (by decide)) rfl T.gp T.gu T.gz (aa (dv 1) (aa (dv 0) ag))) (aa (dv 2) ag)))))) rfl (by decide +kernel) rfl (by decide +kernel) (by intro _ _ h; first | exact h | exact cl1 h | exact cl2 (by decide +kernel) h | exact cl3 (by decide +kernel) h | exact cl_of (cl_c rfl cl_n) _ _ h | exact cl_of (cl_c rfl (cl_c rfl cl_n)) _ _ h | exact cl_of (cl_c rfl (cl_c rfl (cl_c rfl cl_n))) _ _ h | cases h) (mz rfl) rfl (j0 ⟨xk, ⟨xk, trivial⟩⟩)) ag)))) aY)
    (av (aE (Ny rfl rfl T.Pz (aa (pO (N' := ["_law_kind", "_law_d", "_law_lean"]) (cap := [none, some 0, some 4]) rfl (mG (dv 1)) (fun _ _ _ => (bC (i := 0) (show List.Nodup (["_law_kind", "_law_d", "_law_lean"] : List Str) by decide +kernel) rfl (Or.inl rfl))) (fun _ _ _ => iq) (fun _ _ _ => (Aa (ah fR (hr.mono (by decide)) rfl T.pV T.pS T.pX (aa (dv 1) (aa (dv 2) (aa (ah dq (hr.mono (by decide)) rfl T.gp T.gu T.gz (aa (dv 1) (aa (dv 0) ag))) ag)))))) rfl (by decide +kernel) rfl (by decide +kernel) (by intro _ _ h; first | exact h | exact cl1 h | exact cl2 (by decide +kernel) h | exact cl3 (by decide +kernel) h | exact cl_of (cl_c rfl cl_n) _ _ h | exact cl_of (cl_c rfl (cl_c rfl cl_n)) _ _ h | exact cl_of (cl_c rfl (cl_c rfl (cl_c rfl cl_n))) _ _ h | cases h) (mz rfl) rfl (j0 ⟨xk, ⟨xk, trivial⟩⟩)) ag))))))))), fun ds μ Qd h => ym h⟩)
theorem xb : aI ["d", "thing"] ["d", "thing"] (aC eM) := ⟨rfl, rfl, rfl, by decide +kernel, rfl, by decide +kernel, by decide +kernel⟩
theorem xw (T : TX e) (vd : xY e) : jQ e := by
  have S := xb
  exact T.yM.okD S (fun ds μ Q h => yE h) (fun cdv A outer s H E hr => ⟨jT, (av (bX (dc (cG (ah vd (hr.mono (by decide)) rfl T.He T.HD T.G9 (aa (dv 0) (aa (dv 1) ag))))) (av vT) aY)), fun ds μ Qd h => xT h⟩)
theorem xx : aI ["d", "shape", "together"] ["d", "shape"] (aC eN) := ⟨rfl, rfl, rfl, by decide +kernel, rfl, by decide +kernel, by decide +kernel⟩
theorem w8 (T : TX e) (bG : dz e) (xG : Di e) (gE : vU e) (iZ : wt e) (dJ : n6 e) : oP e := by
  have S := xx
  exact T.yH.okD S (fun ds μ Q h => FW h) (fun cdv A outer s H E hr => ⟨j5, (aj (kj (ah bG (hr.mono (by decide)) rfl T.dI T.dG T.dS (aa (dv 0) (aa (dv 1) ag))))
    (aj (aM (i := 2) S.nd rfl (Or.inl rfl) (ah xG (hr.mono (by decide)) rfl T.Nj T.L6 T.Nt (aa (dv 1) (aa (ah gE (hr.mono (by decide)) rfl T.qj T.qc T.qo (aa (dv 1) ag)) ag))))
    (av (aE (ah iZ (hr.mono (by decide)) rfl T.uZ T.uN T.um (aa (dv 0) (aa (ah dJ (hr.mono (by decide)) rfl T.ly T.kW T.ll (aa (dv 0) (aa (dv 2) (aa (dv 2) ag)))) (aa (ah dJ (hr.mono (by decide)) rfl T.ly T.kW T.ll (aa (dv 0) (aa (dv 1) (aa (ah gE (hr.mono (by decide)) rfl T.qj T.qc T.qo (aa (dv 1) ag)) ag)))) ag)))))))), fun ds μ Qd h => xq h⟩)
theorem CA : aI ["d", "first", "second", "shape", "whole", "part", "of_second", "of_first"] ["d", "first", "second", "shape"] (aC i6) := ⟨rfl, rfl, rfl, by decide +kernel, rfl, by decide +kernel, by decide +kernel⟩
theorem Em (T : TX e) (iZ : wt e) (eo : lM e) (xJ : C9 e) (dJ : n6 e) : qp e := by
  have S := CA
  exact T.FG.okD S (fun ds μ Q h => Ez h) (fun cdv A outer s H E hr => ⟨qv, (aj (aM (i := 4) S.nd rfl (Or.inl rfl) (ah iZ (hr.mono (by decide)) rfl T.uZ T.uN T.um (aa (dv 0) (aa (dv 3) (aa (dv 1) ag)))))
    (aj (aM (i := 5) S.nd rfl (Or.inl rfl) (ah iZ (hr.mono (by decide)) rfl T.uZ T.uN T.um (aa (dv 0) (aa (dv 2) (aa (dv 1) ag)))))
    (aj (aM (i := 6) S.nd rfl (Or.inl rfl) (ah eo (hr.mono (by decide)) rfl T.rE T.rZ T.sr (aa (bB (ax (dv 4) ae (fun _ _ => rfl)) (ax (dv 5) ae (fun _ _ => rfl))) (aa ae (aa (bB (ax (dv 4) ae (fun _ _ => rfl)) (ax (dv 5) ae (fun _ _ => rfl))) ag)))))
    (aj (aM (i := 7) S.nd rfl (Or.inl rfl) (ah xJ (hr.mono (by decide)) rfl T.MH T.Lr T.My (aa (dv 4) (aa (ah dJ (hr.mono (by decide)) rfl T.ly T.kW T.ll (aa (dv 0) (aa (dv 6) (aa (dv 5) ag)))) ag))))
    (av (aE (bR (aa (dv 7) (aa (dv 6) ag))))))))), fun ds μ Qd h => EE h⟩)
theorem HH : aI ["d", "kind", "shape", "way", "own", "floor", "turn", "last", "both"] ["d", "kind", "shape"] (aC lI) := ⟨rfl, rfl, rfl, by decide +kernel, rfl, by decide +kernel, by decide +kernel⟩
theorem Iv (T : TX e) (dA : mB e) (gE : vU e) (EI : JA e) (iZ : wt e) (dJ : n6 e) : zd e := by
  have S := HH
  exact T.KI.okD S (fun ds μ Q h => Ee h) (fun cdv A outer s H E hr => ⟨ve, (aj (aM (i := 3) S.nd rfl (Or.inl rfl) (ah dA (hr.mono (by decide)) rfl T.lJ T.lK T.lO (aa (dv 0) (aa (ah gE (hr.mono (by decide)) rfl T.qj T.qc T.qo (aa (dv 1) ag)) ag))))
    (aj (bX (aV (iW hr.units) bW (ah dA (hr.mono (by decide)) rfl T.lJ T.lK T.lO (aa (dv 0) (aa (ah gE (hr.mono (by decide)) rfl T.qj T.qc T.qo (aa (dv 2) ag)) ag))) (dv 3) (aH _)) (av (aE (bR (aa (ir rfl T.LS) (aa (bR (aa (ir rfl T.mx) (aa (ir rfl T.mx) (aa (ir rfl T.mx) (aa (bR (aa (dv 3) (aa ae (aa ae ag)))) ag))))) ag))))) aY)
    (aj (aM (i := 4) S.nd rfl (Or.inl rfl) (ah EI (hr.mono (by decide)) rfl T.LQ T.Mx T.Lo (aa (dv 1) (aa (dv 3) ag))))
    (aj (aM (i := 5) S.nd rfl (Or.inl rfl) (ah EI (hr.mono (by decide)) rfl T.LQ T.Mx T.Lo (aa (dv 2) (aa (dv 3) ag))))
    (aj (aM (i := 6) S.nd rfl (Or.inl rfl) (ah dA (hr.mono (by decide)) rfl T.lJ T.lK T.lO (aa (dv 0) (aa (dv 5) ag))))
    (aj (aM (i := 7) S.nd rfl (Or.inl rfl) (ah iZ (hr.mono (by decide)) rfl T.uZ T.uN T.um (aa (dv 0) (aa (ah dJ (hr.mono (by decide)) rfl T.ly T.kW T.ll (aa (dv 0) (aa (bR (aa (dv 6) (aa ae (aa ae ag)))) (aa (dv 5) ag)))) (aa (ah gE (hr.mono (by decide)) rfl T.qj T.qc T.qo (aa (dv 2) ag)) ag)))))
    (aj (aM (i := 8) S.nd rfl (Or.inl rfl) (ah iZ (hr.mono (by decide)) rfl T.uZ T.uN T.um (aa (dv 0) (aa (ah dJ (hr.mono (by decide)) rfl T.ly T.kW T.ll (aa (dv 0) (aa (dv 4) (aa (dv 4) ag)))) (aa (ah dJ (hr.mono (by decide)) rfl T.ly T.kW T.ll (aa (dv 0) (aa (bR (aa ae (aa ae (aa ae ag)))) (aa (ah dJ (hr.mono (by decide)) rfl T.ly T.kW T.ll (aa (dv 0) (aa (dv 1) (aa (ah gE (hr.mono (by decide)) rfl T.qj T.qc T.qo (aa (dv 1) ag)) ag)))) ag)))) ag)))))
    (av (aE (bR (aa (ir rfl T.LS) (aa (bR (aa (ah iZ (hr.mono (by decide)) rfl T.uZ T.uN T.um (aa (dv 0) (aa (dv 8) (aa (dv 7) ag)))) (aa (bR (aa (bB (dv 3) (dv 6)) (aa ae (aa ae ag)))) (aa (bR (aa (nL (dv 6)) (aa ae (aa ae ag)))) (aa (dv 7) ag))))) ag)))))))))))), fun ds μ Qd h => IQ h⟩)
theorem y8 : aI ["_law_d", "_law_kinds_here", "_law_shape_here", "_law_thing", "_law_kind", "_law_way"] ["_law_d", "_law_kinds_here", "_law_shape_here", "_law_thing"] (aC fV) := ⟨rfl, rfl, rfl, by decide +kernel, rfl, by decide +kernel, by decide +kernel⟩
theorem An (T : TX e) (gU : mS e) (bE : eS e) (aG : cj e) (fZ : jB e) (qw : ub e) (az : cN e) : sI e := by
  have S := y8
  exact T.AS.okD S (fun ds μ Q h => GW h) (fun cdv A outer s H E hr => ⟨me, (aj (bX (DW.dt (fS (dc (cG (jC (kit_tuple _) rfl T.cf rfl T.kc PyProof.Rows.Boot.«tuple» (dv 3)))) (fS (aV (iW hr.units) bW (fN rfl T.jb (aa (dv 3) ag)) ae (aH _)) (jg (dc (cG (ah gU (hr.mono (by decide)) rfl T.nV T.pe T.oI (aa (ax (dv 3) ae (fun _ _ => rfl)) ag)))))))) (av (aE kR)) aY)
    (aj (bX (DW.dt (fS (aV B4 d7 (ah bE (hr.mono (by decide)) rfl T.d5 T.d4 T.dY (aa (dv 0) (aa (ax (dv 3) ae (fun _ _ => rfl)) ag))) ae (aH _)) (fS (dc (cG (jC (kit_tuple _) rfl T.cf rfl T.kc PyProof.Rows.Boot.«tuple» (ax (dv 3) ae (fun _ _ => rfl))))) (jg (aV (iW hr.units) bW (fN rfl T.jb (aa (ax (dv 3) ae (fun _ _ => rfl)) ag)) ae (aH _)))))) (av (aE kR)) aY)
    (aj (bX (dc (cG (CM rfl rfl T.Jl (aa (pO (N' := ["_law_one"]) (cap := [none]) rfl (mG (ax (dv 3) ae (fun _ _ => rfl))) (fun _ _ _ => (bC (i := 0) (show List.Nodup (["_law_one"] : List Str) by decide +kernel) rfl (Or.inl rfl))) (fun _ _ _ => iq) (fun _ _ _ => (ah gU (hr.mono (by decide)) rfl T.nV T.pe T.oI (aa (dv 0) ag))) rfl (by decide +kernel) rfl (by decide +kernel) (by intro _ _ h; first | exact h | exact cl1 h | exact cl2 (by decide +kernel) h | exact cl3 (by decide +kernel) h | exact cl_of (cl_c rfl cl_n) _ _ h | exact cl_of (cl_c rfl (cl_c rfl cl_n)) _ _ h | exact cl_of (cl_c rfl (cl_c rfl (cl_c rfl cl_n))) _ _ h | cases h) (mz rfl) rfl (j0 trivial)) ag)))) (av (aE kR)) aY)
    (aj (lY PassesOwn.never rfl (mG (dv 1)) (bC (i := 4) S.nd rfl (Or.inl rfl)) (av (lY PassesOwn.never rfl (yW (ib (aa (dv 4) (aa (ah aG (hr.mono (by decide)) rfl T.cE T.cB T.cC (aa (dv 0) (aa (dv 4) ag))) ag)))) (bC (i := 5) S.nd rfl (Or.inl rfl)) (av (bX (dc (cG (ah fZ (hr.mono (by decide)) rfl T.qR T.qO T.qU (aa (dv 0) (aa (ax (dv 3) ae (fun _ _ => rfl)) (aa (dv 5) ag)))))) (av (aE kR)) aY)))))
    (av (aE (fP mX d7 (ah bE (hr.mono (by decide)) rfl T.d5 T.d4 T.dY (aa (dv 0) (aa (ah qw (hr.mono (by decide)) rfl T.DN T.Ea T.CQ (aa (dv 0) (aa (ax (dv 3) ae (fun _ _ => rfl)) (aa (ax (dv 3) ae (fun _ _ => rfl)) (aa (ah az (hr.mono (by decide)) rfl T.aR T.aP T.aQ (aa (dv 0) (aa (dv 2) (aa (ax (dv 3) ae (fun _ _ => rfl)) ag)))) ag))))) ag))) ae (aH _)))))))), fun ds μ Qd h => AF h⟩)
theorem BJ : aI ["d", "kind", "shape", "shares"] ["d", "kind", "shape"] (aC hJ) := ⟨rfl, rfl, rfl, by decide +kernel, rfl, by decide +kernel, by decide +kernel⟩
theorem A2 (T : TX e) (bG : dz e) (dJ : n6 e) (iZ : wt e) (i9 : qp e) (cZ : kn e) (uS : x9 e) (xE : zd e) : tV e := by
  have S := BJ
  exact T.EH.okD S (fun ds μ Q h => BS h) (fun cdv A outer s H E hr => ⟨nP, (aj (kj (ah bG (hr.mono (by decide)) rfl T.dI T.dG T.dS (aa (dv 0) (aa (dv 1) ag))))
    (aj (kj (ah bG (hr.mono (by decide)) rfl T.dI T.dG T.dS (aa (dv 0) (aa (dv 2) ag))))
    (aj (bX (aV (dj hr.units) bW (ax (ah dJ (hr.mono (by decide)) rfl T.ly T.kW T.ll (aa (dv 0) (aa (dv 1) (aa (dv 1) ag)))) ae (fun _ _ => rfl)) ae (aH _)) (av (aM (i := 3) S.nd rfl (Or.inl rfl) (bR (aa (ah iZ (hr.mono (by decide)) rfl T.uZ T.uN T.um (aa (dv 0) (aa (dv 2) (aa (dv 1) ag)))) (aa (ir rfl T.mx) ag))))) (av (aM (i := 3) S.nd rfl (Or.inl rfl) (ah i9 (hr.mono (by decide)) rfl T.yf T.xV T.x6 (aa (dv 0) (aa (dv 1) (aa (ah cZ (hr.mono (by decide)) rfl T.lU T.mw T.mf (aa (dv 0) (aa (dv 1) ag))) (aa (dv 2) ag))))))))
    (aj (bX (cG (CM rfl rfl T.Jl (aa (pO (N' := ["share", "d"]) (cap := [none, some 0]) rfl (mG (dv 3)) (fun _ _ _ => (bC (i := 0) (show List.Nodup (["share", "d"] : List Str) by decide +kernel) rfl (Or.inl rfl))) (fun _ _ _ => iq) (fun _ _ _ => (ah uS (hr.mono (by decide)) rfl T.Ia T.Hl T.IU (aa (dv 1) (aa (dv 0) ag)))) rfl (by decide +kernel) rfl (by decide +kernel) (by intro _ _ h; first | exact h | exact cl1 h | exact cl2 (by decide +kernel) h | exact cl3 (by decide +kernel) h | exact cl_of (cl_c rfl cl_n) _ _ h | exact cl_of (cl_c rfl (cl_c rfl cl_n)) _ _ h | exact cl_of (cl_c rfl (cl_c rfl (cl_c rfl cl_n))) _ _ h | cases h) (mz rfl) rfl (j0 ⟨xk, trivial⟩)) ag))) (av (aE (bR (aa di (aa (ax (dv 3) ae (fun _ _ => rfl)) (aa (ax (dv 3) ae (fun _ _ => rfl)) ag)))))) aY)
    (av (aE (bR (aa di (aa (ah xE (hr.mono (by decide)) rfl T.KY T.KU T.Kj (aa (dv 0) (aa (dv 1) (aa (dv 2) ag)))) ag))))))))), fun ds μ Qd h => AW h⟩)
theorem BC : aI ["d", "kind", "other", "a", "b", "c", "other_a", "other_b", "other_c"] ["d", "kind", "other"] (aC gW) := ⟨rfl, rfl, rfl, by decide +kernel, rfl, by decide +kernel, by decide +kernel⟩
theorem Bt (T : TX e) (iu : oP e) : uf e := by
  have S := BC
  exact T.Cw.okD S (fun ds μ Q h => Hf h) (fun cdv A outer s H E hr => ⟨nj, (aj (nM (ah iu (hr.mono (by decide)) rfl T.qJ T.qE T.qC (aa (dv 0) (aa (dv 1) ag))) (rm (n := 3) rfl (cg (bC (i := 3) S.nd rfl (Or.inl rfl)) (cg (bC (i := 4) S.nd rfl (Or.inl rfl)) (cg (bC (i := 5) S.nd rfl (Or.inl rfl)) mJ)))))
    (aj (nM (ah iu (hr.mono (by decide)) rfl T.qJ T.qE T.qC (aa (dv 0) (aa (dv 2) ag))) (rm (n := 3) rfl (cg (bC (i := 6) S.nd rfl (Or.inl rfl)) (cg (bC (i := 7) S.nd rfl (Or.inl rfl)) (cg (bC (i := 8) S.nd rfl (Or.inl rfl)) mJ)))))
    (av (aE (fP hV d7 (bB (vc rfl T.Aj (aa (dv 3) ag)) (dv 8)) (bB (vc rfl T.Aj (aa (dv 6) ag)) (dv 5)) (aH _)))))), fun ds μ Qd h => Br h⟩)
theorem yK : aI ["d", "kinds", "shape", "signs", "first", "first_plan", "second", "second_plan", "is_contrary", "u", "v", "plan"] ["d", "kinds", "shape"] (aC fz) := ⟨rfl, rfl, rfl, by decide +kernel, rfl, by decide +kernel, by decide +kernel⟩
theorem yD (T : TX e) (gY : nD e) (fm : kz e) (dh : ia e) (i9 : qp e) (cZ : kn e) (ej : jq e) : qG e := by
  have S := yK
  exact T.zP.okD S (fun ds μ Q h => G0 h) (fun cdv A outer s H E hr => ⟨kE, (aj (aM (i := 3) S.nd rfl (Or.inl rfl) (ah gY (hr.mono (by decide)) rfl T.vo T.wG T.wg (aa (dv 0) (aa (dv 1) ag))))
    (aj (nM (ah fm (hr.mono (by decide)) rfl T.kN T.kQ T.kS (aa (dv 0) (aa (dv 1) (aa (Gg (dv 3) ae) ag)))) (rm (n := 2) rfl (cg (bC (i := 4) S.nd rfl (Or.inl rfl)) (cg (bC (i := 5) S.nd rfl (Or.inl rfl)) mJ))))
    (aj (nM (ah fm (hr.mono (by decide)) rfl T.kN T.kQ T.kS (aa (dv 0) (aa (dv 1) (aa (Gg (dv 3) (nL ae)) ag)))) (rm (n := 2) rfl (cg (bC (i := 6) S.nd rfl (Or.inl rfl)) (cg (bC (i := 7) S.nd rfl (Or.inl rfl)) mJ))))
    (aj (aM (i := 8) S.nd rfl (Or.inl rfl) (ah dh (hr.mono (by decide)) rfl T.mE T.mj T.mi (aa (dv 2) ag)))
    (aj (nM (ah i9 (hr.mono (by decide)) rfl T.yf T.xV T.x6 (aa (dv 0) (aa (dv 4) (aa (dv 6) (aa (oH (cG (dv 8)) (ah cZ (hr.mono (by decide)) rfl T.lU T.mw T.mf (aa (dv 0) (aa (dv 2) ag))) (dv 2)) ag))))) (rm (n := 2) rfl (cg (bC (i := 9) S.nd rfl (Or.inl rfl)) (cg (bC (i := 10) S.nd rfl (Or.inl rfl)) mJ))))
    (aj (aM (i := 11) S.nd rfl (Or.inl rfl) (ah ej (hr.mono (by decide)) rfl T.oJ T.oG T.oE (aa (dv 9) (aa (dv 5) (aa (dv 10) (aa (dv 7) ag))))))
    (av (aE (oH (cG (dv 8)) (bR (aa di (aa (dv 11) ag))) (dv 11)))))))))), fun ds μ Qd h => yu h⟩)
theorem yA : aI ["_law_many", "_law_thing", "_law_deep", "_law_inner", "_law_parts", "_law_counts"] ["_law_many", "_law_thing", "_law_deep"] (aC fG) := ⟨rfl, rfl, rfl, by decide +kernel, rfl, by decide +kernel, by decide +kernel⟩
theorem vp : bS e.P e.w e.K e.mg e.base CX0 2 e.t.dn e.t.el ["_law_many", "_law_thing", "_law_deep"] (spD e.K (fw 0)) :=
  ⟨fun vs H Q E h => by obtain ⟨ds, μ, Qd, _, r, z, _⟩ := h; exact (Ap z).elim, fun A outer s H args us vs Q E hr e0 hb hv h => by obtain ⟨ds, μ, Qd, _, r, z, _⟩ := h; exact (Ap z).elim⟩
theorem eY (T : TX e) (n k : Nat) (hk : 2 ≤ k) (bK : gK e) (fD : bS e.P e.w e.K e.mg e.base CX0 k e.t.dn e.t.el ["_law_many", "_law_thing", "_law_deep"] (spD e.K (fw n))) : bS e.P e.w e.K e.mg e.base CX0 (k + 1) e.t.dn e.t.el ["_law_many", "_law_thing", "_law_deep"] (spD e.K (fw (n + 1))) := by
  have S := yA
  exact T.zL.okD S (fun ds μ Q h => BI h) (fun cdv A outer s H E hr => ⟨kJ n, (aj (bX (DW.dt (fS (dc (cG (jC (kit_tuple _) rfl T.cf rfl T.kc PyProof.Rows.Boot.«tuple» (dv 1)))) (fS (aV mX d7 (fN rfl T.jb (aa (dv 1) ag)) ae (aH _)) (fS (dc (cG (jC (Oj _) rfl T.cf rfl T.R0 PyProof.Rows.Boot.«str» (ax (dv 1) ae (fun _ _ => rfl))))) (jg (aV (dj hr.units) bW (dv 2) ae (aH _))))))) (av (aE ae)) aY)
    (aj (bX (aV (dj hr.units) bW (ax (dv 1) ae (fun _ _ => rfl)) di (aH _)) (av (aE (oK rfl T.xX (aa (pC (fP (dj hr.units) bW (fN rfl T.jb (aa (dv 1) ag)) ae (aH _)) (pC (ah bK (hr.mono (by omega)) rfl T.iB T.iI T.iE (aa (ax (dv 1) ae (fun _ _ => rfl)) ag)) (rq (Mr B4 d7 mX d7 ae (ax (dv 1) ae (fun _ _ => rfl)) (dv 0))))) ag)))) aY)
    (aj (bX (aV (dj hr.units) bW (ax (dv 1) ae (fun _ _ => rfl)) di (aH _)) (aj (bX (DW.dt (fS (aV (iW hr.units) bW (fN rfl T.jb (aa (dv 1) ag)) ae (aH _)) (fS (dc (cG (ah bK (hr.mono (by omega)) rfl T.iB T.iI T.iE (aa (ax (dv 1) ae (fun _ _ => rfl)) ag)))) (jg (dc (cG (ah bK (hr.mono (by omega)) rfl T.iB T.iI T.iE (aa (ax (dv 1) ae (fun _ _ => rfl)) ag)))))))) (av (aE ae)) aY)
    (aj (aM (i := 3) S.nd rfl (Or.inl rfl) (ah fD (hr.mono (by omega)) rfl T.md T.mr T.mn (aa (dv 0) (aa (ax (dv 1) ae (fun _ _ => rfl)) (aa (gy (dv 2) ae) ag)))))
    (av (aE (oH (DW.dt (pP (aV hV d7 (dv 3) ae (aH _)) (pP (aV hV d7 (ax (dv 1) ae (fun _ _ => rfl)) ae (aH _)) (pP (aV hV d7 (ax (dv 1) ae (fun _ _ => rfl)) ae (aH _)) (pR (aV mX d7 (dv 3) ae (aH _))))))) (eD (dv 3) ae) ae))))) aY)
    (aj (aM (i := 4) S.nd rfl (Or.inl rfl) (oH (aV (dj hr.units) bW (ax (dv 1) ae (fun _ _ => rfl)) di (aH _)) (Az (dv 1) (Du ae) CP) (ax (dv 1) ae (fun _ _ => rfl))))
    (aj (bX (DW.dt (fS (aV (xB hr.units) ze (ax (dv 1) ae (fun _ _ => rfl)) (ib (aa di (aa di (aa di ag)))) (by with_unfolding_all rfl)) (fS (aV (iW hr.units) bW (fN rfl T.jb (aa (dv 1) ag)) ae (aH _)) (jg (dc (cG (jC (kit_tuple _) rfl T.cf rfl T.kc PyProof.Rows.Boot.«tuple» (dv 4)))))))) (av (aE ae)) aY)
    (aj (bX (DW.dt (pP (aV (iW hr.units) bW (ax (dv 1) ae (fun _ _ => rfl)) di (aH _)) (pR (dc (L7 B4 d7 B4 d7 ae (fN rfl T.jb (aa (dv 4) ag)) ae))))) (av (aE ae)) aY)
    (aj (yU (i := 5) (N' := ["_law_part", "_law_many", "_law_deep"]) (cap := [none, some 0, some 2]) S.nd rfl rfl rfl (mG (dv 4)) (fun _ _ _ => (bC (i := 0) (show List.Nodup (["_law_part", "_law_many", "_law_deep"] : List Str) by decide +kernel) rfl (Or.inl rfl))) (fun _ _ _ => iq) (fun _ _ _ => (ah fD (hr.mono (by omega)) rfl T.md T.mr T.mn (aa (dv 1) (aa (dv 0) (aa (gy (dv 2) ae) ag))))) rfl (by decide +kernel) rfl (by decide +kernel) (by intro _ _ h; first | exact h | exact cl1 h | exact cl2 (by decide +kernel) h | exact cl3 (by decide +kernel) h | exact cl_of (cl_c rfl cl_n) _ _ h | exact cl_of (cl_c rfl (cl_c rfl cl_n)) _ _ h | exact cl_of (cl_c rfl (cl_c rfl (cl_c rfl cl_n))) _ _ h | cases h) (mz rfl) rfl (j0 ⟨xk, ⟨xk, trivial⟩⟩))
    (av (aE (oH (DW.dt (pP (aV (xB hr.units) ze ae (dv 5) (by with_unfolding_all rfl)) (pR (aV mX d7 (LD rfl rfl T.Pk (aa (dv 5) ag)) ae (aH _))))) (eD (LD rfl rfl T.Pk (aa (dv 5) ag)) ae) ae)))))))))), fun ds μ Qd h => yt n h⟩)
theorem yw (T : TX e) (bK : gK e) : bS e.P e.w e.K e.mg e.base CX0 7 e.t.dn e.t.el ["_law_many", "_law_thing", "_law_deep"] (spD e.K (fw 5)) := (eY T 4 6 (by decide) bK (eY T 3 5 (by decide) bK (eY T 2 4 (by decide) bK (eY T 1 3 (by decide) bK (eY T 0 2 (by decide) bK vp)))))
theorem tM : aI ["_law_d", "_law_kinds_here", "_law_shape_here", "_law_told"] ["_law_d", "_law_kinds_here", "_law_shape_here", "_law_told"] (aC dg) := ⟨rfl, rfl, rfl, by decide +kernel, rfl, by decide +kernel, by decide +kernel⟩
theorem tJ (T : TX e) (nS : sI e) : kP e := by
  have S := tM
  exact T.uQ.okD S (fun ds μ Q h => zo h) (fun cdv A outer s H E hr => ⟨ij, (aj (bX (DW.dt (fS (dc (cG (jC (kit_tuple _) rfl T.cf rfl T.kc PyProof.Rows.Boot.«tuple» (dv 3)))) (fS (aV (iW hr.units) bW (fN rfl T.jb (aa (dv 3) ag)) ae (aH _)) (jg (aV (iW hr.units) bW (ax (dv 3) ae (fun _ _ => rfl)) di (aH _)))))) (av (aE kR)) aY)
    (av (aE (ah nS (hr.mono (by decide)) rfl T.Bp T.BH T.BU (aa (dv 0) (aa (dv 1) (aa (dv 2) (aa (ax (dv 3) ae (fun _ _ => rfl)) ag)))))))), fun ds μ Qd h => tT h⟩)
theorem BD : aI ["d", "kinds", "signs", "most", "place"] ["d", "kinds"] (aC gJ) := ⟨rfl, rfl, rfl, by decide +kernel, rfl, by decide +kernel, by decide +kernel⟩
theorem A7 (T : TX e) (eI : jQ e) (gY : nD e) (pI : uf e) : uc e := by
  have S := BD
  exact T.Dt.okD S (fun ds μ Q h => IF h) (fun cdv A outer s H E hr => ⟨nv, (aj (kj (ah eI (hr.mono (by decide)) rfl T.qI T.qL T.qK (aa (dv 0) (aa (dv 1) ag))))
    (aj (aM (i := 2) S.nd rfl (Or.inl rfl) (ah gY (hr.mono (by decide)) rfl T.vo T.wG T.wg (aa (dv 0) (aa (dv 1) ag))))
    (aj (bX (DW.dt (pP (aV (Ng hr.units) ze ae (dv 2) (by with_unfolding_all rfl)) (pR (aV (Ng hr.units) ze (nL ae) (dv 2) (by with_unfolding_all rfl))))) (av (aE MU)) aY)
    (aj (aM (i := 3) S.nd rfl (Or.inl rfl) ae)
    (aj (lY PassesOwn.never rfl (Jk rfl T.pU (aa ae (aa (fN rfl T.jb (aa (dv 1) ag)) ag))) (bC (i := 4) S.nd rfl (Or.inl rfl)) (av (bX (cG (ah pI (hr.mono (by decide)) rfl T.Dr T.EU T.CN (aa (dv 0) (aa (ax (dv 1) (dv 4) (fun _ _ => rfl)) (aa (ax (dv 1) (dv 3) (fun _ _ => rfl)) ag))))) (av (aM (i := 3) S.nd rfl (Or.inl rfl) (dv 4))) aY)))
    (av (aE (dv 3)))))))), fun ds μ Qd h => Bz h⟩)
theorem D8 : aI ["d", "kinds", "shape", "place", "told"] ["d", "kinds", "shape"] (aC jc) := ⟨rfl, rfl, rfl, by decide +kernel, rfl, by decide +kernel, by decide +kernel⟩
theorem Ds (T : TX e) (eI : jQ e) (bG : dz e) (pB : uc e) (my : qG e) (ph : tV e) (ji : mC e) : wF e := by
  have S := D8
  exact T.Fs.okD S (fun ds μ Q h => Hw h) (fun cdv A outer s H E hr => ⟨pj, (aj (kj (ah eI (hr.mono (by decide)) rfl T.qI T.qL T.qK (aa (dv 0) (aa (dv 1) ag))))
    (aj (kj (ah bG (hr.mono (by decide)) rfl T.dI T.dG T.dS (aa (dv 0) (aa (dv 2) ag))))
    (aj (aM (i := 3) S.nd rfl (Or.inl rfl) (ah pB (hr.mono (by decide)) rfl T.CZ T.CV T.CF (aa (dv 0) (aa (dv 1) ag))))
    (aj (bX (aV OO Qq (dv 3) MU (aH _)) (av (aE (bR (aa di (aa (ah my (hr.mono (by decide)) rfl T.zW T.zI T.zh (aa (dv 0) (aa (dv 1) (aa (dv 2) ag)))) ag))))) aY)
    (aj (aM (i := 4) S.nd rfl (Or.inl rfl) (ah ph (hr.mono (by decide)) rfl T.Dh T.Dn T.CH (aa (dv 0) (aa (ax (dv 1) (dv 3) (fun _ _ => rfl)) (aa (dv 2) ag)))))
    (aj (bX (aV (dj hr.units) bW (ax (dv 4) ae (fun _ _ => rfl)) di (aH _)) (av (aE (dv 4))) aY)
    (av (aE (bR (aa di (aa (ah ji (hr.mono (by decide)) rfl T.vZ T.vm T.wK (aa (ax (dv 4) ae (fun _ _ => rfl)) (aa (ax (dv 4) ae (fun _ _ => rfl)) (aa (dv 3) ag)))) ag))))))))))), fun ds μ Qd h => CS h⟩)
theorem uF : aI ["_law_d", "_law_kinds_here", "_law_plan", "_law_found", "_law_part", "_law_shape_here"] ["_law_d", "_law_kinds_here", "_law_plan"] (aC dw) := ⟨rfl, rfl, rfl, by decide +kernel, rfl, by decide +kernel, by decide +kernel⟩
theorem rM : bS e.P e.w e.K e.mg e.base CX0 4 e.t.cu e.t.cS ["_law_d", "_law_kinds_here", "_law_plan"] (spD e.K (fU 0)) :=
  ⟨fun vs H Q E h => by obtain ⟨ds, μ, Qd, _, r, z, _⟩ := h; exact (Cp z).elim, fun A outer s H args us vs Q E hr e0 hb hv h => by obtain ⟨ds, μ, Qd, _, r, z, _⟩ := h; exact (Cp z).elim⟩
theorem dk (T : TX e) (n k : Nat) (hk : 4 ≤ k) (aG : cj e) (az : cN e) (bj : dW e) (aS : dH e) (cO : bS e.P e.w e.K e.mg e.base CX0 k e.t.cu e.t.cS ["_law_d", "_law_kinds_here", "_law_plan"] (spD e.K (fU n))) : bS e.P e.w e.K e.mg e.base CX0 (k + 1) e.t.cu e.t.cS ["_law_d", "_law_kinds_here", "_law_plan"] (spD e.K (fU (n + 1))) := by
  have S := uF
  exact T.vh.okD S (fun ds μ Q h => Ed h) (fun cdv A outer s H E hr => ⟨iQ n, (aj (bX (aV (dj hr.units) bW (ax (dv 2) ae (fun _ _ => rfl)) di (aH _)) (av (aE (ax (dv 1) (ax (dv 2) ae (fun _ _ => rfl)) (fun _ _ => rfl)))) aY)
    (aj (bX (aV (dj hr.units) bW (ax (dv 2) ae (fun _ _ => rfl)) di (aH _)) (av (aE (ah aG (hr.mono (by omega)) rfl T.cE T.cB T.cC (aa (dv 0) (aa (ah cO (hr.mono (by omega)) rfl T.gm T.gi T.gn (aa (dv 0) (aa (dv 1) (aa (ax (dv 2) ae (fun _ _ => rfl)) ag)))) ag))))) aY)
    (aj (bX (aV (dj hr.units) bW (ax (dv 2) ae (fun _ _ => rfl)) di (aH _)) (av (aE (ah az (hr.mono (by omega)) rfl T.aR T.aP T.aQ (aa (dv 0) (aa (ah bj (hr.mono (by omega)) rfl T.gx T.gA T.gq (aa (ax (dv 2) ae (fun _ _ => rfl)) (aa ae (aa (ax (dv 2) ae (fun _ _ => rfl)) ag)))) (aa (ah cO (hr.mono (by omega)) rfl T.gm T.gi T.gn (aa (dv 0) (aa (dv 1) (aa (ax (dv 2) ae (fun _ _ => rfl)) ag)))) ag)))))) aY)
    (aj (aM (i := 3) S.nd rfl (Or.inl rfl) (bR (aa ae (aa ae (aa ae ag)))))
    (aj (lY PassesOwn.never rfl (mG (ax (dv 2) ae (fun _ _ => rfl))) (bC (i := 4) S.nd rfl (Or.inl rfl)) (aj (aM (i := 5) S.nd rfl (Or.inl rfl) (ah cO (hr.mono (by omega)) rfl T.gm T.gi T.gn (aa (dv 0) (aa (dv 1) (aa (dv 4) ag)))))
    (av (aM (i := 3) S.nd rfl (Or.inl rfl) (ah aS (hr.mono (by omega)) rfl T.cI T.cJ T.cK (aa (dv 3) (aa (oH (aV (dj hr.units) bW (ax (dv 2) ae (fun _ _ => rfl)) di (aH _)) (dv 5) (ah aG (hr.mono (by omega)) rfl T.cE T.cB T.cC (aa (dv 0) (aa (dv 5) ag)))) ag)))))))
    (av (aE (oH (aV (dj hr.units) bW (ax (dv 2) ae (fun _ _ => rfl)) di (aH _)) (dv 3) (ah aG (hr.mono (by omega)) rfl T.cE T.cB T.cC (aa (dv 0) (aa (dv 3) ag))))))))))), fun ds μ Qd h => uj n h⟩)
theorem uT (T : TX e) (aG : cj e) (az : cN e) (bj : dW e) (aS : dH e) : bS e.P e.w e.K e.mg e.base CX0 9 e.t.cu e.t.cS ["_law_d", "_law_kinds_here", "_law_plan"] (spD e.K (fU 5)) := (dk T 4 8 (by decide) aG az bj aS (dk T 3 7 (by decide) aG az bj aS (dk T 2 6 (by decide) aG az bj aS (dk T 1 5 (by decide) aG az bj aS (dk T 0 4 (by decide) aG az bj aS rM)))))
theorem yJ : aI ["_law_d", "_law_kinds_here", "_law_shape_here", "_law_told"] ["_law_d", "_law_kinds_here", "_law_shape_here"] (aC fF) := ⟨rfl, rfl, rfl, by decide +kernel, rfl, by decide +kernel, by decide +kernel⟩
theorem yq (T : TX e) (rJ : wF e) (lS : qF e) (iR : kP e) (fD : yv e) (cO : uV e) : qH e := by
  have S := yJ
  exact T.zk.okD S (fun ds μ Q h => DQ h) (fun cdv A outer s H E hr => ⟨kL, (aj (aM (i := 3) S.nd rfl (Or.inl rfl) (ah rJ (hr.mono (by decide)) rfl T.Fi T.GF T.Fw (aa (dv 0) (aa (dv 1) (aa (dv 2) ag)))))
    (aj (bX (dc (cG (ah lS (hr.mono (by decide)) rfl T.AI T.Aw T.zU (aa (dv 0) (aa (dv 1) (aa (dv 2) ag)))))) (av (aE (ah iR (hr.mono (by decide)) rfl T.uH T.uI T.uP (aa (dv 0) (aa (dv 1) (aa (dv 2) (aa (dv 3) ag))))))) aY)
    (aj (bX (DW.dt (fS (dc (cG (jC (kit_tuple _) rfl T.cf rfl T.kc PyProof.Rows.Boot.«tuple» (dv 3)))) (fS (aV (iW hr.units) bW (fN rfl T.jb (aa (dv 3) ag)) ae (aH _)) (jg (aV (iW hr.units) bW (ax (dv 3) ae (fun _ _ => rfl)) di (aH _)))))) (av (aE kR)) aY)
    (av (aE (pC (fP hV d7 (ah fD (hr.mono (by decide)) rfl T.md T.mr T.mn (aa (fN rfl T.jb (aa (dv 1) ag)) (aa (ax (dv 3) ae (fun _ _ => rfl)) (aa ae ag)))) ae (aH _)) (rq (fP (dj hr.units) bW (ah cO (hr.mono (by decide)) rfl T.gm T.gi T.gn (aa (dv 0) (aa (dv 1) (aa (ax (dv 3) ae (fun _ _ => rfl)) ag)))) (dv 2) (aH _))))))))), fun ds μ Qd h => yB h⟩)
theorem Qc : aI ["_law_script", "_law_k", "_law_bag_here", "_law_d", "_law_kinds_here", "_law_shapes", "_law_shape_here", "_law_kind", "_law_pair"] ["_law_script"] (aC uh) := ⟨rfl, rfl, rfl, by decide +kernel, rfl, by decide +kernel, by decide +kernel⟩
theorem PX (T : TX e) (uM : x5 e) (sN : vq e) (pT : tU e) (qu : tZ e) (fx : qH e) (rT : wa e) (aG : cj e) (iV : kO e) : ND e := by
  have S := Qc
  exact T.Sy.okD S (fun ds μ Q h => Kk h) (fun cdv A outer s H E hr => ⟨Iq, (aj (lY PassesOwn.never rfl (vA rfl T.pU (aa (QR rfl rfl T.Tc (aa ae (aa (Qe rfl rfl T.RL (aa ae (aa (fN rfl T.jb (aa (dv 0) ag)) ag))) ag))) ag)) (bC (i := 1) S.nd rfl (Or.inl rfl)) (aj (aM (i := 2) S.nd rfl (Or.inr rfl) (ah uM (hr.mono (by decide)) rfl T.Jc T.Ih T.G4 (aa (dv 0) (aa (dv 1) ag))))
    (aj (aM (i := 3) S.nd rfl (Or.inr rfl) (ah sN (hr.mono (by decide)) rfl T.Ff T.GB T.GN (aa (dv 2) ag)))
    (aj (aM (i := 4) S.nd rfl (Or.inr rfl) (ah pT (hr.mono (by decide)) rfl T.CG T.EK T.D4 (aa (dv 2) (aa (dv 3) ag))))
    (aj (yU (i := 5) (N' := ["_law_turn", "_law_bag_here", "_law_d", "_law_kinds_here"]) (cap := [none, some 2, some 3, some 4]) S.nd rfl rfl rfl (vA rfl T.pU (aa ae ag)) (fun _ _ _ => (bC (i := 0) (show List.Nodup (["_law_turn", "_law_bag_here", "_law_d", "_law_kinds_here"] : List Str) by decide +kernel) rfl (Or.inl rfl))) (fun _ _ _ => iq) (fun _ _ _ => (ah qu (hr.mono (by decide)) rfl T.Ew T.C8 T.Dm (aa (dv 1) (aa (dv 2) (aa (dv 3) ag))))) rfl (by decide +kernel) rfl (by decide +kernel) (by intro _ _ h; first | exact h | exact cl1 h | exact cl2 (by decide +kernel) h | exact cl3 (by decide +kernel) h | exact cl_of (cl_c rfl cl_n) _ _ h | exact cl_of (cl_c rfl (cl_c rfl cl_n)) _ _ h | exact cl_of (cl_c rfl (cl_c rfl (cl_c rfl cl_n))) _ _ h | cases h) (mz rfl) rfl (j0 ⟨xk, ⟨xk, ⟨xk, trivial⟩⟩⟩))
    (aj (lY PassesOwn.never rfl (yW (NW (dv 5) (Az (dv 5) CP (Du ae)))) (bC (i := 6) S.nd rfl (Or.inl rfl)) (av (bX (DW.dt (fS (dc (cG (ah fx (hr.mono (by decide)) rfl T.jz T.jr T.js (aa (dv 3) (aa (dv 4) (aa (dv 6) ag)))))) (jg (dc (cG (ah fx (hr.mono (by decide)) rfl T.jz T.jr T.js (aa (dv 3) (aa (Q3 (dv 4)) (aa (dv 6) ag))))))))) (av (aE kR)) aY)))
    (aj (aM (i := 7) S.nd rfl (Or.inl rfl) (ah rT (hr.mono (by decide)) rfl T.FF T.GL T.Fz (aa (dv 2) (aa (dv 3) ag))))
    (aj (aM (i := 8) S.nd rfl (Or.inl rfl) (bR (aa (ah aG (hr.mono (by decide)) rfl T.cE T.cB T.cC (aa (dv 3) (aa (ax (dv 4) ae (fun _ _ => rfl)) ag))) (aa (dv 7) ag))))
    (av (NY PassesOwn.never rfl (ah iV (hr.mono (by decide)) rfl T.uO T.uU T.uG (aa (dv 2) (aa (dv 3) (aa (dv 7) ag)))) (bC (i := 6) S.nd rfl (Or.inl rfl)) (av (bX (DW.dt (fS (dc (cG (ah fx (hr.mono (by decide)) rfl T.jz T.jr T.js (aa (dv 3) (aa (bR (aa (dv 7) ag)) (aa (dv 6) ag)))))) (jg (dc (cG (ah fx (hr.mono (by decide)) rfl T.jz T.jr T.js (aa (dv 3) (aa (dv 8) (aa (dv 6) ag))))))))) (av (aE kR)) aY))))))))))))
    (av (aE kR))), fun ds μ Qd h => Q5 h⟩)
theorem RH (T : TX e) : ND e := by
  have ma := Gf T
  have gL := wD T
  have gE := aD T
  have kF := xf T
  have hU := Bk T
  have dh := tL T
  have uM := Gu T
  have aN := Dq T
  have bK := wY T
  have dZ := y9 T
  have dU := BN T
  have bY := Ei T
  have bE := CD T
  have d9 := v5 T gL
  have dA := Hk T kF
  have ej := vK T hU
  have bj := Fb T dZ
  have gU := v7 T bK dZ
  have sN := CI T aN
  have rO := Eg T ma d9
  have eo := Kn T d9
  have uS := GD T dA
  have ji := uW T ej
  have gY := BQ T dA gE
  have aS := D1 T bj
  have az := Bm T bj
  have aG := wM T bj
  have nF := Af T aN bj
  have cU := xD T aN bj
  have rT := En T aN bj dU bE
  have xG := bM T eo
  have xJ := lH T eo
  have dJ := ai T eo
  have cZ := aB T eo
  have dr := uY T rO dA
  have fR := Bg T bE aS dU
  have fe := BF T nF bE aN dU
  have qw := BR T aS az bY
  have dq := qQ T aS bY az aG
  have iV := tR T cU aG az aS bE
  have iZ := O3 T dJ cZ
  have bG := n4 T dr
  have vd := FA T dr
  have EI := cA T xJ gE xG
  have fm := sf T dh cZ
  have pT := AQ T fe aN aG az bj
  have fZ := qq T az bY aS bE fR
  have qu := A5 T aN cU aG fe az aS
  have lS := yC T bE bY dq fR
  have eI := xw T vd
  have iu := w8 T bG xG gE iZ dJ
  have i9 := Em T iZ eo xJ dJ
  have xE := Iv T dA gE EI iZ dJ
  have nS := An T gU bE aG fZ qw az
  have ph := A2 T bG dJ iZ i9 cZ uS xE
  have pI := Bt T iu
  have my := yD T gY fm dh i9 cZ ej
  have fD := yw T bK
  have iR := tJ T nS
  have pB := A7 T eI gY pI
  have rJ := Ds T eI bG pB my ph ji
  have cO := uT T aG az bj aS
  have fx := yq T rJ lS iR fD cO
  exact PX T uM sN pT qu fx rT aG iV
end
theorem all_mk {l : PySem.W.OpenLaw} {w : World} {K : PySem.W.Frag} {h : Heap} {mg : Str → Option Value} {fa : Addr} (X : K.In h) (G : h.Ns mainGlobals mg) (hfa : mg "law" = some (.ref fa))
    {f0 c0 f1 c1 f2 c2 f3 c3 f4 c4 f5 c5 f6 c6 f7 c7 f8 c8 f9 c9 f10 c10 f11 c11 f12 c12 f13 c13 f14 c14 f15 c15 f16 c16 f17 c17 f18 c18 f19 c19 f20 c20 f21 c21 f22 c22 f23 c23 f24 c24 f25 c25 f26 c26 f27 c27 f28 c28 f29 c29 f30 c30 f31 c31 f32 c32 f33 c33 f34 c34 f35 c35 f36 c36 f37 c37 f38 c38 f39 c39 f40 c40 f41 c41 f42 c42 f43 c43 f44 c44 f45 c45 f46 c46 f47 c47 f48 c48 f49 c49 f50 c50 f51 c51 f52 c52 f53 c53 f54 c54 f55 c55 f56 c56 f57 c57 f58 c58 f59 c59 f60 c60 f61 c61 f62 c62 f63 c63 : Addr} {t0 t1 t2 t3 t4 t5 t6 t7 t8 t9 t10 t11 t12 t13 t14 t15 t16 t17 t18 t19 t20 t21 t22 t23 t24 t25 t26 t27 t28 t29 t30 t31 t32 t33 t34 t35 t36 t37 t38 t39 t40 t41 t42 t43 t44 t45 t46 t47 t48 t49 t50 t51 t52 t53 t54 t55 t56 t57 t58 t59 t60 t61 t62 t63 : Tok} {m0 m1 m2 m3 m4 m5 m6 m7 m8 m9 m10 m11 m12 m13 m14 m15 m16 m17 m18 m19 m20 m21 m22 m23 m24 m25 m26 m27 m28 m29 m30 m31 m32 m33 m34 m35 m36 m37 m38 m39 m40 m41 m42 m43 m44 m45 m46 m47 m48 m49 m50 m51 m52 m53 m54 m55 m56 m57 m58 m59 m60 m61 m62 m63 : Str} {q0 : Tok} {g1 : Addr} {go1 : Option Addr} {q1a q1b q1c : Tok} {gn1 : Nat} {gs1 : Array (Option Value)} {g2 : Addr} {go2 : Option Addr} {q2a q2b q2c : Tok} {gn2 : Nat} {gs2 : Array (Option Value)}
    (a0 : FQ K "is_whole" jN f0 c0 t0 m0)
    (a1 : FQ K "common_divisor" d8 f1 c1 t1 m1)
    (a2 : FQ K "is_number" i8 f2 c2 t2 m2)
    (a3 : FQ K "divisor_of_all" d6 f3 c3 t3 m3)
    (a4 : FQ K "number" oA f4 c4 t4 m4)
    (a5 : FQ K "mate" wL f5 c5 t5 m5)
    (a6 : FQ K "plus" xy f6 c6 t6 m6)
    (a7 : FQ K "less" xM f7 c7 t7 m7)
    (a8 : FQ K "times" tj f8 c8 t8 m8)
    (a9 : FQ K "over" wV f9 c9 t9 m9)
    (a10 : FQ K "contrary" jW f10 c10 t10 m10)
    (a11 : FQ K "sign_of" lN f11 c11 t11 m11)
    (a12 : FQ K "sign_of_parts" eO f12 c12 t12 m12)
    (a13 : FQ K "is_above_nought" du f13 c13 t13 m13)
    (a14 : FQ K "must_be_above_nought" cq f14 c14 t14 m14)
    (a15 : FQ K "is_kinds" j8 f15 c15 t15 m15)
    (a16 : FQ K "must_be_kinds" eM f16 c16 t16 m16)
    (a17 : FQ K "lean_fraction" eN f17 c17 t17 m17)
    (a18 : FQ K "mixture_of" hJ f18 c18 t18 m18)
    (a19 : FQ K "shares_of" i6 f19 c19 t19 m19)
    (a20 : FQ K "is_share" jO f20 c20 t20 m20)
    (a21 : FQ K "bar_for" lI f21 c21 t21 m21)
    (a22 : FQ K "skew" xA f22 c22 t22 m22)
    (a23 : FQ K "plan_of_mixture" dy f23 c23 t23 m23)
    (a24 : FQ K "plan_of_shares" ec f24 c24 t24 m24)
    (a25 : FQ K "share_plan" gT f25 c25 t25 m25)
    (a26 : FQ K "wish_told" jc f26 c26 t26 m26)
    (a27 : FQ K "leans_most" gJ f27 c27 t27 m27)
    (a28 : FQ K "mate_signs" gN f28 c28 t28 m28)
    (a29 : FQ K "leans_more" gW f29 c29 t29 m29)
    (a30 : FQ K "plan_by_both" fz f30 c30 t30 m30)
    (a31 : FQ K "with_greater_mate" cT f31 c31 t31 m31)
    (a32 : FQ K "has_greater_mate" de f32 c32 t32 m32)
    (a33 : FQ K "_law_bag" jY f33 c33 t33 m33)
    (a34 : FQ K "_law_take" i4 f34 c34 t34 m34)
    (a35 : FQ K "_law_is_whole" eK f35 c35 t35 m35)
    (a36 : FQ K "_law_shared" fX f36 c36 t36 m36)
    (a37 : FQ K "_law_low" jS f37 c37 t37 m37)
    (a38 : FQ K "_law_is_number" eh f38 c38 t38 m38)
    (a39 : FQ K "_law_plus" je f39 c39 t39 m39)
    (a40 : FQ K "_law_minus" gO f40 c40 t40 m40)
    (a41 : FQ K "_law_mate" i7 f41 c41 t41 m41)
    (a42 : FQ K "_law_times" gX f42 c42 t42 m42)
    (a43 : FQ K "_law_contrary" eG f43 c43 t43 m43)
    (a44 : FQ K "_law_sign" ja f44 c44 t44 m44)
    (a45 : FQ K "_law_below" gI f45 c45 t45 m45)
    (a46 : FQ K "_law_root" jd f46 c46 t46 m46)
    (a47 : FQ K "_law_number" fY f47 c47 t47 m47)
    (a48 : FQ K "_law_above" g9 f48 c48 t48 m48)
    (a49 : FQ K "_law_kinds" g8 f49 c49 t49 m49)
    (a50 : FQ K "_law_is_never_below" cw f50 c50 t50 m50)
    (a51 : FQ K "_law_weigh" gH f51 c51 t51 m51)
    (a52 : FQ K "_law_is_bar" fV f52 c52 t52 m52)
    (a53 : FQ K "_law_plan_shape" dw f53 c53 t53 m53)
    (a54 : FQ K "_law_is_plan" fG f54 c54 t54 m54)
    (a55 : FQ K "_law_lean_fraction" cH f55 c55 t55 m55)
    (a56 : FQ K "_law_shape" gR f56 c56 t56 m56)
    (a57 : FQ K "_law_fraction" eJ f57 c57 t57 m57)
    (a58 : FQ K "_law_is_told_bar" dg f58 c58 t58 m58)
    (a59 : FQ K "_law_is_laid" fA f59 c59 t59 m59)
    (a60 : FQ K "_law_wide" i5 f60 c60 t60 m60)
    (a61 : FQ K "_law_wide_shapes" df f61 c61 t61 m61)
    (a62 : FQ K "_law_is_told" fF f62 c62 t62 m62)
    (a63 : FQ K "law" uh f63 c63 t63 m63)
    (z0 : PySem.W.nsIn K mainGlobals "isinstance" = some none)
    (z1 : PySem.W.nsIn K mainGlobals "int" = some none)
    (z2 : PySem.W.nsIn K mainGlobals "bool" = some none)
    (z3 : PySem.W.nsIn K mainGlobals "abs" = some none)
    (z4 : PySem.W.nsIn K mainGlobals "tuple" = some none)
    (z5 : PySem.W.nsIn K mainGlobals "len" = some none)
    (z6 : PySem.W.nsIn K mainGlobals "all" = some none)
    (z7 : PySem.W.nsIn K mainGlobals "range" = some none)
    (z8 : PySem.W.nsIn K mainGlobals "str" = some none)
    (z9 : PySem.W.nsIn K mainGlobals "sum" = some none)
    (z10 : PySem.W.nsIn K mainGlobals "any" = some none)
    (z11 : PySem.W.nsIn K mainGlobals "set" = some none)
    (z12 : PySem.W.nsIn K mainGlobals "max" = some none)
    (z13 : PySem.W.nsIn K mainGlobals "min" = some none)
    (v0 : PySem.W.nsIn K mainGlobals "MOST_KINDS" = some (some (.int 3 q0)))
    (v1 : PySem.W.nsIn K mainGlobals "NOUGHT" = some (some (.ref g1))) (w1 : K.lookup g1 = some ⟨.type "tuple", go1, .seq #[.int 0 q1a, .int 0 q1b, .int 1 q1c] gn1, gs1⟩)
    (v2 : PySem.W.nsIn K mainGlobals "ONE" = some (some (.ref g2))) (w2 : K.lookup g2 = some ⟨.type "tuple", go2, .seq #[.int 1 q2a, .int 0 q2b, .int 1 q2c] gn2, gs2⟩) :
    ∃ fd : FuncData, (∀ (s : Shared) (v : Value), BindsTo s fd ⟨[v], []⟩ [("_law_script", v)]) ∧ ∀ base : Heap, K.In base → base.Ns mainGlobals mg → bS l.prog w K mg base CX0 11 fa fd ["_law_script"] (spD K zp) := by
  have e := hfa.symm.trans (PySem.W.mg_of X G a63.1)
  cases e
  have F0 := aZ (st := jN) a0.2.1 a0.2.2.1 a0.2.2.2
  have b0 := F0.binds (ps := ["thing"]) fun _ _ _ _ _ _ us hl => match us, hl with | [_], _ => rfl
  have F1 := aZ (st := d8) a1.2.1 a1.2.2.1 a1.2.2.2
  have b1 := F1.binds (ps := ["a", "b"]) fun _ _ _ _ _ _ us hl => match us, hl with | [_, _], _ => rfl
  have F2 := aZ (st := i8) a2.2.1 a2.2.2.1 a2.2.2.2
  have b2 := F2.binds (ps := ["thing"]) fun _ _ _ _ _ _ us hl => match us, hl with | [_], _ => rfl
  have F3 := aZ (st := d6) a3.2.1 a3.2.2.1 a3.2.2.2
  have b3 := F3.binds (ps := ["a", "b", "c"]) fun _ _ _ _ _ _ us hl => match us, hl with | [_, _, _], _ => rfl
  have F4 := aZ (st := oA) a4.2.1 a4.2.2.1 a4.2.2.2
  have b4 := F4.binds (ps := ["a", "b", "c"]) fun _ _ _ _ _ _ us hl => match us, hl with | [_, _, _], _ => rfl
  have F5 := aZ (st := wL) a5.2.1 a5.2.2.1 a5.2.2.2
  have b5 := F5.binds (ps := ["x"]) fun _ _ _ _ _ _ us hl => match us, hl with | [_], _ => rfl
  have F6 := aZ (st := xy) a6.2.1 a6.2.2.1 a6.2.2.2
  have b6 := F6.binds (ps := ["x", "y"]) fun _ _ _ _ _ _ us hl => match us, hl with | [_, _], _ => rfl
  have F7 := aZ (st := xM) a7.2.1 a7.2.2.1 a7.2.2.2
  have b7 := F7.binds (ps := ["x", "y"]) fun _ _ _ _ _ _ us hl => match us, hl with | [_, _], _ => rfl
  have F8 := aZ (st := tj) a8.2.1 a8.2.2.1 a8.2.2.2
  have b8 := F8.binds (ps := ["d", "x", "y"]) fun _ _ _ _ _ _ us hl => match us, hl with | [_, _, _], _ => rfl
  have F9 := aZ (st := wV) a9.2.1 a9.2.2.1 a9.2.2.2
  have b9 := F9.binds (ps := ["d", "x", "y"]) fun _ _ _ _ _ _ us hl => match us, hl with | [_, _, _], _ => rfl
  have F10 := aZ (st := jW) a10.2.1 a10.2.2.1 a10.2.2.2
  have b10 := F10.binds (ps := ["d", "x"]) fun _ _ _ _ _ _ us hl => match us, hl with | [_, _], _ => rfl
  have F11 := aZ (st := lN) a11.2.1 a11.2.2.1 a11.2.2.2
  have b11 := F11.binds (ps := ["d", "x"]) fun _ _ _ _ _ _ us hl => match us, hl with | [_, _], _ => rfl
  have F12 := aZ (st := eO) a12.2.1 a12.2.2.1 a12.2.2.2
  have b12 := F12.binds (ps := ["d", "a", "b"]) fun _ _ _ _ _ _ us hl => match us, hl with | [_, _, _], _ => rfl
  have F13 := aZ (st := du) a13.2.1 a13.2.2.1 a13.2.2.2
  have b13 := F13.binds (ps := ["d", "thing"]) fun _ _ _ _ _ _ us hl => match us, hl with | [_, _], _ => rfl
  have F14 := aZ (st := cq) a14.2.1 a14.2.2.1 a14.2.2.2
  have b14 := F14.binds (ps := ["d", "thing"]) fun _ _ _ _ _ _ us hl => match us, hl with | [_, _], _ => rfl
  have F15 := aZ (st := j8) a15.2.1 a15.2.2.1 a15.2.2.2
  have b15 := F15.binds (ps := ["d", "thing"]) fun _ _ _ _ _ _ us hl => match us, hl with | [_, _], _ => rfl
  have F16 := aZ (st := eM) a16.2.1 a16.2.2.1 a16.2.2.2
  have b16 := F16.binds (ps := ["d", "thing"]) fun _ _ _ _ _ _ us hl => match us, hl with | [_, _], _ => rfl
  have F17 := aZ (st := eN) a17.2.1 a17.2.2.1 a17.2.2.2
  have b17 := F17.binds (ps := ["d", "shape"]) fun _ _ _ _ _ _ us hl => match us, hl with | [_, _], _ => rfl
  have F18 := aZ (st := hJ) a18.2.1 a18.2.2.1 a18.2.2.2
  have b18 := F18.binds (ps := ["d", "kind", "shape"]) fun _ _ _ _ _ _ us hl => match us, hl with | [_, _, _], _ => rfl
  have F19 := aZ (st := i6) a19.2.1 a19.2.2.1 a19.2.2.2
  have b19 := F19.binds (ps := ["d", "first", "second", "shape"]) fun _ _ _ _ _ _ us hl => match us, hl with | [_, _, _, _], _ => rfl
  have F20 := aZ (st := jO) a20.2.1 a20.2.2.1 a20.2.2.2
  have b20 := F20.binds (ps := ["d", "x"]) fun _ _ _ _ _ _ us hl => match us, hl with | [_, _], _ => rfl
  have F21 := aZ (st := lI) a21.2.1 a21.2.2.1 a21.2.2.2
  have b21 := F21.binds (ps := ["d", "kind", "shape"]) fun _ _ _ _ _ _ us hl => match us, hl with | [_, _, _], _ => rfl
  have F22 := aZ (st := xA) a22.2.1 a22.2.2.1 a22.2.2.2
  have b22 := F22.binds (ps := ["shape", "way"]) fun _ _ _ _ _ _ us hl => match us, hl with | [_, _], _ => rfl
  have F23 := aZ (st := dy) a23.2.1 a23.2.2.1 a23.2.2.2
  have b23 := F23.binds (ps := ["u", "v", "place"]) fun _ _ _ _ _ _ us hl => match us, hl with | [_, _, _], _ => rfl
  have F24 := aZ (st := ec) a24.2.1 a24.2.2.1 a24.2.2.2
  have b24 := F24.binds (ps := ["u", "first", "v", "second"]) fun _ _ _ _ _ _ us hl => match us, hl with | [_, _, _, _], _ => rfl
  have F25 := aZ (st := gT) a25.2.1 a25.2.2.1 a25.2.2.2
  have b25 := F25.binds (ps := ["share", "plan"]) fun _ _ _ _ _ _ us hl => match us, hl with | [_, _], _ => rfl
  have F26 := aZ (st := jc) a26.2.1 a26.2.2.1 a26.2.2.2
  have b26 := F26.binds (ps := ["d", "kinds", "shape"]) fun _ _ _ _ _ _ us hl => match us, hl with | [_, _, _], _ => rfl
  have F27 := aZ (st := gJ) a27.2.1 a27.2.2.1 a27.2.2.2
  have b27 := F27.binds (ps := ["d", "kinds"]) fun _ _ _ _ _ _ us hl => match us, hl with | [_, _], _ => rfl
  have F28 := aZ (st := gN) a28.2.1 a28.2.2.1 a28.2.2.2
  have b28 := F28.binds (ps := ["d", "kinds"]) fun _ _ _ _ _ _ us hl => match us, hl with | [_, _], _ => rfl
  have F29 := aZ (st := gW) a29.2.1 a29.2.2.1 a29.2.2.2
  have b29 := F29.binds (ps := ["d", "kind", "other"]) fun _ _ _ _ _ _ us hl => match us, hl with | [_, _, _], _ => rfl
  have F30 := aZ (st := fz) a30.2.1 a30.2.2.1 a30.2.2.2
  have b30 := F30.binds (ps := ["d", "kinds", "shape"]) fun _ _ _ _ _ _ us hl => match us, hl with | [_, _, _], _ => rfl
  have F31 := aZ (st := cT) a31.2.1 a31.2.2.1 a31.2.2.2
  have b31 := F31.binds (ps := ["d", "kinds", "place"]) fun _ _ _ _ _ _ us hl => match us, hl with | [_, _, _], _ => rfl
  have F32 := aZ (st := de) a32.2.1 a32.2.2.1 a32.2.2.2
  have b32 := F32.binds (ps := ["shape"]) fun _ _ _ _ _ _ us hl => match us, hl with | [_], _ => rfl
  have F33 := aZ (st := jY) a33.2.1 a33.2.2.1 a33.2.2.2
  have b33 := F33.binds (ps := ["_law_script", "_law_at"]) fun _ _ _ _ _ _ us hl => match us, hl with | [_, _], _ => rfl
  have F34 := aZ (st := i4) a34.2.1 a34.2.2.1 a34.2.2.2
  have b34 := F34.binds (ps := ["_law_bag_here", "_law_many"]) fun _ _ _ _ _ _ us hl => match us, hl with | [_, _], _ => rfl
  have F35 := aZ (st := eK) a35.2.1 a35.2.2.1 a35.2.2.2
  have b35 := F35.binds (ps := ["_law_thing"]) fun _ _ _ _ _ _ us hl => match us, hl with | [_], _ => rfl
  have F36 := aZ (st := fX) a36.2.1 a36.2.2.1 a36.2.2.2
  have b36 := F36.binds (ps := ["_law_one", "_law_other"]) fun _ _ _ _ _ _ us hl => match us, hl with | [_, _], _ => rfl
  have F37 := aZ (st := jS) a37.2.1 a37.2.2.1 a37.2.2.2
  have b37 := F37.binds (ps := ["_law_a", "_law_b", "_law_c"]) fun _ _ _ _ _ _ us hl => match us, hl with | [_, _, _], _ => rfl
  have F38 := aZ (st := eh) a38.2.1 a38.2.2.1 a38.2.2.2
  have b38 := F38.binds (ps := ["_law_thing"]) fun _ _ _ _ _ _ us hl => match us, hl with | [_], _ => rfl
  have F39 := aZ (st := je) a39.2.1 a39.2.2.1 a39.2.2.2
  have b39 := F39.binds (ps := ["_law_x", "_law_y"]) fun _ _ _ _ _ _ us hl => match us, hl with | [_, _], _ => rfl
  have F40 := aZ (st := gO) a40.2.1 a40.2.2.1 a40.2.2.2
  have b40 := F40.binds (ps := ["_law_x"]) fun _ _ _ _ _ _ us hl => match us, hl with | [_], _ => rfl
  have F41 := aZ (st := i7) a41.2.1 a41.2.2.1 a41.2.2.2
  have b41 := F41.binds (ps := ["_law_x"]) fun _ _ _ _ _ _ us hl => match us, hl with | [_], _ => rfl
  have F42 := aZ (st := gX) a42.2.1 a42.2.2.1 a42.2.2.2
  have b42 := F42.binds (ps := ["_law_d", "_law_x", "_law_y"]) fun _ _ _ _ _ _ us hl => match us, hl with | [_, _, _], _ => rfl
  have F43 := aZ (st := eG) a43.2.1 a43.2.2.1 a43.2.2.2
  have b43 := F43.binds (ps := ["_law_d", "_law_x"]) fun _ _ _ _ _ _ us hl => match us, hl with | [_, _], _ => rfl
  have F44 := aZ (st := ja) a44.2.1 a44.2.2.1 a44.2.2.2
  have b44 := F44.binds (ps := ["_law_d", "_law_x"]) fun _ _ _ _ _ _ us hl => match us, hl with | [_, _], _ => rfl
  have F45 := aZ (st := gI) a45.2.1 a45.2.2.1 a45.2.2.2
  have b45 := F45.binds (ps := ["_law_d", "_law_x", "_law_y"]) fun _ _ _ _ _ _ us hl => match us, hl with | [_, _, _], _ => rfl
  have F46 := aZ (st := jd) a46.2.1 a46.2.2.1 a46.2.2.2
  have b46 := F46.binds (ps := ["_law_bag_here"]) fun _ _ _ _ _ _ us hl => match us, hl with | [_], _ => rfl
  have F47 := aZ (st := fY) a47.2.1 a47.2.2.1 a47.2.2.2
  have b47 := F47.binds (ps := ["_law_bag_here"]) fun _ _ _ _ _ _ us hl => match us, hl with | [_], _ => rfl
  have F48 := aZ (st := g9) a48.2.1 a48.2.2.1 a48.2.2.2
  have b48 := F48.binds (ps := ["_law_bag_here", "_law_d"]) fun _ _ _ _ _ _ us hl => match us, hl with | [_, _], _ => rfl
  have F49 := aZ (st := g8) a49.2.1 a49.2.2.1 a49.2.2.2
  have b49 := F49.binds (ps := ["_law_bag_here", "_law_d"]) fun _ _ _ _ _ _ us hl => match us, hl with | [_, _], _ => rfl
  have F50 := aZ (st := cw) a50.2.1 a50.2.2.1 a50.2.2.2
  have b50 := F50.binds (ps := ["_law_d", "_law_weights", "_law_kind"]) fun _ _ _ _ _ _ us hl => match us, hl with | [_, _, _], _ => rfl
  have F51 := aZ (st := gH) a51.2.1 a51.2.2.1 a51.2.2.2
  have b51 := F51.binds (ps := ["_law_d", "_law_weights", "_law_width", "_law_height"]) fun _ _ _ _ _ _ us hl => match us, hl with | [_, _, _, _], _ => rfl
  have F52 := aZ (st := fV) a52.2.1 a52.2.2.1 a52.2.2.2
  have b52 := F52.binds (ps := ["_law_d", "_law_kinds_here", "_law_shape_here", "_law_thing"]) fun _ _ _ _ _ _ us hl => match us, hl with | [_, _, _, _], _ => rfl
  have F53 := aZ (st := dw) a53.2.1 a53.2.2.1 a53.2.2.2
  have b53 := F53.binds (ps := ["_law_d", "_law_kinds_here", "_law_plan"]) fun _ _ _ _ _ _ us hl => match us, hl with | [_, _, _], _ => rfl
  have F54 := aZ (st := fG) a54.2.1 a54.2.2.1 a54.2.2.2
  have b54 := F54.binds (ps := ["_law_many", "_law_thing", "_law_deep"]) fun _ _ _ _ _ _ us hl => match us, hl with | [_, _, _], _ => rfl
  have F55 := aZ (st := cH) a55.2.1 a55.2.2.1 a55.2.2.2
  have b55 := F55.binds (ps := ["_law_d", "_law_shape_here"]) fun _ _ _ _ _ _ us hl => match us, hl with | [_, _], _ => rfl
  have F56 := aZ (st := gR) a56.2.1 a56.2.2.1 a56.2.2.2
  have b56 := F56.binds (ps := ["_law_bag_here", "_law_d", "_law_kinds_here"]) fun _ _ _ _ _ _ us hl => match us, hl with | [_, _, _], _ => rfl
  have F57 := aZ (st := eJ) a57.2.1 a57.2.2.1 a57.2.2.2
  have b57 := F57.binds (ps := ["_law_bag_here"]) fun _ _ _ _ _ _ us hl => match us, hl with | [_], _ => rfl
  have F58 := aZ (st := dg) a58.2.1 a58.2.2.1 a58.2.2.2
  have b58 := F58.binds (ps := ["_law_d", "_law_kinds_here", "_law_shape_here", "_law_told"]) fun _ _ _ _ _ _ us hl => match us, hl with | [_, _, _, _], _ => rfl
  have F59 := aZ (st := fA) a59.2.1 a59.2.2.1 a59.2.2.2
  have b59 := F59.binds (ps := ["_law_d", "_law_kinds_here", "_law_shape_here"]) fun _ _ _ _ _ _ us hl => match us, hl with | [_, _, _], _ => rfl
  have F60 := aZ (st := i5) a60.2.1 a60.2.2.1 a60.2.2.2
  have b60 := F60.binds (ps := ["_law_bag_here", "_law_d"]) fun _ _ _ _ _ _ us hl => match us, hl with | [_, _], _ => rfl
  have F61 := aZ (st := df) a61.2.1 a61.2.2.1 a61.2.2.2
  have b61 := F61.binds (ps := ["_law_bag_here", "_law_d", "_law_kind"]) fun _ _ _ _ _ _ us hl => match us, hl with | [_, _, _], _ => rfl
  have F62 := aZ (st := fF) a62.2.1 a62.2.2.1 a62.2.2.2
  have b62 := F62.binds (ps := ["_law_d", "_law_kinds_here", "_law_shape_here"]) fun _ _ _ _ _ _ us hl => match us, hl with | [_, _, _], _ => rfl
  have F63 := aZ (st := uh) a63.2.1 a63.2.2.1 a63.2.2.2
  have b63 := F63.binds (ps := ["_law_script"]) fun _ _ _ _ _ _ us hl => match us, hl with | [_], _ => rfl
  have T : Txt K mg ⟨f0, fd "is_whole" jN t0 m0 c0, f1, fd "common_divisor" d8 t1 m1 c1, f2, fd "is_number" i8 t2 m2 c2, f3, fd "divisor_of_all" d6 t3 m3 c3, f4, fd "number" oA t4 m4 c4, f5, fd "mate" wL t5 m5 c5, f6, fd "plus" xy t6 m6 c6, f7, fd "less" xM t7 m7 c7, f8, fd "times" tj t8 m8 c8, f9, fd "over" wV t9 m9 c9, f10, fd "contrary" jW t10 m10 c10, f11, fd "sign_of" lN t11 m11 c11, f12, fd "sign_of_parts" eO t12 m12 c12, f13, fd "is_above_nought" du t13 m13 c13, f14, fd "must_be_above_nought" cq t14 m14 c14, f15, fd "is_kinds" j8 t15 m15 c15, f16, fd "must_be_kinds" eM t16 m16 c16, f17, fd "lean_fraction" eN t17 m17 c17, f18, fd "mixture_of" hJ t18 m18 c18, f19, fd "shares_of" i6 t19 m19 c19, f20, fd "is_share" jO t20 m20 c20, f21, fd "bar_for" lI t21 m21 c21, f22, fd "skew" xA t22 m22 c22, f23, fd "plan_of_mixture" dy t23 m23 c23, f24, fd "plan_of_shares" ec t24 m24 c24, f25, fd "share_plan" gT t25 m25 c25, f26, fd "wish_told" jc t26 m26 c26, f27, fd "leans_most" gJ t27 m27 c27, f28, fd "mate_signs" gN t28 m28 c28, f29, fd "leans_more" gW t29 m29 c29, f30, fd "plan_by_both" fz t30 m30 c30, f31, fd "with_greater_mate" cT t31 m31 c31, f32, fd "has_greater_mate" de t32 m32 c32, f33, fd "_law_bag" jY t33 m33 c33, f34, fd "_law_take" i4 t34 m34 c34, f35, fd "_law_is_whole" eK t35 m35 c35, f36, fd "_law_shared" fX t36 m36 c36, f37, fd "_law_low" jS t37 m37 c37, f38, fd "_law_is_number" eh t38 m38 c38, f39, fd "_law_plus" je t39 m39 c39, f40, fd "_law_minus" gO t40 m40 c40, f41, fd "_law_mate" i7 t41 m41 c41, f42, fd "_law_times" gX t42 m42 c42, f43, fd "_law_contrary" eG t43 m43 c43, f44, fd "_law_sign" ja t44 m44 c44, f45, fd "_law_below" gI t45 m45 c45, f46, fd "_law_root" jd t46 m46 c46, f47, fd "_law_number" fY t47 m47 c47, f48, fd "_law_above" g9 t48 m48 c48, f49, fd "_law_kinds" g8 t49 m49 c49, f50, fd "_law_is_never_below" cw t50 m50 c50, f51, fd "_law_weigh" gH t51 m51 c51, f52, fd "_law_is_bar" fV t52 m52 c52, f53, fd "_law_plan_shape" dw t53 m53 c53, f54, fd "_law_is_plan" fG t54 m54 c54, f55, fd "_law_lean_fraction" cH t55 m55 c55, f56, fd "_law_shape" gR t56 m56 c56, f57, fd "_law_fraction" eJ t57 m57 c57, f58, fd "_law_is_told_bar" dg t58 m58 c58, f59, fd "_law_is_laid" fA t59 m59 c59, f60, fd "_law_wide" i5 t60 m60 c60, f61, fd "_law_wide_shapes" df t61 m61 c61, f62, fd "_law_is_told" fF t62 m62 c62, fa, fd "law" uh t63 m63 c63, q0, g1, g2⟩ := ⟨F0, PySem.W.mg_of X G a0.1, a0.2.2.2, b0, F1, PySem.W.mg_of X G a1.1, a1.2.2.2, b1, F2, PySem.W.mg_of X G a2.1, a2.2.2.2, b2, F3, PySem.W.mg_of X G a3.1, a3.2.2.2, b3, F4, PySem.W.mg_of X G a4.1, a4.2.2.2, b4, F5, PySem.W.mg_of X G a5.1, a5.2.2.2, b5, F6, PySem.W.mg_of X G a6.1, a6.2.2.2, b6, F7, PySem.W.mg_of X G a7.1, a7.2.2.2, b7, F8, PySem.W.mg_of X G a8.1, a8.2.2.2, b8, F9, PySem.W.mg_of X G a9.1, a9.2.2.2, b9, F10, PySem.W.mg_of X G a10.1, a10.2.2.2, b10, F11, PySem.W.mg_of X G a11.1, a11.2.2.2, b11, F12, PySem.W.mg_of X G a12.1, a12.2.2.2, b12, F13, PySem.W.mg_of X G a13.1, a13.2.2.2, b13, F14, PySem.W.mg_of X G a14.1, a14.2.2.2, b14, F15, PySem.W.mg_of X G a15.1, a15.2.2.2, b15, F16, PySem.W.mg_of X G a16.1, a16.2.2.2, b16, F17, PySem.W.mg_of X G a17.1, a17.2.2.2, b17, F18, PySem.W.mg_of X G a18.1, a18.2.2.2, b18, F19, PySem.W.mg_of X G a19.1, a19.2.2.2, b19, F20, PySem.W.mg_of X G a20.1, a20.2.2.2, b20, F21, PySem.W.mg_of X G a21.1, a21.2.2.2, b21, F22, PySem.W.mg_of X G a22.1, a22.2.2.2, b22, F23, PySem.W.mg_of X G a23.1, a23.2.2.2, b23, F24, PySem.W.mg_of X G a24.1, a24.2.2.2, b24, F25, PySem.W.mg_of X G a25.1, a25.2.2.2, b25, F26, PySem.W.mg_of X G a26.1, a26.2.2.2, b26, F27, PySem.W.mg_of X G a27.1, a27.2.2.2, b27, F28, PySem.W.mg_of X G a28.1, a28.2.2.2, b28, F29, PySem.W.mg_of X G a29.1, a29.2.2.2, b29, F30, PySem.W.mg_of X G a30.1, a30.2.2.2, b30, F31, PySem.W.mg_of X G a31.1, a31.2.2.2, b31, F32, PySem.W.mg_of X G a32.1, a32.2.2.2, b32, F33, PySem.W.mg_of X G a33.1, a33.2.2.2, b33, F34, PySem.W.mg_of X G a34.1, a34.2.2.2, b34, F35, PySem.W.mg_of X G a35.1, a35.2.2.2, b35, F36, PySem.W.mg_of X G a36.1, a36.2.2.2, b36, F37, PySem.W.mg_of X G a37.1, a37.2.2.2, b37, F38, PySem.W.mg_of X G a38.1, a38.2.2.2, b38, F39, PySem.W.mg_of X G a39.1, a39.2.2.2, b39, F40, PySem.W.mg_of X G a40.1, a40.2.2.2, b40, F41, PySem.W.mg_of X G a41.1, a41.2.2.2, b41, F42, PySem.W.mg_of X G a42.1, a42.2.2.2, b42, F43, PySem.W.mg_of X G a43.1, a43.2.2.2, b43, F44, PySem.W.mg_of X G a44.1, a44.2.2.2, b44, F45, PySem.W.mg_of X G a45.1, a45.2.2.2, b45, F46, PySem.W.mg_of X G a46.1, a46.2.2.2, b46, F47, PySem.W.mg_of X G a47.1, a47.2.2.2, b47, F48, PySem.W.mg_of X G a48.1, a48.2.2.2, b48, F49, PySem.W.mg_of X G a49.1, a49.2.2.2, b49, F50, PySem.W.mg_of X G a50.1, a50.2.2.2, b50, F51, PySem.W.mg_of X G a51.1, a51.2.2.2, b51, F52, PySem.W.mg_of X G a52.1, a52.2.2.2, b52, F53, PySem.W.mg_of X G a53.1, a53.2.2.2, b53, F54, PySem.W.mg_of X G a54.1, a54.2.2.2, b54, F55, PySem.W.mg_of X G a55.1, a55.2.2.2, b55, F56, PySem.W.mg_of X G a56.1, a56.2.2.2, b56, F57, PySem.W.mg_of X G a57.1, a57.2.2.2, b57, F58, PySem.W.mg_of X G a58.1, a58.2.2.2, b58, F59, PySem.W.mg_of X G a59.1, a59.2.2.2, b59, F60, PySem.W.mg_of X G a60.1, a60.2.2.2, b60, F61, PySem.W.mg_of X G a61.1, a61.2.2.2, b61, F62, PySem.W.mg_of X G a62.1, a62.2.2.2, b62, F63, PySem.W.mg_of X G a63.1, a63.2.2.2, b63, PySem.W.mg_none_of X G z0, PySem.W.mg_none_of X G z1, PySem.W.mg_none_of X G z2, PySem.W.mg_none_of X G z3, PySem.W.mg_none_of X G z4, PySem.W.mg_none_of X G z5, PySem.W.mg_none_of X G z6, PySem.W.mg_none_of X G z7, PySem.W.mg_none_of X G z8, PySem.W.mg_none_of X G z9, PySem.W.mg_none_of X G z10, PySem.W.mg_none_of X G z11, PySem.W.mg_none_of X G z12, PySem.W.mg_none_of X G z13, PySem.W.mg_of X G v0, ⟨PySem.W.mg_of X G v1, ⟨_, _, _, _, _, _, w1⟩⟩, ⟨PySem.W.mg_of X G v2, ⟨_, _, _, _, _, _, w2⟩⟩⟩
  exact ⟨_, fun s v => .of_eq rfl, fun base _ _ => RH (e := ⟨l.prog, w, K, mg, base, _⟩) T⟩
theorem walk {l : PySem.W.OpenLaw} {q : Program} {loose : List Str} {XP : (Str → Option Value) → Heap → Prop} {YP : World → Heap → Prop} {d : DefRec} {K : Params → PySem.W.Frag} (tabs : List Addr) (hn : l.most = some 63) (hdf : d.params.defaults = [])
    (hY : ∀ (w : World) (h : Heap), YP w h → (K w.params).In h ∧ (∀ p ∈ tabs, h.get? p = some (PySem.W.tabObj #[]) ∧ (K w.params).lookup p = none) ∧ (∀ p ∈ tabs, isCodeTable h p))
    (hA2 : ∀ (w : World) c o p q, (K w.params).lookup c = some o → fq o = some (p, q) → p ∈ tabs)
    (F : ∀ (w : World) (mg : Str → Option Value) (fa : Addr) (h : Heap), (K w.params).In h → h.Ns mainGlobals mg → mg d.name = some (.ref fa) →
      ∃ fd : FuncData, (∀ (s : Shared) (u : Value), BindsTo s fd ⟨[u], []⟩ [("_law_script", u)]) ∧ ∀ base : Heap, (K w.params).In base → base.Ns mainGlobals mg → bS l.prog w (K w.params) mg base CX0 11 fa fd ["_law_script"] (spD (K w.params) zp)) :
    PySem.W.WalkO q loose XP YP l.row.toRowW d [] (fun f vs => PySem.call f vs) :=
  L2.Mc (n := 63) (k := 11) (x := "_law_script") (CX := fun _ => CX0) (sp := fun w => spD (K w.params) zp) tabs hn (by decide) hdf ⟨rfl, by decide, by decide⟩ hY hA2 F (fun w H a ns hl hT hS => Ks hl hT hS) fun _ _ _ _ _ z => z
end K39
open PySem PySem.W PyProof.Rows L2.DL in
set_option maxRecDepth 100000 in
set_option maxHeartbeats 0 in
theorem PySem.Challenge.cw_matefloors_k39_wishes_told_holds : PySem.Challenge.rw_matefloors_k39_wishes_told.Holds :=
  holds_law K39.H.ws fun said => holds_open (XP := XL K39.H.V []) (YP := K39.H.HK.says) (d := K39.H.D) (kwd := []) K39.H.left K39.H.HK.of K39.H.HK.keeps (fun s e => xl_of s (Bool.and_eq_true_iff.mp e).1) XL.keeps (by kernel_rfl) (by kernel_rfl) (by kernel_rfl)
    (fun s e => recFacts_of (Bool.and_eq_true_iff.mp e).2) (by kernel_rfl) said (by kernel_rfl) ⟨by kernel_rfl, by kernel_rfl, by kernel_rfl, by kernel_rfl, by kernel_rfl, by kernel_rfl⟩ ⟨[.list []], by kernel_rfl, by kernel_rfl⟩
    (K39.walk (l := PySem.Challenge.rw_matefloors_k39_wishes_told) (K := K39.H.K) K39.H.tabs (by kernel_rfl) (by kernel_rfl) (fun w h Y => by
      have Y : (K39.H.KF w.params).In h := Y
      refine ⟨E2 Y, fun p hp => ?_, fun p hp => ?_⟩
      · rcases List.mem_cons.mp hp with rfl | hp
        · exact ⟨Y _ _ (K39.H.nW w.params).1, (K39.H.nW w.params).2⟩
        rcases List.mem_cons.mp hp with rfl | hp
        · exact ⟨Y _ _ (K39.H.Jv w.params).1, (K39.H.Jv w.params).2⟩
        exact nomatch hp
      · rcases List.mem_cons.mp hp with rfl | hp
        · obtain ⟨o, e1, e2⟩ := Jg (K39.H.vx w.params); exact BY (E2 Y) e1 e2
        rcases List.mem_cons.mp hp with rfl | hp
        · obtain ⟨o, e1, e2⟩ := Jg (K39.H.MW w.params); exact BY (E2 Y) e1 e2
        exact nomatch hp) (fun w c o p q e e2 => by
      have h := Ob (K39.H.Q0 w.params) e e2
      have h2 := List.mem_map_of_mem (f := fun x : Addr × Str => x.1) h
      exact h2) fun w mg fa h KX G hmg => by
      obtain ⟨h0, h1, h2, h3, h4, h5, h6, h7, h8, h9, h10, h11, h12, h13, h14, h15, h16, h17, h18, h19, h20, h21, h22, h23, h24, h25, h26, h27, h28, h29, h30, h31, h32, h33, h34, h35, h36, h37, h38, h39, h40, h41, h42, h43, h44, h45, h46, h47, h48, h49, h50, h51, h52, h53, h54, h55, h56, h57, h58, h59, h60, h61, h62, h63, h64, h65, h66, h67, h68, h69, h70, h71, h72, h73, h74, h75, h76, h77, h78, h79, h80⟩ := K39.H.facts w.params
      exact K39.all_mk KX G hmg h0 h1 h2 h3 h4 h5 h6 h7 h8 h9 h10 h11 h12 h13 h14 h15 h16 h17 h18 h19 h20 h21 h22 h23 h24 h25 h26 h27 h28 h29 h30 h31 h32 h33 h34 h35 h36 h37 h38 h39 h40 h41 h42 h43 h44 h45 h46 h47 h48 h49 h50 h51 h52 h53 h54 h55 h56 h57 h58 h59 h60 h61 h62 h63 h64 h65 h66 h67 h68 h69 h70 h71 h72 h73 h74 h75 h76 h77 h78 h79.1 h79.2 h80.1 h80.2)
