import PyProof.Rows.All
import Wide.All
import OpenK.AllK
import Wide.FinOn
import Lean
import PyProof.EqAt
import PyProof.EqKinds
import PyProof.TupleCall
import PySem.Challenge.RW_matefloors_k23_shapes_of_plans
set_option Elab.async false
set_option linter.all false
set_option maxRecDepth 100000
set_option maxHeartbeats 4000000
namespace L2
open PySem
def defArgs (s : Stmt) : Arguments := match s with
  | .FunctionDef _ a _ _ _ _ _ _ _ _ => a
  | _ => { posonlyargs := [], args := [], vararg := none, kwonlyargs := [], kw_defaults := [], kwarg := none, defaults := [] }
def defBody (s : Stmt) : List Stmt := match s with
  | .FunctionDef _ _ b _ _ _ _ _ _ _ => b
  | _ => []
def defScope (s : Stmt) : Scope := match s with
  | .FunctionDef _ _ _ _ _ _ sc _ _ _ => sc
  | _ => { kind := .function, names := [], isGenerator := false, isCoroutine := false }
end L2
namespace K23
open PySem L2
def top (i : Nat) : Stmt := PySem.Challenge.pw_matefloors_k23_shapes_of_plans.main.body.getD i (.Pass ⟨0, 0, 0, 0⟩)
abbrev s_is_whole : Stmt := top 7
abbrev s_common_divisor : Stmt := top 8
abbrev s_is_number : Stmt := top 9
abbrev s_divisor_of_all : Stmt := top 10
abbrev s_number : Stmt := top 11
abbrev s_mate : Stmt := top 12
abbrev s_plus : Stmt := top 13
abbrev s_times : Stmt := top 14
abbrev s_contrary : Stmt := top 15
abbrev s_sign_of : Stmt := top 16
abbrev s_sign_of_parts : Stmt := top 17
abbrev s_is_above_nought : Stmt := top 18
abbrev s_is_kinds : Stmt := top 21
abbrev s_must_be_kinds : Stmt := top 22
abbrev s_is_plan : Stmt := top 28
abbrev s_has_form : Stmt := top 29
abbrev s_is_count : Stmt := top 30
abbrev s_parts_of : Stmt := top 31
abbrev s_must_be_plan : Stmt := top 32
abbrev s_shape_of : Stmt := top 33
abbrev s_mate_shape : Stmt := top 34
abbrev s_made_of : Stmt := top 35
abbrev s_sum_of : Stmt := top 36
abbrev s__law_bag : Stmt := top 38
abbrev s__law_take : Stmt := top 39
abbrev s__law_is_whole : Stmt := top 40
abbrev s__law_shared : Stmt := top 41
abbrev s__law_low : Stmt := top 42
abbrev s__law_is_number : Stmt := top 43
abbrev s__law_plus : Stmt := top 44
abbrev s__law_minus : Stmt := top 45
abbrev s__law_mate : Stmt := top 46
abbrev s__law_times : Stmt := top 47
abbrev s__law_contrary : Stmt := top 48
abbrev s__law_sign : Stmt := top 49
abbrev s__law_root : Stmt := top 50
abbrev s__law_number : Stmt := top 51
abbrev s__law_above : Stmt := top 52
abbrev s__law_kinds : Stmt := top 53
abbrev s__law_grid_size : Stmt := top 54
abbrev s__law_plan : Stmt := top 55
abbrev s__law_sum : Stmt := top 56
abbrev s__law_shape : Stmt := top 57
abbrev s__law_plans_in : Stmt := top 58
abbrev s__law_is_a_plan : Stmt := top 59
abbrev s__law_few_figures : Stmt := top 60
abbrev s_law : Stmt := top 61
end K23
namespace K23.H
open PySem PySem.W PyProof.Rows L2
set_option maxRecDepth 100000
set_option maxHeartbeats 0
abbrev R : OpenLaw := PySem.Challenge.rw_matefloors_k23_shapes_of_plans
noncomputable def sT (P : Params) : Option Shared := topRun treeTable R.row.prog ⟨fun _ _ => 0, P⟩ 11 (some (.ref 6)) 20000 { heap := boot_heap P, drawn := boot_drawn, toks := boot_toks, os := default } (topStub R.row.prog)
noncomputable def hT (P : Params) : Heap := (sT P).elim default (·.heap)
def isNm : Stmt → Bool
  | .Assign [.Name x _] _ _ => x == "__name__"
  | _ => false
def V : Program := { R.row.prog with main := { R.row.prog.main with body := R.row.prog.main.body.filter fun s => !isNm s } }
def as : List Addr := [3, 71, 70, 78, 77, 85, 84, 92, 91, 99, 98, 106, 105, 113, 112, 120, 119, 127, 126, 134, 133, 141, 140, 148, 147, 153, 152, 160, 159, 167, 166, 174, 173, 181, 180, 188, 187, 195, 194, 202, 201, 207, 206, 212, 211, 219, 218, 226, 225, 233, 232, 240, 239, 247, 246, 254, 253, 259, 258, 266, 265, 273, 272, 280, 279, 287, 286, 294, 293, 301, 300, 306, 305, 313, 312, 320, 319, 327, 326, 334, 333, 339, 338, 346, 345, 351, 350, 356, 355, 363, 362, 370, 369, 377, 376, 64]
noncomputable def K (P : Params) : Frag := as.map fun a => (a, ((hT P).get? a).getD default)
theorem kAs (P : Params) : as = (K P).map (·.1) := by unfold K; rw [List.map_map]; exact (List.map_id _).symm
noncomputable def HK : Hook := kHook K as kAs
def posOf : Stmt → Pos
  | .FunctionDef _ _ _ _ _ _ _ _ _ p => p
  | _ => ⟨0, 0, 0, 0⟩
def D : DefRec := ⟨"law", defArgs K23.s_law, defBody K23.s_law, defScope K23.s_law, posOf K23.s_law⟩
def Xt : Shared → Bool := fun s => xlAt V [] s && recOk R.row.records s
theorem run (w : World) (os : OsState) : topRun treeTable R.row.prog w 11 (some (.ref 6)) 20000 { heap := boot_heap w.params, gens := #[], drawn := boot_drawn, toks := boot_toks, os := os } (topStub R.row.prog) = some { heap := hT w.params, gens := #[], drawn := {}, toks := 684, os := os } := by kernel_rfl
theorem seenA (w : World) (os : OsState) : (staticsOk (importedModules R.row.prog.main.body) (boot_heap w.params) (hT w.params) && namesBound R.row.prog (hT w.params) && gensDone { heap := hT w.params, gens := #[], drawn := {}, toks := 684, os := os } && laidKept (boot_heap w.params) (hT w.params)) = true := by kernel_rfl
theorem seenB (w : World) (os : OsState) : openSeen V [] (importedModules R.row.prog.main.body) Xt true { heap := hT w.params, gens := #[], drawn := {}, toks := 684, os := os } = openGood V [] := by kernel_rfl
theorem seenC (w : World) (os : OsState) : HK.obs { heap := hT w.params, gens := #[], drawn := {}, toks := 684, os := os } = HK.val w := by kernel_rfl
theorem seen (w : World) : (fun os => (staticsOk (importedModules R.row.prog.main.body) (boot_heap w.params) (hT w.params) && namesBound R.row.prog (hT w.params) && gensDone { heap := hT w.params, gens := #[], drawn := {}, toks := 684, os := os } && laidKept (boot_heap w.params) (hT w.params),
    openSeen V [] (importedModules R.row.prog.main.body) Xt true { heap := hT w.params, gens := #[], drawn := {}, toks := 684, os := os }, HK.obs { heap := hT w.params, gens := #[], drawn := {}, toks := 684, os := os })) = fun _ : OsState => (true, openGood V [], HK.val w) :=
  funext fun os => Prod.ext (seenA w os) (Prod.ext (seenB w os) (seenC w os))
theorem ws : R.wellSaid = true := by kernel_rfl
theorem facts (P : Params) : (nsIn (K P) mainGlobals "is_whole" = some (some (.ref 71)) ∧ (K P).lookup 71 = some ⟨.type "function", none, .func (fnOf "is_whole" "is_whole" (defArgs s_is_whole) (defBody s_is_whole) (defScope s_is_whole) .none .none .none (.str "matefloors.numbers" 255) none (.ref 70) .none), #[]⟩ ∧ codeIn (K P) (.ref 70) "is_whole" = true ∧ keepIn (K P) (.ref 71) = true) ∧ (nsIn (K P) mainGlobals "common_divisor" = some (some (.ref 78)) ∧ (K P).lookup 78 = some ⟨.type "function", none, .func (fnOf "common_divisor" "common_divisor" (defArgs s_common_divisor) (defBody s_common_divisor) (defScope s_common_divisor) .none .none .none (.str "matefloors.numbers" 255) none (.ref 77) .none), #[]⟩ ∧ codeIn (K P) (.ref 77) "common_divisor" = true ∧ keepIn (K P) (.ref 78) = true) ∧ (nsIn (K P) mainGlobals "is_number" = some (some (.ref 85)) ∧ (K P).lookup 85 = some ⟨.type "function", none, .func (fnOf "is_number" "is_number" (defArgs s_is_number) (defBody s_is_number) (defScope s_is_number) .none .none .none (.str "matefloors.numbers" 255) none (.ref 84) .none), #[]⟩ ∧ codeIn (K P) (.ref 84) "is_number" = true ∧ keepIn (K P) (.ref 85) = true) ∧ (nsIn (K P) mainGlobals "divisor_of_all" = some (some (.ref 92)) ∧ (K P).lookup 92 = some ⟨.type "function", none, .func (fnOf "divisor_of_all" "divisor_of_all" (defArgs s_divisor_of_all) (defBody s_divisor_of_all) (defScope s_divisor_of_all) .none .none .none (.str "matefloors.numbers" 255) none (.ref 91) .none), #[]⟩ ∧ codeIn (K P) (.ref 91) "divisor_of_all" = true ∧ keepIn (K P) (.ref 92) = true) ∧ (nsIn (K P) mainGlobals "number" = some (some (.ref 99)) ∧ (K P).lookup 99 = some ⟨.type "function", none, .func (fnOf "number" "number" (defArgs s_number) (defBody s_number) (defScope s_number) .none .none .none (.str "matefloors.numbers" 255) none (.ref 98) .none), #[]⟩ ∧ codeIn (K P) (.ref 98) "number" = true ∧ keepIn (K P) (.ref 99) = true) ∧ (nsIn (K P) mainGlobals "mate" = some (some (.ref 106)) ∧ (K P).lookup 106 = some ⟨.type "function", none, .func (fnOf "mate" "mate" (defArgs s_mate) (defBody s_mate) (defScope s_mate) .none .none .none (.str "matefloors.numbers" 255) none (.ref 105) .none), #[]⟩ ∧ codeIn (K P) (.ref 105) "mate" = true ∧ keepIn (K P) (.ref 106) = true) ∧ (nsIn (K P) mainGlobals "plus" = some (some (.ref 113)) ∧ (K P).lookup 113 = some ⟨.type "function", none, .func (fnOf "plus" "plus" (defArgs s_plus) (defBody s_plus) (defScope s_plus) .none .none .none (.str "matefloors.numbers" 255) none (.ref 112) .none), #[]⟩ ∧ codeIn (K P) (.ref 112) "plus" = true ∧ keepIn (K P) (.ref 113) = true) ∧ (nsIn (K P) mainGlobals "times" = some (some (.ref 120)) ∧ (K P).lookup 120 = some ⟨.type "function", none, .func (fnOf "times" "times" (defArgs s_times) (defBody s_times) (defScope s_times) .none .none .none (.str "matefloors.numbers" 255) none (.ref 119) .none), #[]⟩ ∧ codeIn (K P) (.ref 119) "times" = true ∧ keepIn (K P) (.ref 120) = true) ∧ (nsIn (K P) mainGlobals "contrary" = some (some (.ref 127)) ∧ (K P).lookup 127 = some ⟨.type "function", none, .func (fnOf "contrary" "contrary" (defArgs s_contrary) (defBody s_contrary) (defScope s_contrary) .none .none .none (.str "matefloors.numbers" 255) none (.ref 126) .none), #[]⟩ ∧ codeIn (K P) (.ref 126) "contrary" = true ∧ keepIn (K P) (.ref 127) = true) ∧ (nsIn (K P) mainGlobals "sign_of" = some (some (.ref 134)) ∧ (K P).lookup 134 = some ⟨.type "function", none, .func (fnOf "sign_of" "sign_of" (defArgs s_sign_of) (defBody s_sign_of) (defScope s_sign_of) .none .none .none (.str "matefloors.numbers" 255) none (.ref 133) .none), #[]⟩ ∧ codeIn (K P) (.ref 133) "sign_of" = true ∧ keepIn (K P) (.ref 134) = true) ∧ (nsIn (K P) mainGlobals "sign_of_parts" = some (some (.ref 141)) ∧ (K P).lookup 141 = some ⟨.type "function", none, .func (fnOf "sign_of_parts" "sign_of_parts" (defArgs s_sign_of_parts) (defBody s_sign_of_parts) (defScope s_sign_of_parts) .none .none .none (.str "matefloors.numbers" 255) none (.ref 140) .none), #[]⟩ ∧ codeIn (K P) (.ref 140) "sign_of_parts" = true ∧ keepIn (K P) (.ref 141) = true) ∧ (nsIn (K P) mainGlobals "is_above_nought" = some (some (.ref 148)) ∧ (K P).lookup 148 = some ⟨.type "function", none, .func (fnOf "is_above_nought" "is_above_nought" (defArgs s_is_above_nought) (defBody s_is_above_nought) (defScope s_is_above_nought) .none .none .none (.str "matefloors.numbers" 255) none (.ref 147) .none), #[]⟩ ∧ codeIn (K P) (.ref 147) "is_above_nought" = true ∧ keepIn (K P) (.ref 148) = true) ∧ (nsIn (K P) mainGlobals "is_kinds" = some (some (.ref 153)) ∧ (K P).lookup 153 = some ⟨.type "function", none, .func (fnOf "is_kinds" "is_kinds" (defArgs s_is_kinds) (defBody s_is_kinds) (defScope s_is_kinds) .none .none .none (.str "matefloors.layings" 364) none (.ref 152) .none), #[]⟩ ∧ codeIn (K P) (.ref 152) "is_kinds" = true ∧ keepIn (K P) (.ref 153) = true) ∧ (nsIn (K P) mainGlobals "must_be_kinds" = some (some (.ref 160)) ∧ (K P).lookup 160 = some ⟨.type "function", none, .func (fnOf "must_be_kinds" "must_be_kinds" (defArgs s_must_be_kinds) (defBody s_must_be_kinds) (defScope s_must_be_kinds) .none .none .none (.str "matefloors.layings" 364) none (.ref 159) .none), #[]⟩ ∧ codeIn (K P) (.ref 159) "must_be_kinds" = true ∧ keepIn (K P) (.ref 160) = true) ∧ (nsIn (K P) mainGlobals "is_plan" = some (some (.ref 167)) ∧ (K P).lookup 167 = some ⟨.type "function", none, .func (fnOf "is_plan" "is_plan" (defArgs s_is_plan) (defBody s_is_plan) (defScope s_is_plan) .none .none .none (.str "matefloors.plans" 382) none (.ref 166) .none), #[]⟩ ∧ codeIn (K P) (.ref 166) "is_plan" = true ∧ keepIn (K P) (.ref 167) = true) ∧ (nsIn (K P) mainGlobals "has_form" = some (some (.ref 174)) ∧ (K P).lookup 174 = some ⟨.type "function", none, .func (fnOf "has_form" "has_form" (defArgs s_has_form) (defBody s_has_form) (defScope s_has_form) .none .none .none (.str "matefloors.plans" 382) none (.ref 173) .none), #[]⟩ ∧ codeIn (K P) (.ref 173) "has_form" = true ∧ keepIn (K P) (.ref 174) = true) ∧ (nsIn (K P) mainGlobals "is_count" = some (some (.ref 181)) ∧ (K P).lookup 181 = some ⟨.type "function", none, .func (fnOf "is_count" "is_count" (defArgs s_is_count) (defBody s_is_count) (defScope s_is_count) .none .none .none (.str "matefloors.plans" 382) none (.ref 180) .none), #[]⟩ ∧ codeIn (K P) (.ref 180) "is_count" = true ∧ keepIn (K P) (.ref 181) = true) ∧ (nsIn (K P) mainGlobals "parts_of" = some (some (.ref 188)) ∧ (K P).lookup 188 = some ⟨.type "function", none, .func (fnOf "parts_of" "parts_of" (defArgs s_parts_of) (defBody s_parts_of) (defScope s_parts_of) .none .none .none (.str "matefloors.plans" 382) none (.ref 187) .none), #[]⟩ ∧ codeIn (K P) (.ref 187) "parts_of" = true ∧ keepIn (K P) (.ref 188) = true) ∧ (nsIn (K P) mainGlobals "must_be_plan" = some (some (.ref 195)) ∧ (K P).lookup 195 = some ⟨.type "function", none, .func (fnOf "must_be_plan" "must_be_plan" (defArgs s_must_be_plan) (defBody s_must_be_plan) (defScope s_must_be_plan) .none .none .none (.str "matefloors.plans" 382) none (.ref 194) .none), #[]⟩ ∧ codeIn (K P) (.ref 194) "must_be_plan" = true ∧ keepIn (K P) (.ref 195) = true) ∧ (nsIn (K P) mainGlobals "shape_of" = some (some (.ref 202)) ∧ (K P).lookup 202 = some ⟨.type "function", none, .func (fnOf "shape_of" "shape_of" (defArgs s_shape_of) (defBody s_shape_of) (defScope s_shape_of) .none .none .none (.str "matefloors.plans" 382) none (.ref 201) .none), #[]⟩ ∧ codeIn (K P) (.ref 201) "shape_of" = true ∧ keepIn (K P) (.ref 202) = true) ∧ (nsIn (K P) mainGlobals "mate_shape" = some (some (.ref 207)) ∧ (K P).lookup 207 = some ⟨.type "function", none, .func (fnOf "mate_shape" "mate_shape" (defArgs s_mate_shape) (defBody s_mate_shape) (defScope s_mate_shape) .none .none .none (.str "matefloors.plans" 382) none (.ref 206) .none), #[]⟩ ∧ codeIn (K P) (.ref 206) "mate_shape" = true ∧ keepIn (K P) (.ref 207) = true) ∧ (nsIn (K P) mainGlobals "made_of" = some (some (.ref 212)) ∧ (K P).lookup 212 = some ⟨.type "function", none, .func (fnOf "made_of" "made_of" (defArgs s_made_of) (defBody s_made_of) (defScope s_made_of) .none .none .none (.str "matefloors.plans" 382) none (.ref 211) .none), #[]⟩ ∧ codeIn (K P) (.ref 211) "made_of" = true ∧ keepIn (K P) (.ref 212) = true) ∧ (nsIn (K P) mainGlobals "sum_of" = some (some (.ref 219)) ∧ (K P).lookup 219 = some ⟨.type "function", none, .func (fnOf "sum_of" "sum_of" (defArgs s_sum_of) (defBody s_sum_of) (defScope s_sum_of) .none .none .none (.str "matefloors.plans" 382) none (.ref 218) .none), #[]⟩ ∧ codeIn (K P) (.ref 218) "sum_of" = true ∧ keepIn (K P) (.ref 219) = true) ∧ (nsIn (K P) mainGlobals "_law_bag" = some (some (.ref 226)) ∧ (K P).lookup 226 = some ⟨.type "function", none, .func (fnOf "_law_bag" "_law_bag" (defArgs s__law_bag) (defBody s__law_bag) (defScope s__law_bag) .none .none .none (.str "law_matefloors_k23_shapes_of_plans" 467) none (.ref 225) .none), #[]⟩ ∧ codeIn (K P) (.ref 225) "_law_bag" = true ∧ keepIn (K P) (.ref 226) = true) ∧ (nsIn (K P) mainGlobals "_law_take" = some (some (.ref 233)) ∧ (K P).lookup 233 = some ⟨.type "function", none, .func (fnOf "_law_take" "_law_take" (defArgs s__law_take) (defBody s__law_take) (defScope s__law_take) .none .none .none (.str "law_matefloors_k23_shapes_of_plans" 467) none (.ref 232) .none), #[]⟩ ∧ codeIn (K P) (.ref 232) "_law_take" = true ∧ keepIn (K P) (.ref 233) = true) ∧ (nsIn (K P) mainGlobals "_law_is_whole" = some (some (.ref 240)) ∧ (K P).lookup 240 = some ⟨.type "function", none, .func (fnOf "_law_is_whole" "_law_is_whole" (defArgs s__law_is_whole) (defBody s__law_is_whole) (defScope s__law_is_whole) .none .none .none (.str "law_matefloors_k23_shapes_of_plans" 467) none (.ref 239) .none), #[]⟩ ∧ codeIn (K P) (.ref 239) "_law_is_whole" = true ∧ keepIn (K P) (.ref 240) = true) ∧ (nsIn (K P) mainGlobals "_law_shared" = some (some (.ref 247)) ∧ (K P).lookup 247 = some ⟨.type "function", none, .func (fnOf "_law_shared" "_law_shared" (defArgs s__law_shared) (defBody s__law_shared) (defScope s__law_shared) .none .none .none (.str "law_matefloors_k23_shapes_of_plans" 467) none (.ref 246) .none), #[]⟩ ∧ codeIn (K P) (.ref 246) "_law_shared" = true ∧ keepIn (K P) (.ref 247) = true) ∧ (nsIn (K P) mainGlobals "_law_low" = some (some (.ref 254)) ∧ (K P).lookup 254 = some ⟨.type "function", none, .func (fnOf "_law_low" "_law_low" (defArgs s__law_low) (defBody s__law_low) (defScope s__law_low) .none .none .none (.str "law_matefloors_k23_shapes_of_plans" 467) none (.ref 253) .none), #[]⟩ ∧ codeIn (K P) (.ref 253) "_law_low" = true ∧ keepIn (K P) (.ref 254) = true) ∧ (nsIn (K P) mainGlobals "_law_is_number" = some (some (.ref 259)) ∧ (K P).lookup 259 = some ⟨.type "function", none, .func (fnOf "_law_is_number" "_law_is_number" (defArgs s__law_is_number) (defBody s__law_is_number) (defScope s__law_is_number) .none .none .none (.str "law_matefloors_k23_shapes_of_plans" 467) none (.ref 258) .none), #[]⟩ ∧ codeIn (K P) (.ref 258) "_law_is_number" = true ∧ keepIn (K P) (.ref 259) = true) ∧ (nsIn (K P) mainGlobals "_law_plus" = some (some (.ref 266)) ∧ (K P).lookup 266 = some ⟨.type "function", none, .func (fnOf "_law_plus" "_law_plus" (defArgs s__law_plus) (defBody s__law_plus) (defScope s__law_plus) .none .none .none (.str "law_matefloors_k23_shapes_of_plans" 467) none (.ref 265) .none), #[]⟩ ∧ codeIn (K P) (.ref 265) "_law_plus" = true ∧ keepIn (K P) (.ref 266) = true) ∧ (nsIn (K P) mainGlobals "_law_minus" = some (some (.ref 273)) ∧ (K P).lookup 273 = some ⟨.type "function", none, .func (fnOf "_law_minus" "_law_minus" (defArgs s__law_minus) (defBody s__law_minus) (defScope s__law_minus) .none .none .none (.str "law_matefloors_k23_shapes_of_plans" 467) none (.ref 272) .none), #[]⟩ ∧ codeIn (K P) (.ref 272) "_law_minus" = true ∧ keepIn (K P) (.ref 273) = true) ∧ (nsIn (K P) mainGlobals "_law_mate" = some (some (.ref 280)) ∧ (K P).lookup 280 = some ⟨.type "function", none, .func (fnOf "_law_mate" "_law_mate" (defArgs s__law_mate) (defBody s__law_mate) (defScope s__law_mate) .none .none .none (.str "law_matefloors_k23_shapes_of_plans" 467) none (.ref 279) .none), #[]⟩ ∧ codeIn (K P) (.ref 279) "_law_mate" = true ∧ keepIn (K P) (.ref 280) = true) ∧ (nsIn (K P) mainGlobals "_law_times" = some (some (.ref 287)) ∧ (K P).lookup 287 = some ⟨.type "function", none, .func (fnOf "_law_times" "_law_times" (defArgs s__law_times) (defBody s__law_times) (defScope s__law_times) .none .none .none (.str "law_matefloors_k23_shapes_of_plans" 467) none (.ref 286) .none), #[]⟩ ∧ codeIn (K P) (.ref 286) "_law_times" = true ∧ keepIn (K P) (.ref 287) = true) ∧ (nsIn (K P) mainGlobals "_law_contrary" = some (some (.ref 294)) ∧ (K P).lookup 294 = some ⟨.type "function", none, .func (fnOf "_law_contrary" "_law_contrary" (defArgs s__law_contrary) (defBody s__law_contrary) (defScope s__law_contrary) .none .none .none (.str "law_matefloors_k23_shapes_of_plans" 467) none (.ref 293) .none), #[]⟩ ∧ codeIn (K P) (.ref 293) "_law_contrary" = true ∧ keepIn (K P) (.ref 294) = true) ∧ (nsIn (K P) mainGlobals "_law_sign" = some (some (.ref 301)) ∧ (K P).lookup 301 = some ⟨.type "function", none, .func (fnOf "_law_sign" "_law_sign" (defArgs s__law_sign) (defBody s__law_sign) (defScope s__law_sign) .none .none .none (.str "law_matefloors_k23_shapes_of_plans" 467) none (.ref 300) .none), #[]⟩ ∧ codeIn (K P) (.ref 300) "_law_sign" = true ∧ keepIn (K P) (.ref 301) = true) ∧ (nsIn (K P) mainGlobals "_law_root" = some (some (.ref 306)) ∧ (K P).lookup 306 = some ⟨.type "function", none, .func (fnOf "_law_root" "_law_root" (defArgs s__law_root) (defBody s__law_root) (defScope s__law_root) .none .none .none (.str "law_matefloors_k23_shapes_of_plans" 467) none (.ref 305) .none), #[]⟩ ∧ codeIn (K P) (.ref 305) "_law_root" = true ∧ keepIn (K P) (.ref 306) = true) ∧ (nsIn (K P) mainGlobals "_law_number" = some (some (.ref 313)) ∧ (K P).lookup 313 = some ⟨.type "function", none, .func (fnOf "_law_number" "_law_number" (defArgs s__law_number) (defBody s__law_number) (defScope s__law_number) .none .none .none (.str "law_matefloors_k23_shapes_of_plans" 467) none (.ref 312) .none), #[]⟩ ∧ codeIn (K P) (.ref 312) "_law_number" = true ∧ keepIn (K P) (.ref 313) = true) ∧ (nsIn (K P) mainGlobals "_law_above" = some (some (.ref 320)) ∧ (K P).lookup 320 = some ⟨.type "function", none, .func (fnOf "_law_above" "_law_above" (defArgs s__law_above) (defBody s__law_above) (defScope s__law_above) .none .none .none (.str "law_matefloors_k23_shapes_of_plans" 467) none (.ref 319) .none), #[]⟩ ∧ codeIn (K P) (.ref 319) "_law_above" = true ∧ keepIn (K P) (.ref 320) = true) ∧ (nsIn (K P) mainGlobals "_law_kinds" = some (some (.ref 327)) ∧ (K P).lookup 327 = some ⟨.type "function", none, .func (fnOf "_law_kinds" "_law_kinds" (defArgs s__law_kinds) (defBody s__law_kinds) (defScope s__law_kinds) .none .none .none (.str "law_matefloors_k23_shapes_of_plans" 467) none (.ref 326) .none), #[]⟩ ∧ codeIn (K P) (.ref 326) "_law_kinds" = true ∧ keepIn (K P) (.ref 327) = true) ∧ (nsIn (K P) mainGlobals "_law_grid_size" = some (some (.ref 334)) ∧ (K P).lookup 334 = some ⟨.type "function", none, .func (fnOf "_law_grid_size" "_law_grid_size" (defArgs s__law_grid_size) (defBody s__law_grid_size) (defScope s__law_grid_size) .none .none .none (.str "law_matefloors_k23_shapes_of_plans" 467) none (.ref 333) .none), #[]⟩ ∧ codeIn (K P) (.ref 333) "_law_grid_size" = true ∧ keepIn (K P) (.ref 334) = true) ∧ (nsIn (K P) mainGlobals "_law_plan" = some (some (.ref 339)) ∧ (K P).lookup 339 = some ⟨.type "function", none, .func (fnOf "_law_plan" "_law_plan" (defArgs s__law_plan) (defBody s__law_plan) (defScope s__law_plan) .none .none .none (.str "law_matefloors_k23_shapes_of_plans" 467) none (.ref 338) .none), #[]⟩ ∧ codeIn (K P) (.ref 338) "_law_plan" = true ∧ keepIn (K P) (.ref 339) = true) ∧ (nsIn (K P) mainGlobals "_law_sum" = some (some (.ref 346)) ∧ (K P).lookup 346 = some ⟨.type "function", none, .func (fnOf "_law_sum" "_law_sum" (defArgs s__law_sum) (defBody s__law_sum) (defScope s__law_sum) .none .none .none (.str "law_matefloors_k23_shapes_of_plans" 467) none (.ref 345) .none), #[]⟩ ∧ codeIn (K P) (.ref 345) "_law_sum" = true ∧ keepIn (K P) (.ref 346) = true) ∧ (nsIn (K P) mainGlobals "_law_shape" = some (some (.ref 351)) ∧ (K P).lookup 351 = some ⟨.type "function", none, .func (fnOf "_law_shape" "_law_shape" (defArgs s__law_shape) (defBody s__law_shape) (defScope s__law_shape) .none .none .none (.str "law_matefloors_k23_shapes_of_plans" 467) none (.ref 350) .none), #[]⟩ ∧ codeIn (K P) (.ref 350) "_law_shape" = true ∧ keepIn (K P) (.ref 351) = true) ∧ (nsIn (K P) mainGlobals "_law_plans_in" = some (some (.ref 356)) ∧ (K P).lookup 356 = some ⟨.type "function", none, .func (fnOf "_law_plans_in" "_law_plans_in" (defArgs s__law_plans_in) (defBody s__law_plans_in) (defScope s__law_plans_in) .none .none .none (.str "law_matefloors_k23_shapes_of_plans" 467) none (.ref 355) .none), #[]⟩ ∧ codeIn (K P) (.ref 355) "_law_plans_in" = true ∧ keepIn (K P) (.ref 356) = true) ∧ (nsIn (K P) mainGlobals "_law_is_a_plan" = some (some (.ref 363)) ∧ (K P).lookup 363 = some ⟨.type "function", none, .func (fnOf "_law_is_a_plan" "_law_is_a_plan" (defArgs s__law_is_a_plan) (defBody s__law_is_a_plan) (defScope s__law_is_a_plan) .none .none .none (.str "law_matefloors_k23_shapes_of_plans" 467) none (.ref 362) .none), #[]⟩ ∧ codeIn (K P) (.ref 362) "_law_is_a_plan" = true ∧ keepIn (K P) (.ref 363) = true) ∧ (nsIn (K P) mainGlobals "_law_few_figures" = some (some (.ref 370)) ∧ (K P).lookup 370 = some ⟨.type "function", none, .func (fnOf "_law_few_figures" "_law_few_figures" (defArgs s__law_few_figures) (defBody s__law_few_figures) (defScope s__law_few_figures) .none .none .none (.str "law_matefloors_k23_shapes_of_plans" 467) none (.ref 369) .none), #[]⟩ ∧ codeIn (K P) (.ref 369) "_law_few_figures" = true ∧ keepIn (K P) (.ref 370) = true) ∧ (nsIn (K P) mainGlobals "law" = some (some (.ref 377)) ∧ (K P).lookup 377 = some ⟨.type "function", none, .func (fnOf "law" "law" (defArgs s_law) (defBody s_law) (defScope s_law) .none .none .none (.str "law_matefloors_k23_shapes_of_plans" 467) none (.ref 376) .none), #[]⟩ ∧ codeIn (K P) (.ref 376) "law" = true ∧ keepIn (K P) (.ref 377) = true) ∧ nsIn (K P) mainGlobals "isinstance" = some none ∧ nsIn (K P) mainGlobals "int" = some none ∧ nsIn (K P) mainGlobals "bool" = some none ∧ nsIn (K P) mainGlobals "abs" = some none ∧ nsIn (K P) mainGlobals "tuple" = some none ∧ nsIn (K P) mainGlobals "len" = some none ∧ nsIn (K P) mainGlobals "all" = some none ∧ nsIn (K P) mainGlobals "list" = some none ∧ nsIn (K P) mainGlobals "range" = some none ∧ nsIn (K P) mainGlobals "min" = some none ∧ nsIn (K P) mainGlobals "max" = some none ∧ nsIn (K P) mainGlobals "sum" = some none ∧ nsIn (K P) mainGlobals "MOST_KINDS" = some (some (.int 3 366)) ∧ nsIn (K P) mainGlobals "MOST_WITHIN" = some (some (.int 12 384)) ∧ nsIn (K P) mainGlobals "MOST_PLANS" = some (some (.int 60 386)) ∧ nsIn (K P) mainGlobals "LEAST_PARTS" = some (some (.int 2 388)) ∧ nsIn (K P) mainGlobals "MOST_PARTS" = some (some (.int 8 390)) ∧ (nsIn (K P) mainGlobals "NOUGHT" = some (some (.ref 64)) ∧ (K P).lookup 64 = some ⟨.type "tuple", none, .seq #[.int 0 257, .int 0 258, .int 1 259] 0, #[]⟩) :=
  ⟨⟨by kernel_rfl, by kernel_rfl, by kernel_rfl, by kernel_rfl⟩, ⟨by kernel_rfl, by kernel_rfl, by kernel_rfl, by kernel_rfl⟩, ⟨by kernel_rfl, by kernel_rfl, by kernel_rfl, by kernel_rfl⟩, ⟨by kernel_rfl, by kernel_rfl, by kernel_rfl, by kernel_rfl⟩, ⟨by kernel_rfl, by kernel_rfl, by kernel_rfl, by kernel_rfl⟩, ⟨by kernel_rfl, by kernel_rfl, by kernel_rfl, by kernel_rfl⟩, ⟨by kernel_rfl, by kernel_rfl, by kernel_rfl, by kernel_rfl⟩, ⟨by kernel_rfl, by kernel_rfl, by kernel_rfl, by kernel_rfl⟩, ⟨by kernel_rfl, by kernel_rfl, by kernel_rfl, by kernel_rfl⟩, ⟨by kernel_rfl, by kernel_rfl, by kernel_rfl, by kernel_rfl⟩, ⟨by kernel_rfl, by kernel_rfl, by kernel_rfl, by kernel_rfl⟩, ⟨by kernel_rfl, by kernel_rfl, by kernel_rfl, by kernel_rfl⟩, ⟨by kernel_rfl, by kernel_rfl, by kernel_rfl, by kernel_rfl⟩, ⟨by kernel_rfl, by kernel_rfl, by kernel_rfl, by kernel_rfl⟩, ⟨by kernel_rfl, by kernel_rfl, by kernel_rfl, by kernel_rfl⟩, ⟨by kernel_rfl, by kernel_rfl, by kernel_rfl, by kernel_rfl⟩, ⟨by kernel_rfl, by kernel_rfl, by kernel_rfl, by kernel_rfl⟩, ⟨by kernel_rfl, by kernel_rfl, by kernel_rfl, by kernel_rfl⟩, ⟨by kernel_rfl, by kernel_rfl, by kernel_rfl, by kernel_rfl⟩, ⟨by kernel_rfl, by kernel_rfl, by kernel_rfl, by kernel_rfl⟩, ⟨by kernel_rfl, by kernel_rfl, by kernel_rfl, by kernel_rfl⟩, ⟨by kernel_rfl, by kernel_rfl, by kernel_rfl, by kernel_rfl⟩, ⟨by kernel_rfl, by kernel_rfl, by kernel_rfl, by kernel_rfl⟩, ⟨by kernel_rfl, by kernel_rfl, by kernel_rfl, by kernel_rfl⟩, ⟨by kernel_rfl, by kernel_rfl, by kernel_rfl, by kernel_rfl⟩, ⟨by kernel_rfl, by kernel_rfl, by kernel_rfl, by kernel_rfl⟩, ⟨by kernel_rfl, by kernel_rfl, by kernel_rfl, by kernel_rfl⟩, ⟨by kernel_rfl, by kernel_rfl, by kernel_rfl, by kernel_rfl⟩, ⟨by kernel_rfl, by kernel_rfl, by kernel_rfl, by kernel_rfl⟩, ⟨by kernel_rfl, by kernel_rfl, by kernel_rfl, by kernel_rfl⟩, ⟨by kernel_rfl, by kernel_rfl, by kernel_rfl, by kernel_rfl⟩, ⟨by kernel_rfl, by kernel_rfl, by kernel_rfl, by kernel_rfl⟩, ⟨by kernel_rfl, by kernel_rfl, by kernel_rfl, by kernel_rfl⟩, ⟨by kernel_rfl, by kernel_rfl, by kernel_rfl, by kernel_rfl⟩, ⟨by kernel_rfl, by kernel_rfl, by kernel_rfl, by kernel_rfl⟩, ⟨by kernel_rfl, by kernel_rfl, by kernel_rfl, by kernel_rfl⟩, ⟨by kernel_rfl, by kernel_rfl, by kernel_rfl, by kernel_rfl⟩, ⟨by kernel_rfl, by kernel_rfl, by kernel_rfl, by kernel_rfl⟩, ⟨by kernel_rfl, by kernel_rfl, by kernel_rfl, by kernel_rfl⟩, ⟨by kernel_rfl, by kernel_rfl, by kernel_rfl, by kernel_rfl⟩, ⟨by kernel_rfl, by kernel_rfl, by kernel_rfl, by kernel_rfl⟩, ⟨by kernel_rfl, by kernel_rfl, by kernel_rfl, by kernel_rfl⟩, ⟨by kernel_rfl, by kernel_rfl, by kernel_rfl, by kernel_rfl⟩, ⟨by kernel_rfl, by kernel_rfl, by kernel_rfl, by kernel_rfl⟩, ⟨by kernel_rfl, by kernel_rfl, by kernel_rfl, by kernel_rfl⟩, ⟨by kernel_rfl, by kernel_rfl, by kernel_rfl, by kernel_rfl⟩, ⟨by kernel_rfl, by kernel_rfl, by kernel_rfl, by kernel_rfl⟩, by kernel_rfl, by kernel_rfl, by kernel_rfl, by kernel_rfl, by kernel_rfl, by kernel_rfl, by kernel_rfl, by kernel_rfl, by kernel_rfl, by kernel_rfl, by kernel_rfl, by kernel_rfl, by kernel_rfl, by kernel_rfl, by kernel_rfl, by kernel_rfl, by kernel_rfl, ⟨by kernel_rfl, by kernel_rfl⟩⟩
theorem left : LeftO R.row.prog V [] Xt HK.obs HK.val 20000 :=
  LeftO.of_pieces (H₀ := boot_heap) (H₁ := hT) (gs₀ := #[]) (gs₁ := #[]) (d₀ := boot_drawn) (d₁ := {}) (k₀ := boot_toks) (k₁ := 684) (m₀ := 11) (ann := some (.ref 6)) (M := 20000)
    (boot_open (by kernel_rfl) (by kernel_rfl) (fun s => by kernel_rfl)) (fun w => by kernel_rfl) run (by kernel_rfl) seen
end K23.H
set_option Elab.async false
set_option linter.all false
set_option maxRecDepth 100000
namespace L2
open PySem PySem.Spec PyProof.Rows
abbrev Key := Sum Int Str
def keyIs : Key → Value → Bool
  | .inl k, v => Value.isInt k v
  | .inr x, v => Value.isStrOf x v
def keyH (w : World) : Key → Int
  | .inl k => hashInt k
  | .inr x => hashStr w x
theorem keyIs_shape : ∀ {k : Key} {v : Value}, keyIs k v = true → (∃ i t, k = Sum.inl i ∧ v = Value.int i t) ∨ (∃ x t, k = Sum.inr x ∧ v = Value.str x t)
  | .inl i, v, h => by
    obtain ⟨t, e⟩ := Value.isInt_shape (k := i) (v := v) h
    exact .inl ⟨i, t, rfl, e⟩
  | .inr x, v, h => by
    obtain ⟨t, e⟩ := Value.isStrOf_shape (x := x) (v := v) h
    exact .inr ⟨x, t, rfl, e⟩
theorem key_ll (a b : Int) : decide ((Sum.inl a : Key) = Sum.inl b) = (a == b) := by
  by_cases e : a = b
  · subst e; simp
  · have h : ¬ (Sum.inl a : Key) = Sum.inl b := fun q => e (Sum.inl.inj q)
    rw [decide_eq_false h]
    exact (beq_eq_false_iff_ne.mpr e).symm
theorem key_rr (a b : Str) : decide ((Sum.inr a : Key) = Sum.inr b) = decide (a = b) := by
  by_cases e : a = b
  · subst e; simp
  · have h : ¬ (Sum.inr a : Key) = Sum.inr b := fun q => e (Sum.inr.inj q)
    rw [decide_eq_false h, decide_eq_false e]
theorem key_lr (a : Int) (b : Str) : decide ((Sum.inl a : Key) = Sum.inr b) = false := decide_eq_false (fun q => nomatch q)
theorem key_rl (a : Str) (b : Int) : decide ((Sum.inr a : Key) = Sum.inl b) = false := decide_eq_false (fun q => nomatch q)
def mixKind (prog : Program) (w : World) : PySem.KeyKind prog w Key where
  is := keyIs
  hash := keyH w
  inj := fun v a b ha hb => by
    rcases keyIs_shape ha with ⟨i, t, rfl, rfl⟩ | ⟨x, t, rfl, rfl⟩
    · rcases keyIs_shape hb with ⟨j, u, rfl, e⟩ | ⟨y, u, rfl, e⟩
      · injection e with e1 _; rw [e1]
      · exact nomatch e
    · rcases keyIs_shape hb with ⟨j, u, rfl, e⟩ | ⟨y, u, rfl, e⟩
      · exact nomatch e
      · injection e with e1 _; rw [e1]
  byValue := fun k v h => by
    rcases keyIs_shape h with ⟨i, t, rfl, rfl⟩ | ⟨x, t, rfl, rfl⟩ <;> rfl
  pyHash := fun hv h => by
    rcases keyIs_shape hv with ⟨i, t, rfl, rfl⟩ | ⟨x, t, rfl, rfl⟩
    · exact wpAny_pyHash_int h
    · exact wpAny_pyHash_str h
  eqBool := fun hu hv h => by
    rcases keyIs_shape hu with ⟨i, t, rfl, rfl⟩ | ⟨x, t, rfl, rfl⟩
    · rcases keyIs_shape hv with ⟨j, u, rfl, rfl⟩ | ⟨y, u, rfl, rfl⟩
      · rw [key_ll] at h; exact wpAny_eqBool_int h
      · rw [key_lr] at h; exact SeqAt.EqAt.int_str i t y u _ _ _ _ h
    · rcases keyIs_shape hv with ⟨j, u, rfl, rfl⟩ | ⟨y, u, rfl, rfl⟩
      · rw [key_rl] at h; exact SeqAt.EqAt.str_int x t j u _ _ _ _ h
      · rw [key_rr] at h; exact wpAny_eqBool_str h
  «strs» := fun k x t v h => by
    rcases keyIs_shape h with ⟨i, u, rfl, e⟩ | ⟨y, u, rfl, e⟩
    · exact nomatch e
    · injection e with e1 _
      subst e1
      cases v <;> rfl
end L2
namespace L2
open PySem PySem.Spec PyProof.Rows
inductive V where
  | non | bl (b : Bool) | int (i : Int) | str (x : Str) | byt (b : Array UInt8) | flt (b : UInt64) | ref (a : Addr) | ty (n : String)
  deriving DecidableEq
def RelV : V → Value → Prop
  | .non, u => u = Value.none
  | .bl b, u => u = Value.bool b
  | .int i, u => ∃ t, u = Value.int i t
  | .str x, u => ∃ t, u = Value.str x t
  | .byt b, u => ∃ t, u = Value.bytes b t
  | .flt b, u => ∃ t, u = Value.float b t
  | .ref a, u => u = Value.ref a
  | .ty n, u => u = Value.type n
abbrev Vals : List V → List Value → Prop := Paired RelV
theorem Vals.length {xs : List V} {us : List Value} (r : Vals xs us) : xs.length = us.length := Paired.length r
theorem Vals.get : ∀ {xs : List V} {us : List Value} {i : Nat} {x : V}, Vals xs us → xs[i]? = some x → ∃ u, us[i]? = some u ∧ RelV x u
  | _, _, _, _, .nil, e => by simp at e
  | _, _, 0, _, .cons r _, e => by simp at e; subst e; exact ⟨_, rfl, r⟩
  | _, _, i + 1, x, .cons _ t, e => by
    obtain ⟨u, h1, h2⟩ := Vals.get (i := i) (x := x) t (by simpa using e)
    exact ⟨u, by simpa using h1, h2⟩
theorem Vals.set {x : V} {u : Value} (r : RelV x u) : ∀ {xs : List V} {us : List Value} (i : Nat), Vals xs us → Vals (xs.set i x) (us.set i u)
  | _, _, _, .nil => .nil
  | _, _, 0, .cons _ t => .cons r t
  | _, _, i + 1, .cons q t => .cons q (Vals.set r i t)
theorem Vals.append : ∀ {xs ys : List V} {us ws : List Value}, Vals xs us → Vals ys ws → Vals (xs ++ ys) (us ++ ws)
  | _, _, _, _, .nil, s => s
  | _, _, _, _, .cons r t, s => .cons r (Vals.append t s)
theorem Vals.take : ∀ {xs : List V} {us : List Value} (n : Nat), Vals xs us → Vals (xs.take n) (us.take n)
  | _, _, 0, _ => .nil
  | _, _, _ + 1, .nil => .nil
  | _, _, n + 1, .cons r t => .cons r (Vals.take n t)
theorem Vals.drop : ∀ {xs : List V} {us : List Value} (n : Nat), Vals xs us → Vals (xs.drop n) (us.drop n)
  | _, _, 0, r => r
  | _, _, _ + 1, .nil => .nil
  | _, _, n + 1, .cons _ t => Vals.drop n t
def RelO : Option V → Option Value → Prop
  | some v, some u => RelV v u
  | none, none => True
  | _, _ => False
def KV {κ : Type} : List (κ × V) → List (κ × Value) → Prop := Paired fun (p : κ × V) (q : κ × Value) => p.1 = q.1 ∧ RelV p.2 q.2
def kV : Key → V
  | .inl i => .int i
  | .inr x => .str x
inductive HO where
  /-- a list -/
  | lst (xs : List V)
  /-- a tuple (never changes) -/
  | tup (xs : List V)
  /-- a dict whose keys are ints and texts; one whose keys are tuples of ints and texts (the empty one is both) -/
  | dK (kvs : List (Key × V)) | dT (kvs : List (List Key × V))
  /-- a set of ints: its members, its size -/
  | set (S : Int → Bool) (n : Nat)
  /-- an instance of the class at C, its dict at dx, its attributes -/
  | ins (C dx : Addr) (fs : List (Str × V))
  /-- the dict of the instance at x -/
  | own (x : Addr)
  /-- the dict of an exception -/
  | xd (fs : List (Str × V))
  /-- a bound method, f of x -/
  | met (f x : Addr)
  /-- a range object lo, lo + 1, .. below hi -/
  | rng (lo hi : Int)
  /-- a thing that is known to the object (the script; a dict while a loop walks it): read, never written while it is so -/
  | frz (o : Obj) (u : HO)
  /-- a code object's table -/
  | tbl (ps : Array Value)
  /-- any other thing, by what is true of its one object (a def of one's own: SetO a S n := HO.ext fun h => ..) -/
  | ext (φ : Heap → Prop)
abbrev Hp := Addr → Option HO
def upd (H : Hp) (a : Addr) (o : HO) : Hp := fun b => if b = a then some o else H b
theorem upd_same {H : Hp} {a : Addr} {o : HO} : upd H a o a = some o := by unfold upd; rw [if_pos rfl]
theorem upd_ne {H : Hp} {a b : Addr} {o : HO} (h : b ≠ a) : upd H a o b = H b := by unfold upd; rw [if_neg h]
theorem ne_of_none {H : Hp} {a b : Addr} {o : HO} (h : H a = some o) (h' : H b = none) : a ≠ b := by
  intro e; subst e; rw [h] at h'; cases h'
section
variable (P : Program) (w : World)
def ObjOk (H : Hp) (h : Heap) (a : Addr) : HO → Prop
  | .lst xs => xs.length ≤ sizeLine ∧ ∃ (its : List Value) (n : Nat), Vals xs its ∧ h.get? a = some { cls := .type "list", data := .seq its.toArray n }
  | .tup xs => xs.length ≤ sizeLine ∧ ∃ its : List Value, Vals xs its ∧ IsTup h a its.toArray
  | .dK kvs => kvs.length ≤ sizeLine ∧ (a == sysModules) = false ∧ ∃ vs, KV kvs vs ∧ h.DictOf (mixKind P w) a vs
  | .dT kvs => kvs.length ≤ sizeLine ∧ (a == sysModules) = false ∧ ∃ xs : List (List Key × Addr × Value),
      Paired (fun (p : List Key × V) (q : List Key × Addr × Value) => p.1 = q.1 ∧ H q.2.1 = some (.tup (p.1.map kV)) ∧ RelV p.2 q.2.2) kvs xs ∧
      ∃ o es ep, h.get? a = some o ∧ o.ExactDict ∧ o.data = .dict es ep ∧ es.toList = xs.map (entryOfKey (tupleKind (mixKind P w))) ∧ (xs.map (·.1)).Nodup
  | .set S n => h.SetOf (intKind P w) a S n
  | .ins C dx fs => H dx = some (.own a) ∧ fs.length ≤ 1000 ∧ dx ≠ a ∧ h.get? a = some (PySem.W.instObj C dx) ∧
      ∃ mA, h.Ns1 dx mA ∧ (∀ f, RelO (fs.lookup f) (mA f)) ∧ PySem.Within mA (fs.map (·.1))
  | .own _ => ∃ o, h.get? a = some o
  | .xd fs => ∃ mA, h.Ns1 a mA ∧ ∀ f, RelO (fs.lookup f) (mA f)
  | .rng lo hi => ∃ t u v, h.get? a = some { cls := .type "range", data := .fields #[.int lo t, .int hi u, .int 1 v] }
  | .frz o u => h.get? a = some o ∧ ObjOk H h a u
  | .tbl ps => h.get? a = some { cls := .none, data := .fields ps }
  | .met f x => h.get? a = some (PySem.W.methodObj (.ref f) (.ref x))
  | .ext φ => φ h ∧ (∃ o, h.get? a = some o) ∧ ∀ h1 h2 : Heap, φ h1 → (∀ o, h1.get? a = some o → h2.get? a = some o) → φ h2
def HOk (H : Hp) (h : Heap) : Prop := ∀ a o, H a = some o → ObjOk P w H h a o
end
section
variable {P : Program} {w : World} {H H' : Hp} {h h' : Heap} {a : Addr} {o : HO}
theorem ObjOk.lt (x : ObjOk P w H h a o) : a < h.objs.size := by
  cases o with
  | lst xs => obtain ⟨_, _, _, _, e⟩ := x; exact Heap.lt_size e
  | tup xs => obtain ⟨_, _, _, p⟩ := x; exact p.lt
  | dK kvs => obtain ⟨_, _, _, _, o, _, _, e, _⟩ := x; exact Heap.lt_size e
  | dT kvs => obtain ⟨_, _, _, _, o, _, _, e, _⟩ := x; exact Heap.lt_size e
  | set S n => obtain ⟨o, _, _, _, e, _⟩ := x; exact Heap.lt_size e
  | ins C dx fs => obtain ⟨_, _, _, e, _⟩ := x; exact Heap.lt_size e
  | own y => obtain ⟨_, e⟩ := x; exact Heap.lt_size e
  | xd fs => obtain ⟨_, ⟨_, _, _, e, _⟩, _⟩ := x; exact Heap.lt_size e
  | rng lo hi => obtain ⟨_, _, _, e⟩ := x; exact Heap.lt_size e
  | frz ob u => obtain ⟨e, _⟩ := x; exact Heap.lt_size e
  | tbl ps => exact Heap.lt_size (show h.get? a = some _ from x)
  | met f y => exact Heap.lt_size (show h.get? a = some _ from x)
  | ext φ => obtain ⟨_, ⟨_, e⟩, _⟩ := x; exact Heap.lt_size e
theorem Paired.mapP {α β : Type} {F G : α → β → Prop} : ∀ {l₁ : List α} {l₂ : List β}, Paired F l₁ l₂ → (∀ a b, F a b → G a b) → Paired G l₁ l₂
  | _, _, .nil, _ => .nil
  | _, _, .cons r t, f => .cons (f _ _ r) (Paired.mapP t f)
theorem ObjOk.stay (x : ObjOk P w H h a o) (k : ∀ b u, (b = a ∨ H b = some (.own a)) → h.get? b = some u → h'.get? b = some u)
    (ho : ∀ b, H b = some (.own a) → H' b = some (.own a)) (ht : ∀ b xs, H b = some (.tup xs) → H' b = some (.tup xs)) : ObjOk P w H' h' a o := by
  induction o with
  | lst xs => obtain ⟨z, its, n, r, e⟩ := x; exact ⟨z, its, n, r, k _ _ (.inl rfl) e⟩
  | tup xs => obtain ⟨z, its, r, ob, e, c⟩ := x; exact ⟨z, its, r, ob, k _ _ (.inl rfl) e, c⟩
  | dK kvs => obtain ⟨z, y, vs, r, ob, es, ep, e, c⟩ := x; exact ⟨z, y, vs, r, ob, es, ep, k _ _ (.inl rfl) e, c⟩
  | dT kvs =>
    obtain ⟨z, y, xs, r, ob, es, ep, e, c⟩ := x
    exact ⟨z, y, xs, Paired.mapP r fun p q z => ⟨z.1, ht _ _ z.2.1, z.2.2⟩, ob, es, ep, k _ _ (.inl rfl) e, c⟩
  | set S n => obtain ⟨ob, es, ep, t, e, c⟩ := x; exact ⟨ob, es, ep, t, k _ _ (.inl rfl) e, c⟩
  | ins C dx fs =>
    obtain ⟨d, z, ne, e, mA, ⟨od, es, ep, e2, c⟩, r⟩ := x
    exact ⟨ho _ d, z, ne, k _ _ (.inl rfl) e, mA, ⟨od, es, ep, k _ _ (.inr d) e2, c⟩, r⟩
  | own y => obtain ⟨ob, e⟩ := x; exact ⟨ob, k _ _ (.inl rfl) e⟩
  | xd fs => obtain ⟨mA, ⟨od, es, ep, e, c⟩, r⟩ := x; exact ⟨mA, ⟨od, es, ep, k _ _ (.inl rfl) e, c⟩, r⟩
  | rng lo hi => obtain ⟨t, u, v, e⟩ := x; exact ⟨t, u, v, k _ _ (.inl rfl) e⟩
  | frz ob u ih => obtain ⟨e, q⟩ := x; exact ⟨k _ _ (.inl rfl) e, ih q⟩
  | tbl ps =>
    have e : h.get? a = some { cls := .none, data := .fields ps } := x
    show h'.get? a = some { cls := .none, data := .fields ps }
    exact k a _ (.inl rfl) e
  | met f y =>
    have e : h.get? a = some (PySem.W.methodObj (.ref f) (.ref y)) := x
    show h'.get? a = some (PySem.W.methodObj (.ref f) (.ref y))
    exact k a _ (.inl rfl) e
  | ext φ => obtain ⟨p, ⟨o, e⟩, st⟩ := x; exact ⟨st _ _ p fun o q => k _ _ (.inl rfl) q, ⟨o, k _ _ (.inl rfl) e⟩, st⟩
theorem HOk.lt (x : HOk P w H h) (e : H a = some o) : a < h.objs.size := (x a o e).lt
theorem HOk.fresh (x : HOk P w H h) (e : h.objs.size ≤ a) : H a = none := by
  cases q : H a with
  | none => rfl
  | some u => exact absurd (Nat.lt_of_lt_of_le (x.lt q) e) (Nat.lt_irrefl _)
theorem HOk.kept (x : HOk P w H h) (k : ∀ b u, h.get? b = some u → h'.get? b = some u) : HOk P w H h' := fun a o e =>
  (x a o e).stay (fun b u _ q => k b u q) (fun _ q => q) fun _ _ q => q
theorem HOk.laid (x : HOk P w H h) (k : ∀ b u, h.get? b = some u → h'.get? b = some u) (hp : h.objs.size ≤ a) (new : ObjOk P w (upd H a o) h' a o) : HOk P w (upd H a o) h' := fun b u e => by
  have hn := x.fresh hp
  by_cases hb : b = a
  · subst hb; rw [upd_same] at e; cases e; exact new
  · rw [upd_ne hb] at e
    exact (x b u e).stay (fun c v _ q => k c v q) (fun c q => by rw [upd_ne (ne_of_none q hn)]; exact q) fun c xs q => by rw [upd_ne (ne_of_none q hn)]; exact q
end
def Rd (H : Hp) (a : Addr) (u : HO) : Prop := H a = some u ∨ ∃ o, H a = some (.frz o u)
theorem Rd.of {H : Hp} {a : Addr} {u : HO} (h : H a = some u) : Rd H a u := .inl h
theorem Rd.ok {P : Program} {w : World} {H : Hp} {h : Heap} {a : Addr} {u : HO} (r : Rd H a u) (x : HOk P w H h) : ObjOk P w H h a u := by
  rcases r with r | ⟨o, r⟩
  · exact x a u r
  · obtain ⟨_, q⟩ := x a _ r
    exact q
def Mut : Option HO → Prop
  | some (.lst _) => True
  | some (.dK _) => True
  | some (.dT _) => True
  | some (.set _ _) => True
  | some (.ins _ _ _) => True
  | some (.ext _) => True
  | _ => False
section
variable {P : Program} {w : World} {H : Hp} {h h' : Heap} {x e : Addr} {o' : HO}
theorem HOk.write (ok : HOk P w H h) (mu : Mut (H x)) (he : e = x ∨ H e = some (.own x)) (k : ∀ b u, b ≠ e → h.get? b = some u → h'.get? b = some u) (heo : ∃ u, h'.get? e = some u)
    (new : ObjOk P w (upd H x o') h' x o') : HOk P w (upd H x o') h' := fun b u q => by
  have nown : ∀ c y, H c = some (.own y) → c ≠ x := fun c y r z => by subst z; rw [r] at mu; exact mu
  have ntup : ∀ c xs, H c = some (.tup xs) → c ≠ x := fun c xs r z => by subst z; rw [r] at mu; exact mu
  by_cases hb : b = x
  · subst hb; rw [upd_same] at q; cases q; exact new
  · rw [upd_ne hb] at q
    by_cases hbe : b = e
    · have q' : H b = some (.own x) := by
        rcases he with z | z
        · exact absurd (hbe.trans z) hb
        · rw [hbe]; exact z
      rw [q] at q'; cases q'
      obtain ⟨v, hv⟩ := heo
      exact ⟨v, by rw [hbe]; exact hv⟩
    · refine (ok b u q).stay (fun c v hc r => k c v ?_ r) (fun c r => by rw [upd_ne (nown c b r)]; exact r) fun c xs r => by rw [upd_ne (ntup c xs r)]; exact r
      rcases hc with rfl | hc
      · exact hbe
      · rintro rfl
        rcases he with z | z
        · exact nown c b hc z
        · rw [hc] at z; cases z; exact hb rfl
end
structure Un (fs ex : List Addr) (H H' : Hp) (h h' : Heap) : Prop where
  keep : ∀ b o, h.get? b = some o → H b = none → b ∉ fs → b ∉ ex → h'.get? b = some o
  slot : ∀ b o, h.get? b = some o → H b = none → b ∈ fs → b ∉ ex → ∃ sl, h'.get? b = some { o with slots := sl }
  free : ∀ b o, h.get? b = some o → H b = none → b ∉ ex → H' b = none
  there : ∀ b o, h.get? b = some o → b ∉ ex → ∃ o', h'.get? b = some o'
  tups : ∀ b xs, H b = some (.tup xs) → H' b = some (.tup xs)
  frzs : ∀ b o u, H b = some (.frz o u) → H' b = some (.frz o u)
  tbls : ∀ b ps, H b = some (.tbl ps) → ∃ more, H' b = some (.tbl (ps ++ more))
section
variable {fs fs' ex ex' : List Addr} {H H1 H2 : Hp} {h h1 h2 h' : Heap} {a x e : Addr} {o : HO}
theorem Un.any (u : Un fs ex H H1 h h1) {b : Addr} {ob : Obj} (q : h.get? b = some ob) (n : H b = none) (hx : b ∉ ex) : ∃ sl, h1.get? b = some { ob with slots := sl } := by
  by_cases hb : b ∈ fs
  · exact u.slot b ob q n hb hx
  · exact ⟨ob.slots, u.keep b ob q n hb hx⟩
theorem Un.trans (a : Un fs ex H H1 h h1) (b : Un fs ex H1 H2 h1 h2) : Un fs ex H H2 h h2 where
  keep := fun c ob q n hc hx => b.keep c ob (a.keep c ob q n hc hx) (a.free c ob q n hx) hc hx
  slot := fun c ob q n hc hx => by
    obtain ⟨sl, e1⟩ := a.slot c ob q n hc hx
    obtain ⟨sl', e2⟩ := b.slot c _ e1 (a.free c ob q n hx) hc hx
    exact ⟨sl', e2⟩
  free := fun c ob q n hx => by
    obtain ⟨o', e1⟩ := a.there c ob q hx
    exact b.free c o' e1 (a.free c ob q n hx) hx
  there := fun c ob q hx => by
    obtain ⟨o', e1⟩ := a.there c ob q hx
    exact b.there c o' e1 hx
  tups := fun c xs q => b.tups c xs (a.tups c xs q)
  frzs := fun c ob xs q => b.frzs c ob xs (a.frzs c ob xs q)
  tbls := fun c ps q => by
    obtain ⟨m1, e1⟩ := a.tbls c ps q
    obtain ⟨m2, e2⟩ := b.tbls c _ e1
    exact ⟨m1 ++ m2, by rw [e2, Array.append_assoc]⟩
theorem Un.kept (k : ∀ b u, h.get? b = some u → h'.get? b = some u) : Un fs ex H H h h' :=
  ⟨fun b ob q _ _ _ => k b ob q, fun b ob q _ _ _ => ⟨ob.slots, k b ob q⟩, fun _ _ _ n _ => n, fun b ob q _ => ⟨ob, k b ob q⟩, fun _ _ q => q, fun _ _ _ q => q, fun _ ps q => ⟨#[], by rw [q]; simp⟩⟩
theorem Un.refl : Un fs ex H H h h := Un.kept fun _ _ q => q
theorem Un.laid (k : ∀ b u, h.get? b = some u → h'.get? b = some u) (hp : h.objs.size ≤ a) (hn : H a = none) : Un fs ex H (upd H a o) h h' where
  keep := fun b u q _ _ _ => k b u q
  slot := fun b u q _ _ _ => ⟨u.slots, k b u q⟩
  free := fun b u q n _ => by rw [upd_ne (Nat.ne_of_lt (Nat.lt_of_lt_of_le (Heap.lt_size q) hp))]; exact n
  there := fun b u q _ => ⟨u, k b u q⟩
  tups := fun b xs q => by rw [upd_ne (ne_of_none q hn)]; exact q
  frzs := fun b u xs q => by rw [upd_ne (ne_of_none q hn)]; exact q
  tbls := fun b ps q => ⟨#[], by rw [upd_ne (ne_of_none q hn), q]; simp⟩
theorem Un.write (mu : Mut (H x)) (he : e = x ∨ H e = some (.own x)) (k : ∀ b u, b ≠ e → h.get? b = some u → h'.get? b = some u) (heo : ∃ u, h'.get? e = some u) : Un fs ex H (upd H x o) h h' := by
  have hx : ∀ b, H b = none → b ≠ x := fun b n z => by subst z; rw [n] at mu; exact mu
  have hb : ∀ b, H b = none → b ≠ e := fun b n z => by
    subst z
    rcases he with r | r
    · exact hx b n r
    · rw [n] at r; cases r
  have hm : ∀ b u, H b = some u → ¬ Mut (some u) → b ≠ x := fun b u q nm z => by subst z; rw [q] at mu; exact nm mu
  refine ⟨fun b u q n _ _ => k b u (hb b n) q, fun b u q n _ _ => ⟨u.slots, k b u (hb b n) q⟩, fun b u q n _ => by rw [upd_ne (hx b n)]; exact n, fun b u q _ => ?_,
    fun b xs q => by rw [upd_ne (hm b _ q fun z => z)]; exact q, fun b u xs q => by rw [upd_ne (hm b _ q fun z => z)]; exact q, fun b ps q => ⟨#[], by rw [upd_ne (hm b _ q fun z => z), q]; simp⟩⟩
  by_cases hbe : b = e
  · subst hbe; exact heo
  · exact ⟨u, k b u hbe q⟩
theorem Un.mono (u : Un fs ex H H1 h h1) (hs : ∀ b ∈ fs, b ∈ fs') (hx : ∀ b ∈ ex, b ∈ ex') : Un fs' ex' H H1 h h1 :=
  ⟨fun b ob q n hb he => u.keep b ob q n (fun z => hb (hs b z)) fun z => he (hx b z), fun _ _ q n _ he => u.any q n fun z => he (hx _ z), fun b ob q n he => u.free b ob q n fun z => he (hx b z), fun b ob q he => u.there b ob q fun z => he (hx b z), u.tups, u.frzs, u.tbls⟩
end
def trk (h : Heap) (H : Hp) : List Addr := (List.range h.objs.size).filter fun a => (H a).isSome
def hidT (h : Heap) (H : Hp) : Heap := PySem.W.hideAll h (trk h H)
theorem hidT_size (h : Heap) (H : Hp) : (hidT h H).objs.size = h.objs.size := PySem.W.hideAll_size _ _
theorem hidT_get {h : Heap} {H : Hp} {b : Addr} {o : Obj} (e : h.get? b = some o) (n : H b = none) : (hidT h H).get? b = some o :=
  PySem.W.hideAll_get _ e fun hm => by
    have q : (H b).isSome = true := (List.mem_filter.mp hm).2
    rw [n] at q; simp at q
theorem of_hidT {h : Heap} {H : Hp} {b : Addr} {o : Obj} (e : (hidT h H).get? b = some o) : h.get? b = some o ∧ H b = none := by
  have e' : h.get? b = some o := PySem.W.of_hideAll (trk h H) e
  refine ⟨e', ?_⟩
  cases q : H b with
  | none => rfl
  | some x =>
    have hm : b ∈ trk h H := List.mem_filter.mpr ⟨List.mem_range.mpr (Heap.lt_size e'), by simp [q]⟩
    have z : (hidT h H).get? b = none := PySem.W.hideAll_none (trk h H) hm
    rw [z] at e; cases e
def allNews (g h : Heap) (L : Addr) : List (Addr × Obj) := (List.range h.objs.size).filterMap fun a => if a = L ∨ (g.get? a).isSome = true then none else (h.get? a).map fun o => (a, o)
def rest (g h : Heap) (L d : Addr) : List (Addr × Obj) := (allNews g h L).filter fun p => decide (p.1 ≠ d)
end L2
namespace L2
open PySem PySem.Spec PyProof.Rows
structure Mod (K : PySem.W.Frag) (mg : Str → Option Value) (base : Heap) : Prop where
  kin : K.In base
  glob : base.Ns mainGlobals mg
  blt : ∃ mb, base.Ns builtinsNs mb ∧ ∀ x : Str, x ≠ "__name__" → mb x = bootBuiltins x
  nolimit : base.NoLimit
structure Cx where
  prog : Program
  w : World
  K : PySem.W.Frag
  mg : Str → Option Value
  base : Heap
  A : Around
  N : List Str
  s₀ : Shared
  H₀ : Hp
  env : Env
  outer : List Env
  stack : List Env
  ex : List Addr
  fn : Str → Bool
  calm : Bool
  pn : List (Addr × Obj)
  xe : Value → Shared → Prop
def frs (l : List Env) : List Addr := l.filterMap (·.frame)
abbrev Cx.fs (X : Cx) : List Addr := frs X.outer
def Vis (sc : Scope) (x : Str) : Prop := sc.names.lookup x = some .local ∨ sc.names.lookup x = some .cell ∨ sc.names.lookup x = some .free
def Loc (sc : Scope) (x : Str) : Prop := sc.names.lookup x = some .local ∨ sc.names.lookup x = some .cell
def Look (env : Env) (h : Heap) (m : Str → Option Value) (x : Str) (u : Value) : Prop :=
  (env.kindOf x = some .local ∧ m x = some u) ∨ ((env.kindOf x = some .cell ∨ env.kindOf x = some .free) ∧ ∃ c, env.cells.lookup x = some c ∧ h.IsCell c (some u))
structure Cx.Ok (X : Cx) : Prop where
  mod : Mod X.K X.mg X.base
  kind : X.env.scope.kind = .function
  glob : X.env.globals = mainGlobals
  blt : X.env.builtins = builtinsNs
  above : X.s₀.heap.objs.size ≤ X.env.locals
  inj : ∀ x y c, X.env.cells.lookup x = some c → X.env.cells.lookup y = some c → x = y
  has : ∀ x, (X.env.kindOf x = some .cell ∨ X.env.kindOf x = some .free) → ∃ c, X.env.cells.lookup x = some c
  cab : ∀ x c, X.fn x = true → X.env.cells.lookup x = some c → X.s₀.heap.objs.size ≤ c
  hd : X.calm = true → X.A.handled = none
  frames : X.A.frames = some X.stack
  stk : X.stack = X.outer ∨ (X.stack = X.env :: X.outer ∧ X.env.frame = some X.env.locals)
  exf : ∀ b ∈ X.ex, b ≠ X.env.locals ∧ ∀ x c, X.env.cells.lookup x = some c → c ≠ b
  bs : ∀ b o, X.base.get? b = some o → X.s₀.heap.get? b = some o ∧ X.H₀ b = none
  bsz : X.base.objs.size ≤ X.s₀.heap.objs.size
  noex : ∀ b o, X.base.get? b = some o → b ∉ X.ex
  exfs : ∀ b ∈ X.ex, b ∉ X.fs
  funs : X.s₀.heap.FunFrames X.base X.outer
  frf : ∀ b ∈ X.fs, X.H₀ b = none
structure Inv (X : Cx) (pins : List (Addr × Obj)) (σ : List (Option V)) (H : Hp) (s : Shared) : Prop where
  ok : X.Ok
  os : s.os = X.s₀.os
  bare : AllBare s.gens
  base : Un X.fs X.ex X.H₀ H X.s₀.heap s.heap
  loc : ∃ m, s.heap.Ns X.env.locals m ∧ ∀ (i : Nat) (x : Str) (v : V), X.N[i]? = some x → σ[i]? = some (some v) → Vis X.env.scope x → ∃ u, RelV v u ∧ Look X.env s.heap m x u
  cell : ∀ x c, X.env.cells.lookup x = some c → ∃ v, s.heap.IsCell c v
  free : H X.env.locals = none
  freeC : ∀ x c, X.env.cells.lookup x = some c → H c = none
  pin : ∀ p ∈ X.pn ++ pins, s.heap.get? p.1 = some p.2 ∧ H p.1 = none ∧ p.1 ≠ X.env.locals ∧ p.1 ∉ X.fs ∧ ∀ v, p.2.data ≠ .cell v
  hok : HOk X.prog X.w H s.heap
  len : σ.length = X.N.length
section
variable {X : Cx} {pins : List (Addr × Obj)} {σ : List (Option V)} {H H' : Hp} {s : Shared} {h' : Heap}
theorem Cx.Ok.nofr (ok : X.Ok) {b : Addr} {o : Obj} (e : X.base.get? b = some o) : b ∉ X.fs := fun hb => by
  have := (ok.funs.mem hb).1
  rw [e] at this; cases this
theorem Inv.bs (I : Inv X pins σ H s) : ∀ b o, X.base.get? b = some o → s.heap.get? b = some o ∧ H b = none := fun b o e =>
  ⟨I.base.keep b o (I.ok.bs b o e).1 (I.ok.bs b o e).2 (I.ok.nofr e) (I.ok.noex b o e), I.base.free b o (I.ok.bs b o e).1 (I.ok.bs b o e).2 (I.ok.noex b o e)⟩
theorem Inv.bk (I : Inv X pins σ H s) : ∀ b o, X.base.get? b = some o → s.heap.get? b = some o := fun b o e => (I.bs b o e).1
theorem Inv.mod (I : Inv X pins σ H s) : Mod X.K X.mg X.base := I.ok.mod
theorem Inv.kIn (I : Inv X pins σ H s) : X.K.In s.heap := I.ok.mod.kin.keeps I.bk
theorem Inv.lt (I : Inv X pins σ H s) : X.env.locals < s.heap.objs.size := let ⟨_, hn, _⟩ := I.loc; hn.lt
theorem Inv.sz (I : Inv X pins σ H s) : X.s₀.heap.objs.size ≤ s.heap.objs.size := Nat.le_trans I.ok.above (Nat.le_of_lt I.lt)
theorem Inv.nofs (I : Inv X pins σ H s) {a : Addr} (h : s.heap.objs.size ≤ a) : a ∉ X.fs := fun hb => by
  obtain ⟨_, o, ho, _⟩ := I.ok.funs.mem hb
  exact absurd (Nat.lt_of_lt_of_le (Heap.lt_size ho) (Nat.le_trans I.sz h)) (Nat.lt_irrefl _)
theorem Inv.cne (I : Inv X pins σ H s) : ∀ x c, X.env.cells.lookup x = some c → c ≠ X.env.locals := fun x c e z => by
  obtain ⟨v, o, ho, hd⟩ := I.cell x c e
  obtain ⟨m, ⟨o', es, ep, ho', hd', _⟩, _⟩ := I.loc
  rw [z, ho'] at ho; cases ho; rw [hd'] at hd; cases hd
theorem Inv.funs (I : Inv X pins σ H s) : s.heap.FunFrames X.base X.outer := by
  have all : ∀ (l : List Env), (∀ b ∈ frs l, b ∈ X.fs) → X.s₀.heap.FunFrames X.base l → s.heap.FunFrames X.base l := by
    intro l
    induction l with
    | nil => intro _ _; trivial
    | cons env r ih =>
      intro hs hl
      obtain ⟨hk, ⟨L, o, hf, hn, ho, hd⟩, hr⟩ := hl
      have hL : L ∈ X.fs := hs L (by unfold frs; rw [List.filterMap_cons, hf]; exact List.mem_cons_self)
      obtain ⟨sl, e⟩ := I.base.slot L o ho (I.ok.frf L hL) hL fun z => I.ok.exfs L z hL
      exact ⟨hk, ⟨L, _, hf, hn, e, hd⟩, ih (fun b hb => hs b (by unfold frs; rw [List.filterMap_cons, hf]; exact List.mem_cons_of_mem _ hb)) hr⟩
  exact all X.outer (fun _ hb => hb) I.ok.funs
theorem Inv.stack (I : Inv X pins σ H s) : s.heap.FunFrames X.base X.stack := by
  rcases I.ok.stk with e | ⟨e, hf⟩
  · rw [e]; exact I.funs
  · rw [e]
    obtain ⟨m, hn, _⟩ := I.loc
    refine .cons (by rw [I.ok.kind]; decide) hf hn ?_ I.funs
    exact Heap.get?_none_of_le (Nat.le_trans I.ok.bsz I.ok.above)
theorem Inv.stkSub (I : Inv X pins σ H s) : ∀ b ∈ frs X.stack, b ∈ X.env.locals :: X.fs := fun b hb => by
  rcases I.ok.stk with e | ⟨e, hf⟩
  · rw [e] at hb; exact List.mem_cons_of_mem _ hb
  · rw [e] at hb
    unfold frs at hb
    rw [List.filterMap_cons, hf] at hb
    exact hb
theorem Inv.stkFree (I : Inv X pins σ H s) : ∀ b ∈ frs X.stack, H b = none := fun b hb => by
  rcases List.mem_cons.mp (I.stkSub b hb) with e | hb
  · rw [e]; exact I.free
  · obtain ⟨_, o, ho, _⟩ := I.ok.funs.mem hb
    exact I.base.free b o ho (I.ok.frf b hb) fun z => I.ok.exfs b z hb
theorem Inv.step {g' : Array GenState} {t' : Nat} {d' : Drawn} {ch : List Addr} (I : Inv X pins σ H s)
    (hch : ∀ b ∈ ch, (b ∈ X.ex ∨ X.s₀.heap.objs.size ≤ b) ∧ b ≠ X.env.locals ∧ (∀ x c, X.env.cells.lookup x = some c → c ≠ b) ∧ ∀ p ∈ X.pn ++ pins, p.1 ≠ b)
    (keep : ∀ b o, b ≠ X.env.locals → b ∉ X.fs → b ∉ ch → s.heap.get? b = some o → H b = none → h'.get? b = some o)
    (slot : ∀ b o, b ≠ X.env.locals → b ∈ X.fs → b ∉ ch → s.heap.get? b = some o → H b = none → ∃ sl, h'.get? b = some { o with slots := sl }) (free : ∀ b o, b ∉ ch → s.heap.get? b = some o → H b = none → H' b = none)
    (there : ∀ b o, b ∉ ch → s.heap.get? b = some o → ∃ o', h'.get? b = some o')
    (tups : ∀ b xs, H b = some (.tup xs) → H' b = some (.tup xs)) (frzs : ∀ b o u, H b = some (.frz o u) → H' b = some (.frz o u)) (tbls : ∀ b ps, H b = some (.tbl ps) → ∃ more, H' b = some (.tbl (ps ++ more)))
    (ns : ∀ m, s.heap.Ns X.env.locals m → h'.Ns X.env.locals m) (hok : HOk X.prog X.w H' h') (hg : AllBare g') :
    Inv X pins σ H' { s with heap := h', gens := g', drawn := d', toks := t' } := by
  have neL : ∀ b o, X.s₀.heap.get? b = some o → b ≠ X.env.locals := fun b o e => Nat.ne_of_lt (Nat.lt_of_lt_of_le (Heap.lt_size e) I.ok.above)
  have neC : ∀ b o, X.s₀.heap.get? b = some o → b ∉ X.ex → b ∉ ch := fun b o e hx hb => by
    rcases (hch b hb).1 with z | z
    · exact hx z
    · exact absurd (Nat.lt_of_lt_of_le (Heap.lt_size e) z) (Nat.lt_irrefl _)
  have cellK : ∀ x c, X.env.cells.lookup x = some c → ∀ v, s.heap.IsCell c v → h'.IsCell c v := fun x c e v ⟨o, ho, hd⟩ => by
    have nch : c ∉ ch := fun z => (hch c z).2.2.1 x c e rfl
    by_cases hc : c ∈ X.fs
    · obtain ⟨sl, q⟩ := slot c o (I.cne x c e) hc nch ho (I.freeC x c e)
      exact ⟨_, q, hd⟩
    · exact ⟨o, keep c o (I.cne x c e) hc nch ho (I.freeC x c e), hd⟩
  refine ⟨I.ok, I.os, hg, ⟨fun b o e n hb hx => ?_, fun b o e n hb hx => ?_, fun b o e n hx => ?_, fun b o e hx => ?_, fun b xs e => tups b xs (I.base.tups b xs e), fun b o xs e => frzs b o xs (I.base.frzs b o xs e), fun b ps e => ?_⟩, ?_, fun x c e => ?_, ?_, fun x c e => ?_, fun p hp => ?_, hok, I.len⟩
  · exact keep b o (neL b o e) hb (neC b o e hx) (I.base.keep b o e n hb hx) (I.base.free b o e n hx)
  · obtain ⟨sl, e1⟩ := I.base.slot b o e n hb hx
    obtain ⟨sl', e2⟩ := slot b _ (neL b o e) hb (neC b o e hx) e1 (I.base.free b o e n hx)
    exact ⟨sl', e2⟩
  · obtain ⟨o', e1⟩ := I.base.there b o e hx
    exact free b o' (neC b o e hx) e1 (I.base.free b o e n hx)
  · obtain ⟨o', e1⟩ := I.base.there b o e hx
    exact there b o' (neC b o e hx) e1
  · obtain ⟨m1, e1⟩ := I.base.tbls b ps e
    obtain ⟨m2, e2⟩ := tbls b _ e1
    exact ⟨m1 ++ m2, by rw [e2, Array.append_assoc]⟩
  · obtain ⟨m, hn, hl⟩ := I.loc
    refine ⟨m, ns m hn, fun i x v e1 e2 e3 => ?_⟩
    obtain ⟨u, r, l⟩ := hl i x v e1 e2 e3
    refine ⟨u, r, ?_⟩
    rcases l with l | ⟨k, c, e, z⟩
    · exact .inl l
    · exact .inr ⟨k, c, e, cellK x c e _ z⟩
  · obtain ⟨v, z⟩ := I.cell x c e
    exact ⟨v, cellK x c e v z⟩
  · obtain ⟨m, ⟨o, _, _, ho, _⟩, _⟩ := I.loc
    exact free _ o (fun z => (hch _ z).2.1 rfl) ho I.free
  · obtain ⟨v, o, ho, hd⟩ := I.cell x c e
    exact free c o (fun z => (hch c z).2.2.1 x c e rfl) ho (I.freeC x c e)
  · obtain ⟨e, n, ne, nf, d⟩ := I.pin p hp
    have nch : p.1 ∉ ch := fun z => (hch p.1 z).2.2.2 p hp rfl
    exact ⟨keep p.1 p.2 ne nf nch e n, free p.1 p.2 nch e n, ne, nf, d⟩
theorem Inv.un {t' : Nat} (I : Inv X pins σ H s) (u : Un X.fs [] H H' s.heap h') (hok : HOk X.prog X.w H' h') : Inv X pins σ H' { s with heap := h', toks := t' } := by
  obtain ⟨m, ⟨o, es, ep, ho, r⟩, _⟩ := id I.loc
  obtain ⟨sl, hL⟩ := u.any ho I.free (by simp)
  exact I.step (g' := s.gens) (d' := s.drawn) (ch := []) (fun _ z => nomatch z) (fun b o _ hb _ e n => u.keep b o e n hb (by simp)) (fun b o _ hb _ e n => u.slot b o e n hb (by simp)) (fun b o _ e n => u.free b o e n (by simp)) (fun b o _ e => u.there b o e (by simp)) u.tups u.frzs u.tbls (fun m' hm => by
    obtain ⟨o', es', ep', ho', r'⟩ := hm
    rw [ho] at ho'; cases ho'
    exact ⟨_, es', ep', hL, r'⟩) hok I.bare
theorem Inv.call {g' : Array GenState} {t' : Nat} {d' : Drawn} {ch : List Addr} (I : Inv X pins σ H s) (u : Un (frs X.stack) ch H H' s.heap h') (hok : HOk X.prog X.w H' h') (hg : AllBare g')
    (hch : ∀ b ∈ ch, (b ∈ X.ex ∨ X.s₀.heap.objs.size ≤ b) ∧ b ≠ X.env.locals ∧ (∀ x c, X.env.cells.lookup x = some c → c ≠ b) ∧ ∀ p ∈ X.pn ++ pins, p.1 ≠ b) :
    Inv X pins σ H' { s with heap := h', gens := g', drawn := d', toks := t' } := by
  obtain ⟨m, ⟨o, es, ep, ho, r⟩, _⟩ := id I.loc
  obtain ⟨sl, hL⟩ := u.any ho I.free fun z => (hch _ z).2.1 rfl
  exact I.step (ch := ch) hch (fun b o hL hb hc e n => u.keep b o e n (fun z => (List.mem_cons.mp (I.stkSub b z)).elim hL hb) hc) (fun b o _ _ hc e n => u.any e n hc) (fun b o hc e n => u.free b o e n hc) (fun b o hc e => u.there b o e hc) u.tups u.frzs u.tbls (fun m' hm => by
    obtain ⟨o', es', ep', ho', r'⟩ := hm
    rw [ho] at ho'; cases ho'
    exact ⟨_, es', ep', hL, r'⟩) hok hg
theorem Inv.turned {t' : Nat} {it : Addr} (I : Inv X pins σ H s) (k : ∀ b o, b ≠ it → s.heap.get? b = some o → h'.get? b = some o) (hn : H it = none) (hL : it ≠ X.env.locals)
    (h1 : it ∈ X.ex ∨ X.s₀.heap.objs.size ≤ it) (h2 : ∀ x c, X.env.cells.lookup x = some c → c ≠ it) (h3 : ∀ p ∈ X.pn ++ pins, p.1 ≠ it) : Inv X pins σ H { s with heap := h', toks := t' } := by
  have nit : ∀ b u, H b = some u → b ≠ it := fun b u e z => by rw [z, hn] at e; cases e
  refine I.step (g' := s.gens) (d' := s.drawn) (ch := [it]) (fun b hb => ?_) (fun b o _ _ hc e _ => k b o (fun z => hc (by simp [z])) e) (fun b o _ _ hc e _ => ⟨o.slots, k b o (fun z => hc (by simp [z])) e⟩) (fun _ _ _ _ n => n)
    (fun b o hc e => ⟨o, k b o (fun z => hc (by simp [z])) e⟩) (fun _ _ e => e) (fun _ _ _ e => e) (fun b ps e => ⟨#[], by rw [e]; simp⟩) (fun m hm => ?_) (fun b u e => ?_) I.bare
  · have e : b = it := by simpa using hb
    subst e
    exact ⟨h1, hL, h2, h3⟩
  · obtain ⟨o, es, ep, ho, r⟩ := hm
    exact ⟨o, es, ep, k _ o (Ne.symm hL) ho, r⟩
  · refine (I.hok b u e).stay (fun c v hc q => k c v ?_ q) (fun _ q => q) fun _ _ q => q
    rcases hc with z | z
    · rw [z]; exact nit b u e
    · exact nit c _ z
theorem Inv.tok (I : Inv X pins σ H s) (t : Nat) : Inv X pins σ H { s with toks := t } := I.un (h' := s.heap) (t' := t) Un.refl I.hok
theorem Inv.kept {t' : Nat} (I : Inv X pins σ H s) (k : ∀ b u, s.heap.get? b = some u → h'.get? b = some u) : Inv X pins σ H { s with heap := h', toks := t' } := I.un (Un.kept k) (I.hok.kept k)
theorem Inv.laid {a : Addr} {o : HO} {t' : Nat} (I : Inv X pins σ H s) (k : ∀ b u, s.heap.get? b = some u → h'.get? b = some u) (hp : s.heap.objs.size ≤ a) (new : ObjOk X.prog X.w (upd H a o) h' a o) :
    Inv X pins σ (upd H a o) { s with heap := h', toks := t' } := I.un (Un.laid k hp (I.hok.fresh hp)) (I.hok.laid k hp new)
theorem Inv.write {x e : Addr} {o : HO} {t' : Nat} (I : Inv X pins σ H s) (mu : Mut (H x)) (he : e = x ∨ H e = some (.own x)) (k : ∀ b u, b ≠ e → s.heap.get? b = some u → h'.get? b = some u) (heo : ∃ u, h'.get? e = some u)
    (new : ObjOk X.prog X.w (upd H x o) h' x o) : Inv X pins σ (upd H x o) { s with heap := h', toks := t' } := I.un (Un.write mu he k heo) (I.hok.write mu he k heo new)
theorem Inv.pins_of {pins' : List (Addr × Obj)} (I : Inv X pins σ H s) (h : ∀ p ∈ pins', s.heap.get? p.1 = some p.2 ∧ H p.1 = none ∧ p.1 ≠ X.env.locals ∧ p.1 ∉ X.fs ∧ ∀ v, p.2.data ≠ .cell v) : Inv X pins' σ H s :=
  ⟨I.ok, I.os, I.bare, I.base, I.loc, I.cell, I.free, I.freeC, fun p hp => (List.mem_append.mp hp).elim (fun z => I.pin p (List.mem_append_left _ z)) (h p), I.hok, I.len⟩
theorem nodup_ix {N : List Str} (hN : N.Nodup) {i j : Nat} {x : Str} (a : N[i]? = some x) (b : N[j]? = some x) : i = j := by
  obtain ⟨h1, e1⟩ := List.getElem?_eq_some_iff.mp a
  obtain ⟨h2, e2⟩ := List.getElem?_eq_some_iff.mp b
  exact (List.getElem_inj hN).mp (e1.trans e2.symm)
theorem store_ok2 {M : Model} {A : Around} {E : Value → Shared → Prop} {i : Nat} {x : Str} {v : V} {u : Value} {Q : Unit → Shared → Prop} (I : Inv X pins σ H s) (hN : X.N.Nodup) (hi : X.N[i]? = some x) (hx : Loc X.env.scope x) (r : RelV v u)
    (h : ∀ s', Inv X pins (σ.set i (some v)) H s' → (∃ a, Heap.SameBut a s.heap s'.heap ∧ (a = X.env.locals ∨ X.env.cells.lookup x = some a)) → Q () s') (hf : X.fn x = true ∨ X.env.scope.names.lookup x = some .local := by first | exact .inl rfl | exact .inr rfl | assumption) : wpAny M A (storeName X.env x u) Q E s := by
  obtain ⟨m, hn, hl⟩ := id I.loc
  have hcls : (X.env.scope.kind == .class || (X.env.scope.kind == .module && X.env.locals != X.env.globals)) = false := by rw [I.ok.kind]; rfl
  have hiσ : i < σ.length := by rw [I.len]; exact (List.getElem?_eq_some_iff.mp hi).1
  have cne := I.cne
  have tracked : ∀ {a : Addr} {h' : Heap}, (∃ o, s.heap.get? a = some o ∧ H a = none) → Heap.SameBut a s.heap h' → HOk X.prog X.w H h' := fun {a h'} ha hs b ob e => by
    obtain ⟨_, _, hfree⟩ := ha
    refine (I.hok b ob e).stay (fun c w' hc q => (hs.2 c ?_).trans q) (fun _ q => q) fun _ _ q => q
    rintro rfl
    rcases hc with rfl | hc
    · rw [hfree] at e; cases e
    · rw [hfree] at hc; cases hc
  rcases hx with hk | hk
  · refine wpAny_storeName_local hk hn (fun h' hn' hs => ?_) hcls
    obtain ⟨oL, _, _, hoL, _⟩ := id hn
    refine h _ ⟨I.ok, I.os, I.bare, ⟨fun b o e n hb hx => ?_, fun b o e n hb hx => ?_, I.base.free, fun b o e hx => ?_, I.base.tups, I.base.frzs, I.base.tbls⟩, ⟨_, hn', fun j y v' e1 e2 e3 => ?_⟩, fun y c e => ?_, I.free, I.freeC, fun p hp => ?_, tracked ⟨oL, hoL, I.free⟩ hs, by simpa using I.len⟩ ⟨_, hs, .inl rfl⟩
    · exact (hs.2 b (Nat.ne_of_lt (Nat.lt_of_lt_of_le (Heap.lt_size e) I.ok.above))).trans (I.base.keep b o e n hb hx)
    · obtain ⟨sl, e1⟩ := I.base.slot b o e n hb hx
      exact ⟨sl, (hs.2 b (Nat.ne_of_lt (Nat.lt_of_lt_of_le (Heap.lt_size e) I.ok.above))).trans e1⟩
    · obtain ⟨o', e1⟩ := I.base.there b o e hx
      exact ⟨o', (hs.2 b (Nat.ne_of_lt (Nat.lt_of_lt_of_le (Heap.lt_size e) I.ok.above))).trans e1⟩
    · by_cases hj : j = i
      · subst hj
        rw [hi] at e1; cases e1
        rw [List.getElem?_set_self hiσ] at e2
        cases e2
        exact ⟨u, r, .inl ⟨hk, by simp⟩⟩
      · rw [List.getElem?_set_ne (Ne.symm hj)] at e2
        obtain ⟨u', r', q⟩ := hl j y v' e1 e2 e3
        refine ⟨u', r', ?_⟩
        rcases q with ⟨k, e⟩ | ⟨k, c, e, z⟩
        · refine .inl ⟨k, ?_⟩
          have : y ≠ x := fun e => hj (nodup_ix hN e1 (e ▸ hi))
          simp [this, e]
        · exact .inr ⟨k, c, e, z.sameBut hs (cne y c e)⟩
    · obtain ⟨w', z⟩ := I.cell y c e
      exact ⟨w', z.sameBut hs (cne y c e)⟩
    · obtain ⟨e, n, ne, nf, d⟩ := I.pin p hp
      exact ⟨(hs.2 p.1 ne).trans e, n, ne, nf, d⟩
  · have hfn : X.fn x = true := by
      rcases hf with z | z
      · exact z
      · rw [z] at hk; cases hk
    obtain ⟨c, hc⟩ := I.ok.has x (.inl hk)
    obtain ⟨w', z⟩ := I.cell x c hc
    refine wpAny_storeName_cell I.ok.kind hk hc z (fun h' hc' hs => ?_)
    obtain ⟨oc, hoc, hocd⟩ := id z
    refine h { s with heap := h' } ⟨I.ok, I.os, I.bare, ⟨fun b o e n hb hx => ?_, fun b o e n hb hx => ?_, I.base.free, fun b o e hx => ?_, I.base.tups, I.base.frzs, I.base.tbls⟩, ⟨m, hn.sameBut hs (Ne.symm (cne x c hc)), fun j y v' e1 e2 e3 => ?_⟩, fun y c' e => ?_, I.free, I.freeC, fun p hp => ?_, tracked ⟨oc, hoc, I.freeC x c hc⟩ hs, by simpa using I.len⟩ ⟨c, hs, .inr hc⟩
    · exact (hs.2 b (Nat.ne_of_lt (Nat.lt_of_lt_of_le (Heap.lt_size e) (I.ok.cab x c hfn hc)))).trans (I.base.keep b o e n hb hx)
    · obtain ⟨sl, e1⟩ := I.base.slot b o e n hb hx
      exact ⟨sl, (hs.2 b (Nat.ne_of_lt (Nat.lt_of_lt_of_le (Heap.lt_size e) (I.ok.cab x c hfn hc)))).trans e1⟩
    · obtain ⟨o', e1⟩ := I.base.there b o e hx
      exact ⟨o', (hs.2 b (Nat.ne_of_lt (Nat.lt_of_lt_of_le (Heap.lt_size e) (I.ok.cab x c hfn hc)))).trans e1⟩
    · by_cases hj : j = i
      · subst hj
        rw [hi] at e1; cases e1
        rw [List.getElem?_set_self hiσ] at e2
        cases e2
        exact ⟨u, r, .inr ⟨.inl hk, c, hc, hc'⟩⟩
      · rw [List.getElem?_set_ne (Ne.symm hj)] at e2
        obtain ⟨u', r', q⟩ := hl j y v' e1 e2 e3
        refine ⟨u', r', ?_⟩
        rcases q with q | ⟨k, c', e, z'⟩
        · exact .inl q
        · refine .inr ⟨k, c', e, z'.sameBut hs ?_⟩
          rintro rfl
          exact hj (nodup_ix hN e1 (I.ok.inj _ _ _ e hc ▸ hi))
    · by_cases hcc : c' = c
      · subst hcc; exact ⟨_, hc'⟩
      · obtain ⟨w2, z2⟩ := I.cell y c' e
        exact ⟨w2, z2.sameBut hs hcc⟩
    · obtain ⟨e, n, ne, nf, d⟩ := I.pin p hp
      refine ⟨(hs.2 p.1 ?_).trans e, n, ne, nf, d⟩
      intro q
      rw [q, hoc] at e
      have q' : oc = p.2 := Option.some.inj e
      exact d w' (by rw [← q']; exact hocd)
theorem store_ok {M : Model} {A : Around} {E : Value → Shared → Prop} {i : Nat} {x : Str} {v : V} {u : Value} {Q : Unit → Shared → Prop} (I : Inv X pins σ H s) (hN : X.N.Nodup) (hi : X.N[i]? = some x) (hx : Loc X.env.scope x) (r : RelV v u)
    (h : ∀ s', Inv X pins (σ.set i (some v)) H s' → Q () s') (hf : X.fn x = true ∨ X.env.scope.names.lookup x = some .local := by first | exact .inl rfl | exact .inr rfl | assumption) : wpAny M A (storeName X.env x u) Q E s :=
  store_ok2 I hN hi hx r (fun s' I' _ => h s' I') hf
theorem Inv.call' {s' : Shared} {ch : List Addr} (I : Inv X pins σ H s) (ho : s'.os = s.os) (u : Un (frs X.stack) ch H H' s.heap s'.heap) (hok : HOk X.prog X.w H' s'.heap) (hg : AllBare s'.gens)
    (hch : ∀ b ∈ ch, (b ∈ X.ex ∨ X.s₀.heap.objs.size ≤ b) ∧ b ≠ X.env.locals ∧ (∀ x c, X.env.cells.lookup x = some c → c ≠ b) ∧ ∀ p ∈ X.pn ++ pins, p.1 ≠ b) : Inv X pins σ H' s' := by
  obtain ⟨h', g', d', t', o'⟩ := s'
  have e : o' = s.os := ho
  subst e
  exact I.call (g' := g') (t' := t') (d' := d') u hok hg hch
end
abbrev XK := Value → Option Addr → Hp → Prop
abbrev St := List (Option V)
abbrev VK := V → Hp → Prop
abbrev TE := St → Hp → VK → Prop
abbrev TT := St → Hp → (Bool → Hp → Prop) → Prop
abbrev TA := St → Hp → (List V → Hp → Prop) → Prop
structure Ends where
  nx : St → Hp → Prop
  rt : VK
  bk : St → Hp → Prop := fun _ _ => False
  ct : St → Hp → Prop := fun _ _ => False
abbrev TS := Ends → St → Hp → Prop
def EP (X : Cx) (pins : List (Addr × Obj)) (σ : St) (Q : VK) (u : Value) (s' : Shared) : Prop := ∃ v H', Inv X pins σ H' s' ∧ RelV v u ∧ Q v H'
def TP (X : Cx) (pins : List (Addr × Obj)) (σ : St) (Q : Bool → Hp → Prop) (b : Bool) (s' : Shared) : Prop := ∃ H', Inv X pins σ H' s' ∧ Q b H'
def AP (X : Cx) (pins : List (Addr × Obj)) (σ : St) (Q : List V → Hp → Prop) (us : List Value) (s' : Shared) : Prop := ∃ vs H', Inv X pins σ H' s' ∧ Vals vs us ∧ Q vs H'
def SP (X : Cx) (pins : List (Addr × Obj)) (D : Ends) (f : Flow) (s' : Shared) : Prop :=
  match f with
  | .next => ∃ σ' H', Inv X pins σ' H' s' ∧ D.nx σ' H'
  | .brk => ∃ σ' H', Inv X pins σ' H' s' ∧ D.bk σ' H'
  | .cont => ∃ σ' H', Inv X pins σ' H' s' ∧ D.ct σ' H'
  | .ret u => ∃ v σ' H', Inv X pins σ' H' s' ∧ RelV v u ∧ D.rt v H'
def PE (X : Cx) (e : Expr) (t : TE) : Prop :=
  ∀ (pins : List (Addr × Obj)) (s : Shared) (σ : St) (H : Hp) (Q : VK), Inv X pins σ H s → t σ H Q → wpAny (model X.prog X.w) X.A (eval e X.env) (EP X pins σ Q) X.xe s
def PT (X : Cx) (e : Expr) (t : TT) : Prop :=
  ∀ (pins : List (Addr × Obj)) (s : Shared) (σ : St) (H : Hp) (Q : Bool → Hp → Prop), Inv X pins σ H s → t σ H Q → wpAny (model X.prog X.w) X.A (isTrue e X.env (eval e X.env)) (TP X pins σ Q) X.xe s
def PW (X : Cx) (e : Expr) (t : TT) : Prop :=
  ∀ (whole : Sem Value) (pins : List (Addr × Obj)) (s : Shared) (σ : St) (H : Hp) (Q : Bool → Hp → Prop), Inv X pins σ H s → t σ H Q → wpAny (model X.prog X.w) X.A (isTrue e X.env whole) (TP X pins σ Q) X.xe s
theorem PW.pt {X : Cx} {e : Expr} {t : TT} (h : PW X e t) : PT X e t := h _
def PA (X : Cx) (es : List Expr) (t : TA) : Prop :=
  ∀ (pos : Pos) (pins : List (Addr × Obj)) (s : Shared) (σ : St) (H : Hp) (Q : List V → Hp → Prop), Inv X pins σ H s → t σ H Q → wpAny (model X.prog X.w) X.A (spliced (backTo pos (starEach es X.env))) (AP X pins σ Q) X.xe s
def PS (X : Cx) (st : Stmt) (t : TS) : Prop :=
  ∀ (pins : List (Addr × Obj)) (s : Shared) (σ : St) (H : Hp) (D : Ends), Inv X pins σ H s → t D σ H → wpAny (model X.prog X.w) X.A (exec st X.env) (SP X pins D) X.xe s
def PSs (X : Cx) (st : List Stmt) (t : TS) : Prop :=
  ∀ (pins : List (Addr × Obj)) (s : Shared) (σ : St) (H : Hp) (D : Ends), Inv X pins σ H s → t D σ H → wpAny (model X.prog X.w) X.A (execs st X.env) (SP X pins D) X.xe s
theorem thn {α : Type} {t : Sem α} {Q Q' : α → Shared → Prop} {M : Model} {A : Around} {E : Value → Shared → Prop} {s : Shared} (h : wpAny M A t Q E s) (hQ : ∀ a s, Q a s → Q' a s) : wpAny M A t Q' E s := wpAny_mono h hQ fun _ _ x => x
end L2
namespace L2
open PySem PySem.Spec PyProof.Rows
section
variable {X : Cx}
theorem bin {a b : Expr} {ta tb : TE} (ha : PE X a ta) (hb : PE X b tb) {pins : List (Addr × Obj)} {s : Shared} {σ : St} {H : Hp} {R : V → V → Hp → Prop} (I : Inv X pins σ H s) (h : ta σ H fun x H1 => tb σ H1 fun y H2 => R x y H2)
    {α : Type} {Q : α → Shared → Prop} {f : Value → Value → Sem α}
    (hf : ∀ v u s2 x y H2, Inv X pins σ H2 s2 → RelV x v → RelV y u → R x y H2 → wpAny (model X.prog X.w) X.A (f v u) Q X.xe s2) :
    wpAny (model X.prog X.w) X.A (eval a X.env) (fun v s₁ => wpAny (model X.prog X.w) X.A (eval b X.env) (fun u s₂ => wpAny (model X.prog X.w) X.A (f v u) Q X.xe s₂) X.xe s₁) X.xe s := by
  refine thn (ha pins s σ H _ I h) fun v s1 ⟨x, H1, I1, r1, q1⟩ => ?_
  refine thn (hb pins s1 σ H1 _ I1 q1) fun u s2 ⟨y, H2, I2, r2, q2⟩ => ?_
  exact hf v u s2 x y H2 I2 r1 r2 q2
def tVar (i : Nat) : TE := fun σ H Q => ∃ v, σ[i]? = some (some v) ∧ Q v H
def tC (v : V) : TE := fun _ H Q => Q v H
theorem pe_var {i : Nat} {x : Str} {pos : Pos} (hN : X.N[i]? = some x) (hv : Vis X.env.scope x) (hd : (x == ("__debug__" : Str)) = false := by decide) (hcd : (x == ("__classdict__" : Str)) = false := by decide) : PE X (.Name x pos) (tVar i) := by
  intro pins s σ H Q I h
  obtain ⟨v, e, h⟩ := h
  obtain ⟨m, hn, hl⟩ := I.loc
  obtain ⟨u, r, l⟩ := hl i x v hN e hv
  have fin : EP X pins σ Q u s := ⟨v, H, I, r, h⟩
  rcases l with ⟨hk, hm⟩ | ⟨hk, c, hc, hcell⟩
  · exact wpAny_Name (wpAny_loadName_local I.ok.kind hk hn hm fin) hd
  · rcases hk with hk | hk
    · exact wpAny_Name (wpAny_loadName_cell I.ok.kind hk hc hcell fin) hd
    · exact wpAny_Name (wpAny_loadName_free I.ok.kind hk hc hcell fin hcd) hd
theorem pe_int {i j pos} : PE X (.Constant (.int i) j pos) (tC (.int i)) := fun _ _ _ H _ I h => wpAny_Constant_int ⟨.int i, H, I.tok _, ⟨_, rfl⟩, h⟩
theorem pe_bl {b j pos} : PE X (.Constant (.bool b) j pos) (tC (.bl b)) := fun _ _ _ H _ I h => Constant_bool ⟨.bl b, H, I, rfl, h⟩
theorem pe_str {x j pos} : PE X (.Constant (.str x) j pos) (tC (.str x)) := fun _ _ _ H _ I h => Calls.Constant_str ⟨.str x, H, I.tok _, ⟨_, rfl⟩, h⟩
def Gl (X : Cx) (x : Str) : Prop := X.env.kindOf x = some .globalImplicit
theorem ld_glob {E : Value → Shared → Prop} {pins : List (Addr × Obj)} {s : Shared} {σ : St} {H : Hp} {x : Str} {u : Value} {pos : Pos} {Q : Value → Shared → Prop} (I : Inv X pins σ H s) (hg : Gl X x) (hm : X.mg x = some u) (h : Q u s)
    (hd : (x == ("__debug__" : Str)) = false := by decide) : wpAny (model X.prog X.w) X.A (eval (.Name x pos) X.env) Q E s :=
  Calls.Name_function_global I.ok.kind hg (Calls.loadGlobal_global (by rw [I.ok.glob]; exact I.mod.glob.keeps I.bk) hm h) hd
theorem ld_blt {E : Value → Shared → Prop} {pins : List (Addr × Obj)} {s : Shared} {σ : St} {H : Hp} {x : Str} {u : Value} {pos : Pos} {Q : Value → Shared → Prop} (I : Inv X pins σ H s) (hg : Gl X x) (hm : X.mg x = none) (hv : bootBuiltins x = some u) (h : Q u s)
    (hn : x ≠ "__name__" := by decide) (hd : (x == ("__debug__" : Str)) = false := by decide) : wpAny (model X.prog X.w) X.A (eval (.Name x pos) X.env) Q E s := by
  obtain ⟨mb, h1, h2⟩ := I.mod.blt
  exact Calls.Name_function_global I.ok.kind hg (Calls.loadGlobal_builtin (by rw [I.ok.glob]; exact I.mod.glob.keeps I.bk) hm (by rw [I.ok.blt]; exact h1.keeps I.bk) ((h2 x hn).trans hv) h) hd
theorem pe_glob {x : Str} {v : V} {u : Value} {pos : Pos} (hg : Gl X x) (hm : X.mg x = some u) (r : RelV v u) (hd : (x == ("__debug__" : Str)) = false := by decide) : PE X (.Name x pos) (tC v) :=
  fun _ _ _ H _ I h => ld_glob I hg hm ⟨v, H, I, r, h⟩ hd
theorem pe_bltn {x : Str} {v : V} {u : Value} {pos : Pos} (hg : Gl X x) (hm : X.mg x = none) (hv : bootBuiltins x = some u) (r : RelV v u) (hn : x ≠ "__name__" := by decide) (hd : (x == ("__debug__" : Str)) = false := by decide) : PE X (.Name x pos) (tC v) :=
  fun _ _ _ H _ I h => ld_blt I hg hm hv ⟨v, H, I, r, h⟩ hn hd
variable {a b : Expr} {ta tb : TE} {pos : Pos}
def PC (X : Cx) (op : CmpOp) (a b : Expr) (t : TE) : Prop :=
  ∀ (pins : List (Addr × Obj)) (s : Shared) (σ : St) (H : Hp) (Q : VK), Inv X pins σ H s → t σ H Q →
    wpAny (model X.prog X.w) X.A (eval a X.env) (fun v s₁ => wpAny (model X.prog X.w) X.A (eval b X.env) (fun u s₂ => wpAny (model X.prog X.w) X.A (compareOp op v u) (EP X pins σ Q) X.xe s₂) X.xe s₁) X.xe s
theorem nobehind (b : Expr) {op : CmpOp} (h : op ≠ .In) (h2 : op ≠ .NotIn) : behindInMarks op b = false := by
  have e1 : (op == CmpOp.In) = false := by cases op <;> first | rfl | exact absurd rfl h
  have e2 : (op == CmpOp.NotIn) = false := by cases op <;> first | rfl | exact absurd rfl h2
  cases b <;> simp [behindInMarks, e1, e2]
def tB (t : TE) : TT := fun σ H Q => t σ H fun x H1 => ∃ c, x = .bl c ∧ Q c H1
theorem pt_cmp {op : CmpOp} {t : TE} (h : PC X op a b t) (h1 : behindInMarks op b = false := by first | exact nobehind _ (by decide) (by decide) | rfl) : PT X (.Compare a [op] [b] pos) (tB t) := by
  intro pins s σ H Q I hw
  refine wpAny_isTrue_Compare1 (thn (h pins s σ H _ I hw) fun v s1 h1 => thn h1 fun u s2 h2 => thn h2 fun c s3 ⟨x, H1, I1, r1, q1⟩ => ?_) h1
  obtain ⟨d, rfl, q⟩ := q1
  cases r1
  exact wpAny_truthy_bool ⟨H1, I1, q⟩
theorem pt_val {e : Expr} {t : TE} (h : PE X e t) (he : ∀ whole, isTrue e X.env whole = (do let v ← whole; standAt e.pos; holding [v] (truthy v)) := by intro _; rfl) : PT X e (tB t) := by
  intro pins s σ H Q I hw
  refine isTrue_plain (thn (h pins s σ H _ I hw) fun v s1 ⟨x, H1, I1, r1, q1⟩ => ?_) (he _)
  obtain ⟨d, rfl, q⟩ := q1
  cases r1
  exact wpAny_truthy_bool ⟨H1, I1, q⟩
variable {tA tB' : TT} {rest : List Expr}
def tAnd (t u : TT) : TT := fun σ H Q => t σ H fun c H1 => if c = true then u σ H1 Q else Q false H1
def tOr (t u : TT) : TT := fun σ H Q => t σ H fun c H1 => if c = true then Q true H1 else u σ H1 Q
def tNot (t : TT) : TT := fun σ H Q => t σ H fun c H1 => Q (!c) H1
theorem pw_and1 (ha : PT X a tA) : PW X (.BoolOp .And [a] pos) tA := by
  intro wh pins s σ H Q I h
  refine isTrue_and (thn (ha pins s σ H Q I h) fun c s1 e => ?_)
  cases c with
  | true => exact isTrue_and_nil e
  | false => exact e
theorem pw_or1 (ha : PT X a tA) : PW X (.BoolOp .Or [a] pos) tA := by
  intro wh pins s σ H Q I h
  refine isTrue_or (thn (ha pins s σ H Q I h) fun c s1 e => ?_)
  cases c with
  | false => exact isTrue_or_nil e
  | true => exact e
theorem pw_and (ha : PT X a tA) (hb : PW X (.BoolOp .And (b :: rest) pos) tB') : PW X (.BoolOp .And (a :: b :: rest) pos) (tAnd tA tB') := by
  intro wh pins s σ H Q I h
  refine isTrue_and (thn (ha pins s σ H _ I h) fun c s1 ⟨H1, I1, q1⟩ => ?_)
  cases c with
  | true => exact hb wh pins s1 σ H1 Q I1 q1
  | false => exact ⟨H1, I1, q1⟩
theorem pw_or (ha : PT X a tA) (hb : PW X (.BoolOp .Or (b :: rest) pos) tB') : PW X (.BoolOp .Or (a :: b :: rest) pos) (tOr tA tB') := by
  intro wh pins s σ H Q I h
  refine isTrue_or (thn (ha pins s σ H _ I h) fun c s1 ⟨H1, I1, q1⟩ => ?_)
  cases c with
  | true => exact ⟨H1, I1, q1⟩
  | false => exact hb wh pins s1 σ H1 Q I1 q1
theorem pt_not (ha : PT X a tA) : PT X (.UnaryOp .Not a pos) (tNot tA) := by
  intro pins s σ H Q I h
  exact isTrue_not (ha pins s σ H (fun c H1 => Q (!c) H1) I h)
def tAndV (ta tb : TE) : TE := fun σ H Q => ta σ H fun x H1 => ∃ c, x = .bl c ∧ if c = true then tb σ H1 Q else Q (.bl false) H1
def tNotV (ta : TE) : TE := fun σ H Q => ta σ H fun x H1 => ∃ c, x = .bl c ∧ Q (.bl (!c)) H1
theorem pe_one {op} {t : TE} (h : PE X a t) : PE X (.BoolOp op [a] pos) t := fun pins s σ H Q I hw => BoolOp_one (h pins s σ H Q I hw)
theorem pe_and (ha : PE X a ta) (hb : PE X (.BoolOp .And (b :: rest) pos) tb) : PE X (.BoolOp .And (a :: b :: rest) pos) (tAndV ta tb) := by
  intro pins s σ H Q I h
  refine BoolOp_and (thn (ha pins s σ H _ I h) fun v s1 ⟨x, H1, I1, r1, q1⟩ => ?_)
  obtain ⟨c, rfl, q1⟩ := q1
  cases r1
  refine wpAny_truthy_bool ?_
  cases c with
  | true => exact hb pins s1 σ H1 Q I1 q1
  | false => exact ⟨.bl false, H1, I1, rfl, q1⟩
theorem pe_not (ha : PE X a ta) : PE X (.UnaryOp .Not a pos) (tNotV ta) := by
  intro pins s σ H Q I h
  refine UnaryOp_ (thn (ha pins s σ H _ I h) fun v s1 ⟨x, H1, I1, r1, q1⟩ => ?_)
  obtain ⟨c, rfl, q1⟩ := q1
  cases r1
  exact not_of (wpAny_truthy_bool ⟨.bl (!c), H1, I1, rfl, q1⟩)
def tIf (t : TT) (ta tb : TE) : TE := fun σ H Q => t σ H fun c H1 => if c = true then ta σ H1 Q else tb σ H1 Q
theorem pe_ifExp {c : Expr} (hc : PT X c tA) (ha : PE X a ta) (hb : PE X b tb) : PE X (.IfExp c a b pos) (tIf tA ta tb) := by
  intro pins s σ H Q I h
  refine wpAny_IfExp (thn (hc pins s σ H _ I h) fun d s1 ⟨H1, I1, q1⟩ => ?_)
  cases d with
  | true => exact ha pins s1 σ H1 Q I1 q1
  | false => exact hb pins s1 σ H1 Q I1 q1
end
end L2
namespace L2
open PySem PySem.Spec PyProof.Rows
def SqL (K : PySem.W.Frag) (H : Hp) (a : Addr) (xs : List V) : Prop :=
  Rd H a (.lst xs) ∨
    ∃ (o : Obj) (its : Array Value) (n : Nat), K.lookup a = some o ∧ o.cls = .type "list" ∧ o.dict = none ∧ o.data = .seq its n ∧ its.size ≤ sizeLine ∧ Vals xs its.toList
def SqT (K : PySem.W.Frag) (H : Hp) (a : Addr) (xs : List V) : Prop :=
  Rd H a (.tup xs) ∨
    ∃ (o : Obj) (its : Array Value) (n : Nat), K.lookup a = some o ∧ o.cls = .type "tuple" ∧ o.data = .seq its n ∧ its.size ≤ sizeLine ∧ Vals xs its.toList
def absV : Value → Option V
  | .none => some .non
  | .bool b => some (.bl b)
  | .int i _ => some (.int i)
  | .str x _ => some (.str x)
  | .bytes b _ => some (.byt b)
  | .float b _ => some (.flt b)
  | .ref a => some (.ref a)
  | .type n => some (.ty n)
  | _ => none
theorem RelV.abs {x : V} {u : Value} (r : RelV x u) : absV u = some x := by
  cases x with
  | non => cases r; rfl
  | bl _ => cases r; rfl
  | int _ => obtain ⟨t, rfl⟩ := r; rfl
  | str _ => obtain ⟨t, rfl⟩ := r; rfl
  | byt _ => obtain ⟨t, rfl⟩ := r; rfl
  | flt _ => obtain ⟨t, rfl⟩ := r; rfl
  | ref _ => cases r; rfl
  | ty _ => cases r; rfl
theorem RelV.inj {x y : V} {u : Value} (r : RelV x u) (q : RelV y u) : x = y := Option.some.inj (r.abs.symm.trans q.abs)
theorem Vals.inj : ∀ {xs ys : List V} {us : List Value}, Vals xs us → Vals ys us → xs = ys
  | _, _, _, .nil, .nil => rfl
  | _, _, _, .cons r t, .cons r' t' => by rw [r.inj r', Vals.inj t t']
section
variable {X : Cx} {pins : List (Addr × Obj)} {σ : St} {H : Hp} {s : Shared} {a : Addr} {xs ys : List V}
theorem SqL.of {K : PySem.W.Frag} (h : H a = some (.lst xs)) : SqL K H a xs := .inl (.inl h)
theorem SqT.of {K : PySem.W.Frag} (h : H a = some (.tup xs)) : SqT K H a xs := .inl (.inl h)
theorem Inv.list (I : Inv X pins σ H s) (h : SqL X.K H a xs) : ∃ its : List Value, Vals xs its ∧ PlainL s.heap a its.toArray ∧ xs.length ≤ sizeLine := by
  rcases h with h | ⟨o, its, n, hk, hc, hd, hs, hz, r⟩
  · obtain ⟨z, its, n, r, e⟩ := h.ok I.hok
    exact ⟨its, r, ⟨_, n, e, rfl, rfl, rfl⟩, z⟩
  · refine ⟨its.toList, r, ⟨o, n, I.kIn a o hk, hc, hd, by simpa using hs⟩, ?_⟩
    have e := r.length
    simp only [Array.length_toList] at e
    omega
theorem Inv.tuple (I : Inv X pins σ H s) (h : SqT X.K H a xs) : ∃ its : List Value, Vals xs its ∧ IsTup s.heap a its.toArray ∧ xs.length ≤ sizeLine := by
  rcases h with h | ⟨o, its, n, hk, hc, hs, hz, r⟩
  · obtain ⟨z, its, r, p⟩ := h.ok I.hok
    exact ⟨its, r, p, z⟩
  · refine ⟨its.toList, r, ⟨o, I.kIn a o hk, hc, n, by simpa using hs⟩, ?_⟩
    have e := r.length
    simp only [Array.length_toList] at e
    omega
theorem Inv.list_inj (I : Inv X pins σ H s) (h : SqL X.K H a xs) (h' : SqL X.K H a ys) : xs = ys := by
  obtain ⟨its, r, ⟨o, n, e, _, _, d⟩, _⟩ := I.list h
  obtain ⟨its', r', ⟨o', n', e', _, _, d'⟩, _⟩ := I.list h'
  rw [e] at e'; cases e'
  rw [d] at d'
  injection d' with d1 _
  have : its = its' := by simpa using congrArg Array.toList d1
  subst this
  exact r.inj r'
theorem Inv.tuple_inj (I : Inv X pins σ H s) (h : SqT X.K H a xs) (h' : SqT X.K H a ys) : xs = ys := by
  obtain ⟨its, r, ⟨o, e, _, n, d⟩, _⟩ := I.tuple h
  obtain ⟨its', r', ⟨o', e', _, n', d'⟩, _⟩ := I.tuple h'
  rw [e] at e'; cases e'
  rw [d] at d'
  injection d' with d1 _
  have : its = its' := by simpa using congrArg Array.toList d1
  subst this
  exact r.inj r'
end
abbrev Cx.wish (X : Cx) (E : Value → Shared → Prop) : Cx := { X with xe := E }
abbrev Cx.nox (X : Cx) : Cx := X.wish fun _ _ => False
theorem Cx.Ok.wish {X : Cx} (ok : X.Ok) (E : Value → Shared → Prop) : (X.wish E).Ok :=
  ⟨ok.mod, ok.kind, ok.glob, ok.blt, ok.above, ok.inj, ok.has, ok.cab, ok.hd, ok.frames, ok.stk, ok.exf, ok.bs, ok.bsz, ok.noex, ok.exfs, ok.funs, ok.frf⟩
theorem Cx.Ok.unwish {X : Cx} {E : Value → Shared → Prop} (ok : (X.wish E).Ok) : X.Ok :=
  ⟨ok.mod, ok.kind, ok.glob, ok.blt, ok.above, ok.inj, ok.has, ok.cab, ok.hd, ok.frames, ok.stk, ok.exf, ok.bs, ok.bsz, ok.noex, ok.exfs, ok.funs, ok.frf⟩
section
variable {X : Cx} {pins : List (Addr × Obj)} {σ : St} {H : Hp} {s : Shared} {E : Value → Shared → Prop}
theorem Inv.wish (I : Inv X pins σ H s) (E : Value → Shared → Prop) : Inv (X.wish E) pins σ H s := ⟨I.ok.wish E, I.os, I.bare, I.base, I.loc, I.cell, I.free, I.freeC, I.pin, I.hok, I.len⟩
theorem Inv.unwish (I : Inv (X.wish E) pins σ H s) : Inv X pins σ H s := ⟨I.ok.unwish, I.os, I.bare, I.base, I.loc, I.cell, I.free, I.freeC, I.pin, I.hok, I.len⟩
theorem SP.unwish {D : Ends} {f : Flow} {s' : Shared} (h : SP (X.wish E) pins D f s') : SP X pins D f s' := by
  cases f with
  | next => obtain ⟨σ', H', I, q⟩ := h; exact ⟨σ', H', I.unwish, q⟩
  | brk => obtain ⟨σ', H', I, q⟩ := h; exact ⟨σ', H', I.unwish, q⟩
  | cont => obtain ⟨σ', H', I, q⟩ := h; exact ⟨σ', H', I.unwish, q⟩
  | ret u => obtain ⟨v, σ', H', I, r, q⟩ := h; exact ⟨v, σ', H', I.unwish, r, q⟩
theorem PSs.nox {st : List Stmt} {t : TS} (h : PSs X.nox st t) : PSs X st t := fun pins s σ H D I hw =>
  wpAny_mono (h pins s σ H D (I.wish _) hw) (fun _ _ q => q.unwish) fun _ _ z => False.elim z
end
section
variable {X : Cx} {st : Stmt} {rest : List Stmt} {t u : TS} {e : Expr} {te : TE} {pos : Pos}
def tNext : TS := fun D σ H => D.nx σ H
def tSeq (t u : TS) : TS := fun D σ H => t { D with nx := u D } σ H
theorem pss_nil : PSs X [] tNext := fun _ _ σ H _ I h => wpAny_execs_nil ⟨σ, H, I, h⟩
theorem pss_cons (h1 : PS X st t) (h2 : PSs X rest u) : PSs X (st :: rest) (tSeq t u) := by
  intro pins s σ H D I h
  refine wpAny_execs_cons (thn (h1 pins s σ H { D with nx := u D } I h) fun f s1 q => ?_)
  cases f with
  | next =>
    obtain ⟨σ', H', I', q⟩ := q
    exact h2 pins s1 σ' H' D I' q
  | ret v => exact q
  | brk => exact q
  | cont => exact q
theorem pss_one (h1 : PS X st t) : PSs X [st] t := by
  intro pins s σ H D I h
  refine wpAny_execs_cons (thn (h1 pins s σ H D I h) fun f s1 q => ?_)
  cases f with
  | next => exact wpAny_execs_nil q
  | ret v => exact q
  | brk => exact q
  | cont => exact q
theorem Inv.quiet {pins : List (Addr × Obj)} {σ : St} {H : Hp} {s : Shared} (I : Inv X pins σ H s) : interactive X.env = false := by simp [interactive, I.ok.kind]
def tDrop (te : TE) : TS := fun D σ H => te σ H fun _ H1 => D.nx σ H1
theorem ps_expr (he : PE X e te) (hs : swapsWith e none pos.line X.env = pure false := by rfl) : PS X (.Expr e pos) (tDrop te) := by
  intro pins s σ H D I h
  exact wpAny_Expr_any (thn (he pins s σ H _ I h) fun v s1 ⟨x, H1, I1, r1, q1⟩ => ⟨σ, H1, I1, q1⟩) I.quiet hs
def tRet (te : TE) : TS := fun D σ H => te σ H D.rt
theorem ps_ret (he : PE X e te) : PS X (.Return (some e) pos) (tRet te) := by
  intro pins s σ H D I h
  exact wpAny_Return_some (thn (he pins s σ H _ I h) fun v s1 ⟨x, H1, I1, r1, q1⟩ => ⟨x, σ, H1, I1, r1, q1⟩)
def tIfS (c : TT) (t u : TS) : TS := fun D σ H => c σ H fun b H1 => if b = true then t D σ H1 else u D σ H1
theorem ps_if {c : Expr} {a b : List Stmt} {tc : TT} (hc : PT X c tc) (ha : PSs X a t) (hb : PSs X b u) : PS X (.If c a b pos) (tIfS tc t u) := by
  intro pins s σ H D I h
  refine wpAny_If (thn (hc pins s σ H _ I h) fun d s1 ⟨H1, I1, q1⟩ => ?_)
  cases d with
  | true => exact ha pins s1 σ H1 D I1 q1
  | false => exact hb pins s1 σ H1 D I1 q1
end
abbrev TG := V → St → Hp → (St → Hp → Prop) → Prop
abbrev TGs := List V → St → Hp → (St → Hp → Prop) → Prop
def PG (X : Cx) (target : Expr) (t : TG) : Prop :=
  ∀ (pins : List (Addr × Obj)) (s : Shared) (σ : St) (H : Hp) (v : V) (u : Value) (Q : St → Hp → Prop), Inv X pins σ H s → RelV v u → t v σ H Q →
    wpAny (model X.prog X.w) X.A (assign target X.env u) (fun _ s' => ∃ σ' H', Inv X pins σ' H' s' ∧ Q σ' H') X.xe s
def PGs (X : Cx) (ts : List Expr) (t : TGs) : Prop :=
  ∀ (pins : List (Addr × Obj)) (s : Shared) (σ : St) (H : Hp) (vs : List V) (us : List Value) (Q : St → Hp → Prop), Inv X pins σ H s → Vals vs us → t vs σ H Q →
    wpAny (model X.prog X.w) X.A (assignInOrder ((assignEach ts X.env).map (·.2)) us) (fun _ s' => ∃ σ' H', Inv X pins σ' H' s' ∧ Q σ' H') X.xe s
abbrev TSet := V → V → V → Hp → (Hp → Prop) → Prop
def PSet (X : Cx) (t : TSet) : Prop :=
  ∀ (pins : List (Addr × Obj)) (s : Shared) (σ : St) (H : Hp) (o i v : V) (ov iv u : Value) (Q : Hp → Prop), Inv X pins σ H s → RelV o ov → RelV i iv → RelV v u → t o i v H Q →
    wpAny (model X.prog X.w) X.A (setItem ov iv u) (fun _ s' => ∃ H', Inv X pins σ H' s' ∧ Q H') X.xe s
abbrev TIp := V → V → Hp → VK → Prop
def PIp (X : Cx) (op : Operator) (t : TIp) : Prop :=
  ∀ (pins : List (Addr × Obj)) (s : Shared) (σ : St) (H : Hp) (x y : V) (v u : Value) (Q : VK), Inv X pins σ H s → RelV x v → RelV y u → t x y H Q →
    wpAny (model X.prog X.w) X.A (inplaceOp op v u) (EP X pins σ Q) X.xe s
section
variable {X : Cx} {pos : Pos}
def gName (i : Nat) : TG := fun v σ H Q => Q (σ.set i (some v)) H
theorem pg_name {i : Nat} {x : Str} (hN : X.N.Nodup) (hi : X.N[i]? = some x) (hx : Loc X.env.scope x) (hf : X.fn x = true ∨ X.env.scope.names.lookup x = some .local := by first | exact .inl rfl | exact .inr rfl | assumption) : PG X (.Name x pos) (gName i) := by
  intro pins s σ H v u Q I r h
  exact wpAny_assign_Name (store_ok I hN hi hx r (fun s' I' => ⟨_, H, I', h⟩) hf)
def gNil : TGs := fun vs σ H Q => vs = [] ∧ Q σ H
def gCons (t : TG) (u : TGs) : TGs := fun vs σ H Q => ∃ v r, vs = v :: r ∧ t v σ H fun σ' H' => u r σ' H' Q
theorem pgs_nil : PGs X [] gNil := by
  intro pins s σ H vs us Q I r h
  obtain ⟨e, h⟩ := h
  subst e
  cases r
  exact assignInOrder_nil ⟨σ, H, I, h⟩
theorem pgs_cons {e : Expr} {es : List Expr} {t : TG} {u : TGs} (h1 : PG X e t) (h2 : PGs X es u)
    (hs : (assignEach (e :: es) X.env).map (·.2) = assign e X.env :: (assignEach es X.env).map (·.2) := by rfl) : PGs X (e :: es) (gCons t u) := by
  intro pins s σ H vs us Q I r h
  obtain ⟨v, vr, e1, h⟩ := h
  subst e1
  cases r with
  | cons r rr =>
    rw [hs]
    refine assignInOrder_cons (thn (h1 pins s σ H _ _ _ I r h) fun _ s1 ⟨σ1, H1, I1, q1⟩ => ?_)
    exact h2 pins s1 σ1 H1 _ _ Q I1 rr q1
def gTup (K : PySem.W.Frag) (n : Nat) (t : TGs) : TG := fun v σ H Q => ∃ a xs, v = .ref a ∧ SqT K H a xs ∧ xs.length = n ∧ t xs σ H Q
theorem pg_tup {es : List Expr} {k : Nat} {t : TGs} {n : Nat} (hc : X.calm = true) (h : PGs X es t)
    (hn : (assignEach es X.env).length = n := by rfl) (hst : (assignEach es X.env).findIdx? (·.1) = none := by rfl) : PG X (.Tuple es k pos) (gTup X.K n t) := by
  intro pins s σ H v u Q I r hw
  obtain ⟨a, xs, e1, hq, hl, hw⟩ := hw
  subst e1
  cases r
  obtain ⟨its, rv, ht, hz⟩ := I.tuple hq
  refine assign_Tuple_tuple (I.ok.hd hc) ht (by simp [hn, ← hl, rv.length]) hst fun h' hx => ?_
  have I1 : Inv X pins σ H { s with heap := h' } := I.kept (t' := s.toks) fun b o e => hx b o (Nat.ne_of_lt (Heap.lt_size e)) e
  exact h pins _ σ H xs _ Q I1 (by simpa using rv) hw
def gSub (to ti : TE) (t : TSet) : TG := fun v σ H Q => to σ H fun o H1 => ti σ H1 fun i H2 => t o i v H2 fun H3 => Q σ H3
theorem pg_sub {o i : Expr} {to ti : TE} {t : TSet} (ho : PE X o to) (hi : PE X i ti) (hs : PSet X t)
    (ha : ∀ v, assign (.Subscript o i pos) X.env v = (do
      let ov ← holding [v] (eval o X.env)
      let iv ← holding [v, ov] (eval i X.env)
      standAt pos
      holding [v, ov, iv] (setItem ov iv v)
      release [v, ov, iv] []) := by intro _; rfl) : PG X (.Subscript o i pos) (gSub to ti t) := by
  intro pins s σ H v u Q I r h
  rw [ha]
  refine wpAny_bind (wpAny_holding (thn (ho pins s σ H _ I h) fun ov s1 ⟨x, H1, I1, r1, q1⟩ => ?_))
  refine wpAny_bind (wpAny_holding (thn (hi pins s1 σ H1 _ I1 q1) fun iv s2 ⟨y, H2, I2, r2, q2⟩ => ?_))
  refine wpAny_bind (wpAny_standAt (wpAny_bind (wpAny_holding (thn (hs pins s2 σ H2 x y v ov iv u _ I2 r1 r2 r q2) fun _ s3 ⟨H3, I3, q3⟩ => ?_))))
  exact wpAny_release ⟨σ, H3, I3, q3⟩
def tAsg (te : TE) (g : TG) : TS := fun D σ H => te σ H fun x H1 => g x σ H1 D.nx
theorem ps_asg {tg e : Expr} {te : TE} {g : TG} (he : PE X e te) (hg : PG X tg g) (hs : swapsWithSole [tg] e pos.line X.env = pure false := by rfl) (hw : swappedStores [tg] e X.env = pure none := by rfl)
    (h1 : (assignEach [tg] X.env).map (·.2) = [assign tg X.env] := by rfl) : PS X (.Assign [tg] e pos) (tAsg te g) := by
  intro pins s σ H D I h
  refine wpAny_Assign_stores (thn (he pins s σ H _ I h) fun v s1 ⟨x, H1, I1, r1, q1⟩ => ?_) hs hw
  rw [h1]
  exact thn (hg pins s1 σ H1 x v _ I1 r1 q1) fun _ s2 q => q
theorem ps_set {i : Nat} {x : Str} {e : Expr} {te : TE} {pos' : Pos} (hN : X.N.Nodup) (hi : X.N[i]? = some x) (hx : Loc X.env.scope x) (he : PE X e te) (hs : swapsWith e (some (.Name x pos')) pos.line X.env = pure false := by rfl) (hf : X.fn x = true ∨ X.env.scope.names.lookup x = some .local := by first | exact .inl rfl | exact .inr rfl | assumption) :
    PS X (.Assign [.Name x pos'] e pos) (tAsg te (gName i)) := by
  intro pins s σ H D I h
  refine wpAny_Assign_Name (thn (he pins s σ H _ I h) fun v s1 ⟨y, H1, I1, r1, q1⟩ => ?_) hs
  exact store_ok I1 hN hi hx r1 (fun s2 I2 => ⟨_, H1, I2, q1⟩) hf
def tPar (i j : Nat) (ta : TA) : TS := fun D σ H => ta σ H fun vs H1 => ∃ v w, vs = [v, w] ∧ D.nx ((σ.set i (some v)).set j (some w)) H1
theorem ps_par {i j : Nat} {x y : Str} {a b : Expr} {ta : TA} {px py pt : Pos} {kt k2 pt2} (hc : X.calm = true) (hN : X.N.Nodup) (hi : X.N[i]? = some x) (hj : X.N[j]? = some y) (hij : i ≠ j)
    (hx : X.env.scope.names.lookup x = some .local) (hy : X.env.scope.names.lookup y = some .local) (ha : PA X [a, b] ta)
    (hw : swappedStores [.Tuple [.Name x px, .Name y py] kt pt] (.Tuple [a, b] k2 pt2) X.env = pure (some [x, y]))
    (hs : swapsWithSole [.Tuple [.Name x px, .Name y py] kt pt] (.Tuple [a, b] k2 pt2) pos.line X.env = pure false := by rfl) :
    PS X (.Assign [.Tuple [.Name x px, .Name y py] kt pt] (.Tuple [a, b] k2 pt2) pos) (tPar i j ta) := by
  intro pins s σ H D I h
  rw [exec_Assign_arm]
  refine wpAny_bind (wpAny_standAt ?_)
  rw [hs]
  refine wpAny_bind (wpAny_pure ?_)
  rw [if_neg (by decide)]
  refine wpAny_bind (Tuple_ (thn (ha _ pins s σ H _ I h) fun us s1 ⟨vs, H1, I1, r1, q1⟩ => ?_))
  obtain ⟨v, w, e1, q1⟩ := q1
  subst e1
  obtain ⟨u1, u2, rfl, rv, rw'⟩ : ∃ u1 u2, us = [u1, u2] ∧ RelV v u1 ∧ RelV w u2 := by
    cases r1 with
    | cons p q =>
      cases q with
      | cons p' q' =>
        cases q'
        exact ⟨_, _, rfl, p, p'⟩
  refine wpAny_newObj_type ?_ (by show 2 ≤ sizeLine; decide)
  have I2 : Inv X pins σ H1 { s1 with heap := s1.heap.push { cls := .type "tuple", data := .seq [u1, u2].toArray } } := I1.kept (t' := s1.toks) fun b o e => Heap.get?_push_of_some _ e
  rw [hw]
  refine wpAny_bind (wpAny_pure ?_)
  show wpAny (model X.prog X.w) X.A (do rule "assign.swapped-stores"; let items ← unpackItems (.ref s1.heap.objs.size) 2 none; assignInOrder [fun v => bindName X.env y v, fun v => bindName X.env x v] items.reverse; pure Flow.next) _ _ _
  refine wpAny_bind (wpAny_rule (wpAny_bind (unpackItems_tuple (items := #[u1, u2]) (I.ok.hd hc) (IsTup.new s1.heap _) fun h' hx' => ?_)))
  have I3 := I2.kept (h' := h') (t' := s1.toks) fun b o e => hx' b o (Nat.ne_of_lt (Heap.lt_size e)) e
  show wpAny _ _ (assignInOrder [fun v => bindName X.env y v, fun v => bindName X.env x v] [u2, u1] >>= fun _ => pure Flow.next) _ _ _
  refine wpAny_bind (assignInOrder_cons (wpAny_bindName (store_ok I3 hN hj (.inl hy) rw' (fun s2 I4 => ?_) (.inr hy))))
  refine assignInOrder_cons (wpAny_bindName (store_ok I4 hN hi (.inl hx) rv (fun s3 I5 => assignInOrder_nil (wpAny_pure ?_)) (.inr hx)))
  rw [List.set_comm _ _ (Ne.symm hij)] at I5
  exact ⟨_, H1, I5, q1⟩
def tAug (i : Nat) (te : TE) (ti : TIp) : TS := fun D σ H => ∃ x, σ[i]? = some (some x) ∧ te σ H fun y H1 => ti x y H1 fun z H2 => D.nx (σ.set i (some z)) H2
theorem ps_aug {i : Nat} {x : Str} {e : Expr} {te : TE} {op : Operator} {ti : TIp} {pos' : Pos} (hN : X.N.Nodup) (hi : X.N[i]? = some x) (hx : Loc X.env.scope x) (he : PE X e te) (ho : PIp X op ti) (hf : X.fn x = true ∨ X.env.scope.names.lookup x = some .local := by first | exact .inl rfl | exact .inr rfl | assumption) :
    PS X (.AugAssign (.Name x pos') op e pos) (tAug i te ti) := by
  intro pins s σ H D I h
  obtain ⟨v, e1, h⟩ := h
  obtain ⟨m, hn, hl⟩ := I.loc
  have vis : Vis X.env.scope x := by rcases hx with k | k; exact .inl k; exact .inr (.inl k)
  obtain ⟨u, r, l⟩ := hl i x v hi e1 vis
  refine wpAny_AugAssign_Name ?_
  have go : wpAny (model X.prog X.w) X.A (eval e X.env) (fun w s₂ => wpAny (model X.prog X.w) X.A (inplaceOp op u w) (fun r s₃ => wpAny (model X.prog X.w) X.A (storeName X.env x r) (fun _ => SP X pins D .next) X.xe s₃) X.xe s₂) X.xe s := by
    refine thn (he pins s σ H _ I h) fun w s1 ⟨y, H1, I1, r1, q1⟩ => ?_
    refine thn (ho pins s1 σ H1 v y u w _ I1 r r1 q1) fun z s2 ⟨zv, H2, I2, r2, q2⟩ => ?_
    exact store_ok I2 hN hi hx r2 (fun s3 I3 => ⟨_, H2, I3, q2⟩) hf
  rcases l with ⟨hk, hm⟩ | ⟨hk, c, hc, hcell⟩
  · exact wpAny_loadName_local I.ok.kind hk hn hm go
  · rcases hk with hk | hk
    · exact wpAny_loadName_cell I.ok.kind hk hc hcell go
    · rcases hx with k | k
      · have : X.env.scope.names.lookup x = some .free := hk
        rw [k] at this; cases this
      · have : X.env.scope.names.lookup x = some .free := hk
        rw [k] at this; cases this
def ipI (f : Int → Int → Int) : TIp := fun x y H Q => ∃ i j, x = .int i ∧ y = .int j ∧ Q (.int (f i j)) H
theorem ip_add : PIp X .Add (ipI fun i j => i + j) := by
  intro pins s σ H x y v u Q I r1 r2 h
  obtain ⟨i, j, e1, e2, q⟩ := h
  subst e1; subst e2
  obtain ⟨t, rfl⟩ := r1
  obtain ⟨t', rfl⟩ := r2
  exact iadd_int ⟨.int _, H, I.tok _, ⟨_, rfl⟩, q⟩
end
section
variable {X : Cx} {pos : Pos}
def tWhile (c : TT) (tb : TS) : TS := fun D σ H => ∃ W : Nat → St → Hp → Prop, (∃ m, W m σ H) ∧ ∀ m σ H, W m σ H →
  c σ H fun b H1 => if b = true then ∃ N : St → Hp → Prop, (∀ σ' H', N σ' H' → ∃ m', m' < m ∧ W m' σ' H') ∧ tb { D with nx := N, ct := N, bk := D.nx } σ H1 else D.nx σ H1
theorem ps_while {c : Expr} {body : List Stmt} {tc : TT} {tb : TS} (hp : PassesOwn (model X.prog X.w) X.A X.env X.xe) (hc : PT X c tc) (hb : PSs X body tb) : PS X (.While c body [] pos) (tWhile tc tb) := by
  intro pins s σ H D I h
  obtain ⟨W, ⟨m0, w0⟩, turn⟩ := h
  refine wpAny_While (codeAny_whileLoop (fun n s' => ∃ σ' H', Inv X pins σ' H' s' ∧ W n σ' H') ?_ m0 ⟨σ, H, I, w0⟩)
  rintro n s1 ⟨σ1, H1, I1, w1⟩
  refine wpAny_passesOwn hp (thn (hc pins s1 σ1 H1 _ I1 (turn n σ1 H1 w1)) fun b s2 ⟨H2, I2, q2⟩ => ?_)
  cases b with
  | true =>
    obtain ⟨N, hN, q2⟩ := q2
    rw [if_pos rfl]
    refine wpAny_passesOwn hp (thn (hb pins s2 σ1 H2 _ I2 q2) fun f s3 q3 => ?_)
    cases f with
    | next =>
      obtain ⟨σ3, H3, I3, n3⟩ := q3
      obtain ⟨m', hm, w3⟩ := hN σ3 H3 n3
      exact ⟨m', hm, σ3, H3, I3, w3⟩
    | cont =>
      obtain ⟨σ3, H3, I3, n3⟩ := q3
      obtain ⟨m', hm, w3⟩ := hN σ3 H3 n3
      exact ⟨m', hm, σ3, H3, I3, w3⟩
    | brk => exact q3
    | ret v => exact q3
  | false =>
    rw [if_neg Bool.false_ne_true]
    exact wpAny_execs_nil ⟨σ1, H2, I2, q2⟩
end
structure It where
  go : Nat → Hp → Prop
  yld : Nat → Hp → V → Hp → Prop
  stop : Nat → Hp → Prop
def FpOk (X : Cx) (pins : List (Addr × Obj)) (H : Hp) (b : Addr) : Prop :=
  H b = none ∧ b ≠ X.env.locals ∧ b ∉ X.fs ∧ (b ∈ X.ex ∨ X.s₀.heap.objs.size ≤ b) ∧ (∀ x c, X.env.cells.lookup x = some c → c ≠ b) ∧ ∀ p ∈ X.pn ++ pins, p.1 ≠ b
theorem Inv.fpOk {X : Cx} {pins : List (Addr × Obj)} {σ : St} {H H' : Hp} {s : Shared} {b : Addr} (I : Inv X pins σ H s) (hb : s.heap.objs.size ≤ b) (hn : H' b = none) : FpOk X pins H' b := by
  refine ⟨hn, Nat.ne_of_gt (Nat.lt_of_lt_of_le I.lt hb), I.nofs hb, .inr (Nat.le_trans I.sz hb), fun x c e z => ?_, fun p hp z => ?_⟩
  · obtain ⟨v, q⟩ := I.cell x c e
    exact absurd (Nat.lt_of_lt_of_le q.lt (by rw [z]; exact hb)) (Nat.lt_irrefl _)
  · exact absurd (Nat.lt_of_lt_of_le (Heap.lt_size (I.pin p hp).1) (by rw [z]; exact hb)) (Nat.lt_irrefl _)
structure Turn (P : Program) (w : World) (K : PySem.W.Frag) (tg : Expr) (J : It) (fp : List Addr) (it : Addr) (tn : Nat → Heap → Prop) : Prop where
  mem : it ∈ fp
  obj : ∀ i h, tn i h → ∀ b ∈ fp, ∃ o, h.get? b = some o ∧ ∀ v, o.data ≠ .cell v
  keep : ∀ i h h', tn i h → (∀ b ∈ fp, ∀ o, h.get? b = some o → h'.get? b = some o) → tn i h'
  item : ∀ (X : Cx), X.prog = P → X.w = w → X.K = K → X.calm = true → ∀ (i : Nat) (pins : List (Addr × Obj)) (s : Shared) (σ : St) (H : Hp) (E : Value → Shared → Prop), Inv X pins σ H s → (∀ b ∈ fp, FpOk X pins H b) → tn i s.heap → J.go i H →
    wpAny (model P w) X.A (pyNext (.ref it)) (fun r s1 => ∃ u, r = some u ∧
      wpAny (model P w) X.A (letOwnedTupleGo tg (.ref it) u) (fun _ s2 => ∃ x H', Inv X pins σ H' s2 ∧ RelV x u ∧ J.yld i H x H' ∧ tn (i + 1) s2.heap ∧ ∀ b ∈ fp, H' b = none) E s1) E s
  done : ∀ (X : Cx), X.prog = P → X.w = w → X.K = K → X.calm = true → ∀ (i : Nat) (pins : List (Addr × Obj)) (s : Shared) (σ : St) (H : Hp) (E : Value → Shared → Prop), Inv X pins σ H s → (∀ b ∈ fp, FpOk X pins H b) → tn i s.heap → J.stop i H →
    wpAny (model P w) X.A (pyNext (.ref it)) (fun r s1 => r = none ∧ Inv X pins σ H s1) E s
  self : ∀ (A : Around) (i : Nat) (s : Shared) (Q : Value → Shared → Prop) (E : Value → Shared → Prop), tn i s.heap → Q (.ref it) s → wpAny (model P w) A (pyIter (.ref it)) Q E s
abbrev TI := St → Hp → (It → Hp → Prop) → Prop
def PIE (X : Cx) (pins : List (Addr × Obj)) (σ : St) (tg : Expr) (R : It → Hp → Prop) (itv : Value) (s2 : Shared) : Prop :=
  ∃ (it : Addr) (fp : List Addr) (tn : Nat → Heap → Prop) (J : It) (H' : Hp), itv = .ref it ∧ Inv X pins σ H' s2 ∧ Turn X.prog X.w X.K tg J fp it tn ∧ tn 0 s2.heap ∧ (∀ b ∈ fp, FpOk X pins H' b) ∧ R J H'
def PI (X : Cx) (tg iter : Expr) (wi : TI) : Prop :=
  ∀ (pins : List (Addr × Obj)) (s : Shared) (σ : St) (H : Hp) (R : It → Hp → Prop), Inv X pins σ H s → wi σ H R →
    wpAny (model X.prog X.w) X.A (eval iter X.env) (fun v s1 => wpAny (model X.prog X.w) X.A (pyIter v) (PIE X pins σ tg R) X.xe s1) X.xe s
theorem go_of {M : Model} {A : Around} {E : Value → Shared → Prop} {s : Shared} {tg : Expr} {it : Addr} {u : Value} {o : Obj} {n : String} {vs : Array Value} {Q : Unit → Shared → Prop} (ho : s.heap.get? it = some o) (hc : o.cls = .type n) (hd : o.data = .fields vs)
    (hn : ["enumerate", "zip", "dict_itemiterator", "dict_reverseitemiterator", "odict_iterator", "itertools.zip_longest", "itertools.pairwise"].contains n = false) (hQ : Q () s) : wpAny M A (letOwnedTupleGo tg (.ref it) u) Q E s := by
  unfold letOwnedTupleGo
  cases tg <;> first
    | exact wpAny_pure hQ
    | (cases u <;> first
        | exact wpAny_pure hQ
        | (refine wpAny_bind (wpAny_load ho ?_)
           rw [hc, hd]
           show wpAny M A (if (["enumerate", "zip", "dict_itemiterator", "dict_reverseitemiterator", "odict_iterator", "itertools.zip_longest", "itertools.pairwise"].contains n && vs[0]? == some (rawInt _)) = true then _ else _) Q E s
           rw [if_neg (by intro h; rw [hn, Bool.false_and] at h; cases h)]
           exact wpAny_pure hQ))
def Itl (K : PySem.W.Frag) (a : Addr) : It :=
  ⟨fun i H => ∃ xs x, SqL K H a xs ∧ xs[i]? = some x, fun i H x H' => H' = H ∧ ∀ xs, SqL K H a xs → xs[i]? = some x, fun i H => ∃ xs, SqL K H a xs ∧ xs.length ≤ i⟩
def Itt (K : PySem.W.Frag) (a : Addr) : It :=
  ⟨fun i H => ∃ xs x, SqT K H a xs ∧ xs[i]? = some x, fun i H x H' => H' = H ∧ ∀ xs, SqT K H a xs → xs[i]? = some x, fun i H => ∃ xs, SqT K H a xs ∧ xs.length ≤ i⟩
def Itr (lo : Int) (n : Nat) : It := ⟨fun i _ => i < n, fun i H x H' => H' = H ∧ x = .int (lo + i), fun i _ => n ≤ i⟩
theorem turn_list {P : Program} {w : World} {K : PySem.W.Frag} {tg : Expr} (a it : Addr) : Turn P w K tg (Itl K a) [it] it (fun i h => h.IsListIter it a i) where
  mem := by simp
  obj := fun i h st b hb => by
    have e : b = it := by simpa using hb
    subst e
    obtain ⟨o, e, c, d⟩ := st
    exact ⟨o, e, fun v z => by rw [d] at z; cases z⟩
  keep := fun i h h' st k => st.at fun o e => k it (by simp) o e
  item := by
    intro X hP hw hK hc i pins s σ H E I hf st hg
    subst hP hw hK
    obtain ⟨xs, x, hq, hx⟩ := hg
    obtain ⟨its, rv, p, hz⟩ := I.list hq
    obtain ⟨u, hu, ru⟩ := rv.get hx
    obtain ⟨f0, f1, f2, f3, f4, f5⟩ := hf it (by simp)
    refine wpAny_pyNext_list_item st p.isList (x := u) (by simpa using hu) fun h' st' sb => ?_
    have I1 : Inv X pins σ H { s with heap := h' } := I.turned (t' := s.toks) (fun b o hb e => (sb.2 b hb).trans e) f0 f1 f3 f4 f5
    obtain ⟨o, e, c, d⟩ := id st'
    exact ⟨u, rfl, go_of (s := { s with heap := h' }) e c d (by decide) ⟨x, H, I1, ru, ⟨rfl, fun ys hy => by rw [I.list_inj hy hq]; exact hx⟩, st', fun b hb => (hf b hb).1⟩⟩
  done := by
    intro X hP hw hK hc i pins s σ H E I hf st hg
    subst hP hw hK
    obtain ⟨xs, hq, hx⟩ := hg
    obtain ⟨its, rv, p, hz⟩ := I.list hq
    obtain ⟨f0, f1, f2, f3, f4, f5⟩ := hf it (by simp)
    have hl := rv.length
    exact wpAny_pyNext_list_end (I.ok.hd hc) st p.isList (by simp; omega) fun h' eb => ⟨rfl, I.turned (t' := s.toks) (fun b o hb e => eb b o hb e) f0 f1 f3 f4 f5⟩
  self := fun _ _ _ _ _ st h => wpAny_pyIter_listiter st h
theorem turn_tuple {P : Program} {w : World} {K : PySem.W.Frag} {tg : Expr} (a it : Addr) : Turn P w K tg (Itt K a) [it] it (fun i h => h.IsTupleIter it a i) where
  mem := by simp
  obj := fun i h st b hb => by
    have e : b = it := by simpa using hb
    subst e
    obtain ⟨o, e, c, d⟩ := st
    exact ⟨o, e, fun v z => by rw [d] at z; cases z⟩
  keep := fun i h h' st k => st.at fun o e => k it (by simp) o e
  item := by
    intro X hP hw hK hc i pins s σ H E I hf st hg
    subst hP hw hK
    obtain ⟨xs, x, hq, hx⟩ := hg
    obtain ⟨its, rv, p, hz⟩ := I.tuple hq
    obtain ⟨u, hu, ru⟩ := rv.get hx
    obtain ⟨f0, f1, f2, f3, f4, f5⟩ := hf it (by simp)
    refine wpAny_pyNext_tuple_item st (show s.heap.IsTuple a its.toArray from p) (x := u) (by simpa using hu) fun h' st' sb => ?_
    have I1 : Inv X pins σ H { s with heap := h' } := I.turned (t' := s.toks) (fun b o hb e => (sb.2 b hb).trans e) f0 f1 f3 f4 f5
    obtain ⟨o, e, c, d⟩ := id st'
    exact ⟨u, rfl, go_of (s := { s with heap := h' }) e c d (by decide) ⟨x, H, I1, ru, ⟨rfl, fun ys hy => by rw [I.tuple_inj hy hq]; exact hx⟩, st', fun b hb => (hf b hb).1⟩⟩
  done := by
    intro X hP hw hK hc i pins s σ H E I hf st hg
    subst hP hw hK
    obtain ⟨xs, hq, hx⟩ := hg
    obtain ⟨its, rv, p, hz⟩ := I.tuple hq
    obtain ⟨f0, f1, f2, f3, f4, f5⟩ := hf it (by simp)
    have hl := rv.length
    exact wpAny_pyNext_tuple_end (I.ok.hd hc) st (show s.heap.IsTuple a its.toArray from p) (by simp; omega) fun h' eb => ⟨rfl, I.turned (t' := s.toks) (fun b o hb e => eb b o hb e) f0 f1 f3 f4 f5⟩
  self := fun _ _ _ _ _ st h => wpAny_pyIter_tupleiter st h
theorem turn_range {P : Program} {w : World} {K : PySem.W.Frag} {tg : Expr} (it : Addr) (lo : Int) (n : Nat) : Turn P w K tg (Itr lo n) [it] it (fun i h => IsRangeIter h it (lo + (i : Nat) * 1) ((n : Int) - (i : Nat)) 1) where
  mem := by simp
  obj := fun i h st b hb => by
    have e : b = it := by simpa using hb
    subst e
    exact ⟨_, st, fun v z => by
      have z' : Data.fields _ = Data.cell v := z
      cases z'⟩
  keep := fun i h h' st k => k it (by simp) _ st
  item := by
    intro X hP hw hK hc i pins s σ H E I hf st hg
    subst hP hw hK
    obtain ⟨f0, f1, f2, f3, f4, f5⟩ := hf it (by simp)
    have W := Walks.range (prog := X.prog) (w := X.w) (I.ok.hd hc) it lo 1 n
    refine W.item i s _ _ hg st fun v h' tk hv st' kk => ?_
    obtain ⟨t, rfl⟩ := hv
    have I1 : Inv X pins σ H { s with heap := h', toks := tk } := I.turned (fun b o hb e => kk b o (by simpa using hb) e) f0 f1 f3 f4 f5
    refine ⟨_, rfl, go_of (s := { s with heap := h', toks := tk }) (n := "range_iterator") st' rfl rfl (by decide) ⟨.int (lo + i), H, I1, ⟨t, ?_⟩, ⟨rfl, rfl⟩, st', fun b hb => (hf b hb).1⟩⟩
    rw [Int.mul_one]
  done := by
    intro X hP hw hK hc i pins s σ H E I hf st hg
    subst hP hw hK
    obtain ⟨f0, f1, f2, f3, f4, f5⟩ := hf it (by simp)
    exact wpAny_pyNext_range_end (I.ok.hd hc) st (by have : n ≤ i := hg; omega) fun h' eb => ⟨rfl, I.turned (t' := s.toks) (fun b o hb e => eb b o hb e) f0 f1 f3 f4 f5⟩
  self := fun _ _ _ _ _ st h => wpAny_pyIter_rangeiter st h
end L2
namespace L2
open PySem PySem.Spec PyProof.Rows
section
variable {X : Cx} {tg : Expr}
def iList (K : PySem.W.Frag) (tl : TE) : TI := fun σ H R => tl σ H fun x H1 => ∃ a, x = .ref a ∧ (∃ xs, SqL K H1 a xs) ∧ R (Itl K a) H1
def iTup (K : PySem.W.Frag) (tl : TE) : TI := fun σ H R => tl σ H fun x H1 => ∃ a, x = .ref a ∧ (∃ xs, SqT K H1 a xs) ∧ R (Itt K a) H1
theorem pi_list {l : Expr} {tl : TE} (hl : PE X l tl) : PI X tg l (iList X.K tl) := by
  intro pins s σ H R I h
  refine thn (hl pins s σ H _ I h) fun v s1 ⟨x, H1, I1, r1, q1⟩ => ?_
  obtain ⟨a, e, ⟨xs, hq⟩, q⟩ := q1
  subst e
  cases r1
  obtain ⟨its, rv, p, hz⟩ := I1.list hq
  refine wpAny_pyIter_list p.isList ?_
  refine ⟨s1.heap.objs.size, [s1.heap.objs.size], _, _, H1, rfl, I1.kept (t' := s1.toks) fun b o e => Heap.get?_push_of_some _ e, turn_list a _, ⟨_, Heap.get?_push_size _ rfl, rfl, rfl⟩, fun b hb => ?_, q⟩
  have e : b = s1.heap.objs.size := by simpa using hb
  subst e
  exact I1.fpOk (Nat.le_refl _) (I1.hok.fresh (Nat.le_refl _))
theorem pi_tup {l : Expr} {tl : TE} (hl : PE X l tl) : PI X tg l (iTup X.K tl) := by
  intro pins s σ H R I h
  refine thn (hl pins s σ H _ I h) fun v s1 ⟨x, H1, I1, r1, q1⟩ => ?_
  obtain ⟨a, e, ⟨xs, hq⟩, q⟩ := q1
  subst e
  cases r1
  obtain ⟨its, rv, p, hz⟩ := I1.tuple hq
  refine wpAny_pyIter_tuple (show s1.heap.IsTuple a its.toArray from p) ?_
  refine ⟨s1.heap.objs.size, [s1.heap.objs.size], _, _, H1, rfl, I1.kept (t' := s1.toks) fun b o e => Heap.get?_push_of_some _ e, turn_tuple a _, ⟨_, Heap.get?_push_size _ rfl, rfl, rfl⟩, fun b hb => ?_, q⟩
  have e : b = s1.heap.objs.size := by simpa using hb
  subst e
  exact I1.fpOk (Nat.le_refl _) (I1.hok.fresh (Nat.le_refl _))
theorem range_it {pins : List (Addr × Obj)} {σ : St} {H : Hp} {s : Shared} {R : It → Hp → Prop} {E : Value → Shared → Prop} {lo hi : Int} {t u v : Tok} {tk : Nat} (I : Inv X pins σ H s) (h1 : -(2 ^ 62) ≤ lo) (h2 : lo < 2 ^ 62) (h3 : -(2 ^ 62) ≤ hi) (h4 : hi < 2 ^ 62)
    (q : R (Itr lo (hi - lo).toNat) H) : wpAny (model X.prog X.w) X.A (pyIter (.ref s.heap.objs.size)) (PIE X pins σ tg R) E { s with heap := s.heap.push { cls := .type "range", data := .fields #[.int lo t, .int hi u, .int 1 v] }, toks := tk } := by
  refine wpAny_pyIter_range (IsRange.new ..) (small_one h1 h2 h3 h4) ?_
  have I1 : Inv X pins σ H { s with heap := s.heap.push { cls := .type "range", data := .fields #[.int lo t, .int hi u, .int 1 v] }, toks := tk } := I.kept fun b o e => Heap.get?_push_of_some _ e
  refine ⟨(s.heap.push { cls := .type "range", data := .fields #[.int lo t, .int hi u, .int 1 v] }).objs.size, [(s.heap.push { cls := .type "range", data := .fields #[.int lo t, .int hi u, .int 1 v] }).objs.size], _, _, H, rfl,
    I1.kept (t' := tk) fun b o e => Heap.get?_push_of_some _ e, turn_range _ lo (hi - lo).toNat, ?_, fun b hb => ?_, q⟩
  · have e1 : lo + ((0 : Nat) : Int) * 1 = lo := by simp
    have e2 : (((hi - lo).toNat : Nat) : Int) - ((0 : Nat) : Int) = Builtin.Range.rangeSize lo hi 1 := by rw [rangeSize_one]; split <;> omega
    show IsRangeIter _ _ (lo + ((0 : Nat) : Int) * 1) ((((hi - lo).toNat : Nat) : Int) - ((0 : Nat) : Int)) 1
    rw [e1, e2]
    exact Heap.get?_push_size _ rfl
  · have e : b = (s.heap.push { cls := .type "range", data := .fields #[.int lo t, .int hi u, .int 1 v] }).objs.size := by simpa using hb
    subst e
    exact I1.fpOk (Nat.le_refl _) (I1.hok.fresh (Nat.le_refl _))
def iRng1 (ta : TA) : TI := fun σ H R => ta σ H fun vs H1 => ∃ j : Int, vs = [.int j] ∧ -(2 ^ 62) ≤ j ∧ j < 2 ^ 62 ∧ R (Itr 0 j.toNat) H1
def iRng2 (ta : TA) : TI := fun σ H R => ta σ H fun vs H1 => ∃ i j : Int, vs = [.int i, .int j] ∧ (-(2 ^ 62) ≤ i ∧ i < 2 ^ 62 ∧ -(2 ^ 62) ≤ j ∧ j < 2 ^ 62) ∧ R (Itr i (j - i).toNat) H1
theorem pi_range1 {a : Expr} {ta : TA} {p pos : Pos} (hg : Gl X "range") (hm : X.mg "range" = none) (ha : PA X [a] ta) (hs : starEach [a] X.env = [(false, eval a X.env)] := by rfl) : PI X tg (.Call (.Name "range" p) [a] [] pos) (iRng1 ta) := by
  intro pins s σ H R I h
  refine Call_ (ld_blt I hg hm boot_range (PyProof.Rows.callWith_type1 (thn (ha pos pins s σ H _ I h) fun us s1 ⟨vs, H1, I1, r1, q1⟩ => ?_) hs rfl))
  obtain ⟨j, e, q1, q2, q⟩ := q1
  subst e
  cases r1 with
  | cons r rr =>
    cases rr
    obtain ⟨t, rfl⟩ := r
    exact call_range_1 (range_it I1 (by omega) (by omega) q1 q2 (by simpa using q))
theorem pi_range2 {a b : Expr} {ta : TA} {p pos : Pos} (hg : Gl X "range") (hm : X.mg "range" = none) (ha : PA X [a, b] ta) (hs : starEach [a, b] X.env = [(false, eval a X.env), (false, eval b X.env)] := by rfl) (hs2 : starEach [b] X.env = [(false, eval b X.env)] := by rfl) :
    PI X tg (.Call (.Name "range" p) [a, b] [] pos) (iRng2 ta) := by
  intro pins s σ H R I h
  refine Call_ (ld_blt I hg hm boot_range (PyProof.Rows.callWith_type1 (thn (ha pos pins s σ H _ I h) fun us s1 ⟨vs, H1, I1, r1, q1⟩ => ?_) (by rw [hs, hs2]) (by rw [hs2]; rfl)))
  obtain ⟨i, j, e, ⟨q1, q2, q3, q4⟩, q⟩ := q1
  subst e
  cases r1 with
  | cons r rr =>
    cases rr with
    | cons r' rr =>
      cases rr
      obtain ⟨t, rfl⟩ := r
      obtain ⟨t', rfl⟩ := r'
      exact call_range_2 (range_it I1 q1 q2 q3 q4 q)
def tFor (wi : TI) (g : TG) (tb : TS) : TS := fun D σ H => wi σ H fun J H1 => ∃ W : Nat → Nat → St → Hp → Prop, (∃ m, W 0 m σ H1) ∧ ∀ i m σ H, W i m σ H →
  (J.stop i H ∧ D.nx σ H) ∨ (J.go i H ∧ ∃ N : St → Hp → Prop, (∀ σ' H', N σ' H' → ∃ m', m' < m ∧ W (i + 1) m' σ' H') ∧ ∀ x H', J.yld i H x H' → g x σ H' fun σ2 H2 => tb { D with nx := N, ct := N, bk := D.nx } σ2 H2)
def pinsAt (fp : List Addr) (h : Heap) : List (Addr × Obj) := fp.filterMap fun b => (h.get? b).map fun o => (b, o)
theorem mem_pinsAt {fp : List Addr} {h : Heap} {b : Addr} {o : Obj} (hb : b ∈ fp) (e : h.get? b = some o) : (b, o) ∈ pinsAt fp h := List.mem_filterMap.mpr ⟨b, hb, by rw [e]; rfl⟩
theorem of_pinsAt {fp : List Addr} {h : Heap} {p : Addr × Obj} (hp : p ∈ pinsAt fp h) : p.1 ∈ fp ∧ h.get? p.1 = some p.2 := by
  obtain ⟨b, hb, e⟩ := List.mem_filterMap.mp hp
  cases q : h.get? b with
  | none => rw [q] at e; cases e
  | some o =>
    rw [q] at e
    have e' : (b, o) = p := Option.some.inj e
    subst e'
    exact ⟨hb, q⟩
theorem Inv.pinned {pins : List (Addr × Obj)} {σ : St} {H : Hp} {s : Shared} {fp : List Addr} (I : Inv X pins σ H s) (hf : ∀ b ∈ fp, FpOk X pins H b) (ho : ∀ b ∈ fp, ∃ o, s.heap.get? b = some o ∧ ∀ v, o.data ≠ .cell v) : Inv X (pins ++ pinsAt fp s.heap) σ H s :=
  I.pins_of fun p hp => (List.mem_append.mp hp).elim (fun z => I.pin p (List.mem_append_right _ z)) fun z => by
    obtain ⟨hb, e⟩ := of_pinsAt z
    obtain ⟨f0, f1, f2, _⟩ := hf p.1 hb
    obtain ⟨o, e', d⟩ := ho p.1 hb
    rw [e] at e'; cases e'
    exact ⟨e, f0, f1, f2, d⟩
theorem Inv.unpinned {pins pl : List (Addr × Obj)} {σ : St} {H : Hp} {s : Shared} (I : Inv X (pins ++ pl) σ H s) : Inv X pins σ H s := I.pins_of fun p hp => I.pin p (List.mem_append_right _ (List.mem_append_left _ hp))
theorem ps_for {iter : Expr} {body : List Stmt} {wi : TI} {g : TG} {tb : TS} {pos : Pos} (hp : PassesOwn (model X.prog X.w) X.A X.env X.xe) (hc : X.calm = true) (hi : PI X tg iter wi) (hg : PG X tg g) (hb : PSs X body tb)
    (hs : ∀ x, foldedSetIterable iter X.env x = pure x := by intro _; rfl) : PS X (.For tg iter body [] pos) (tFor wi g tb) := by
  intro pins s σ H D I h
  refine wpAny_For (thn (hi pins s σ H _ I h) fun v s1 h1 => thn h1 fun itv s2 h2 => ?_) hs
  obtain ⟨it, fp, tn, J, H2, e, I2, T, st2, f2, W, ⟨m0, w0⟩, turn⟩ := h2
  subst e
  have stat : ∀ {H' : Hp}, (∀ b ∈ fp, H' b = none) → ∀ b ∈ fp, FpOk X pins H' b := fun hn b hb => ⟨hn b hb, (f2 b hb).2⟩
  refine codeAny_forLoop_any (fun n s' => ∃ i σ' H', Inv X pins σ' H' s' ∧ tn i s'.heap ∧ (∀ b ∈ fp, H' b = none) ∧ W i n σ' H') ?_ m0 ⟨0, σ, H2, I2, st2, fun b hb => (f2 b hb).1, w0⟩
  rintro n s3 ⟨i, σ3, H3, I3, st3, fr3, w3⟩
  rcases turn i n σ3 H3 w3 with ⟨stop, qn⟩ | ⟨go, N, hN, step⟩
  · refine wpAny_passesOwn hp (thn (T.done X rfl rfl rfl hc i pins s3 σ3 H3 X.xe I3 (stat fr3) st3 stop) fun r s4 ⟨hr, I4⟩ => ?_)
    subst hr
    exact wpAny_execs_nil ⟨σ3, H3, I4, qn⟩
  · refine wpAny_passesOwn hp (thn (T.item X rfl rfl rfl hc i pins s3 σ3 H3 X.xe I3 (stat fr3) st3 go) fun r s4 ⟨u, hr, h4⟩ => ?_)
    subst hr
    refine wpAny_passesOwn hp (thn h4 fun _ s5 ⟨x, H5, I5, r5, y5, st5, fr5⟩ => ?_)
    have I5' := I5.pinned (stat fr5) (T.obj _ _ st5)
    refine wpAny_passesOwn hp (thn (hg _ s5 σ3 H5 x u _ I5' r5 (step x H5 y5)) fun _ s6 ⟨σ6, H6, I6, q6⟩ => ?_)
    refine wpAny_passesOwn hp (thn (hb _ s6 σ6 H6 _ I6 q6) fun f s7 q7 => ?_)
    have again : ∀ {σ7 : St} {H7 : Hp}, Inv X (pins ++ pinsAt fp s5.heap) σ7 H7 s7 → N σ7 H7 → ∃ m, m < n ∧ ∃ i σ' H', Inv X pins σ' H' s7 ∧ tn i s7.heap ∧ (∀ b ∈ fp, H' b = none) ∧ W i m σ' H' := fun {σ7 H7} I7 n7 => by
      obtain ⟨m', hm, w7⟩ := hN σ7 H7 n7
      refine ⟨m', hm, i + 1, σ7, H7, I7.unpinned, T.keep _ _ _ st5 fun b hb o e => (I7.pin (b, o) (List.mem_append_right _ (List.mem_append_right _ (mem_pinsAt hb e)))).1, fun b hb => ?_, w7⟩
      obtain ⟨o, e, d⟩ := T.obj _ _ st5 b hb
      exact (I7.pin (b, o) (List.mem_append_right _ (List.mem_append_right _ (mem_pinsAt hb e)))).2.1
    cases f with
    | next => obtain ⟨σ7, H7, I7, n7⟩ := q7; exact again I7 n7
    | cont => obtain ⟨σ7, H7, I7, n7⟩ := q7; exact again I7 n7
    | brk => obtain ⟨σ7, H7, I7, q7⟩ := q7; exact ⟨σ7, H7, I7.unpinned, q7⟩
    | ret v => obtain ⟨x7, σ7, H7, I7, r7, q7⟩ := q7; exact ⟨x7, σ7, H7, I7.unpinned, r7, q7⟩
end
end L2
namespace L2
open PySem PySem.Spec PyProof.Rows
abbrev R2 := V → V → Hp → VK → Prop
def OpR (X : Cx) (f : Value → Value → Sem Value) (r : R2) : Prop :=
  ∀ (pins : List (Addr × Obj)) (s : Shared) (σ : St) (H : Hp) (x y : V) (v u : Value) (Q : VK), Inv X pins σ H s → RelV x v → RelV y u → r x y H Q →
    wpAny (model X.prog X.w) X.A (f v u) (EP X pins σ Q) X.xe s
def UnR (X : Cx) (f : Value → Sem Value) (r : V → Hp → VK → Prop) : Prop :=
  ∀ (pins : List (Addr × Obj)) (s : Shared) (σ : St) (H : Hp) (x : V) (v : Value) (Q : VK), Inv X pins σ H s → RelV x v → r x H Q →
    wpAny (model X.prog X.w) X.A (f v) (EP X pins σ Q) X.xe s
def CallR (X : Cx) (f : Value) (r : List V → Hp → VK → Prop) : Prop :=
  ∀ (pins : List (Addr × Obj)) (s : Shared) (σ : St) (H : Hp) (xs : List V) (us : List Value) (Q : VK), Inv X pins σ H s → Vals xs us → r xs H Q →
    wpAny (model X.prog X.w) X.A (call f us) (EP X pins σ Q) X.xe s
def TruR (X : Cx) (r : V → Hp → (Bool → Hp → Prop) → Prop) : Prop :=
  ∀ (pins : List (Addr × Obj)) (s : Shared) (σ : St) (H : Hp) (x : V) (v : Value) (Q : Bool → Hp → Prop), Inv X pins σ H s → RelV x v → r x H Q →
    wpAny (model X.prog X.w) X.A (truthy v) (TP X pins σ Q) X.xe s
def tOp (r : R2) (ta tb : TE) : TE := fun σ H Q => ta σ H fun x H1 => tb σ H1 fun y H2 => r x y H2 Q
def tUn (r : V → Hp → VK → Prop) (ta : TE) : TE := fun σ H Q => ta σ H fun x H1 => r x H1 Q
def rI (C : Int → Int → Prop) (g : Int → Int → V) : R2 := fun x y H Q => ∃ i j, x = .int i ∧ y = .int j ∧ C i j ∧ Q (g i j) H
def rI0 (g : Int → Int → V) : R2 := fun x y H Q => ∃ i j, x = .int i ∧ y = .int j ∧ Q (g i j) H
def rU (g : Int → V) : V → Hp → VK → Prop := fun x H Q => ∃ i, x = .int i ∧ Q (g i) H
section
variable {X : Cx} {a b c : Expr} {ta tb tc : TE} {pos : Pos}
theorem binT (ha : PE X a ta) (hb : PE X b tb) {pins : List (Addr × Obj)} {s : Shared} {σ : St} {H : Hp} {R : V → V → Hp → Prop} (I : Inv X pins σ H s)
    (h : ta σ H fun x H1 => tb σ H1 fun y H2 => R x y H2) {Q : Value → Shared → Prop} {f : Value → Value → Sem Value}
    (hf : ∀ v u s2 x y H2, Inv X pins σ H2 s2 → RelV x v → RelV y u → R x y H2 → wpAny (model X.prog X.w) X.A (f v u) Q X.xe s2) :
    wpAny (model X.prog X.w) X.A (eval a X.env) (fun v s₁ => wpAny (model X.prog X.w) X.A (eval b X.env) (fun u s₂ => wpAny (model X.prog X.w) X.A (f v u) Q X.xe s₂) X.xe s₁) X.xe s := by
  refine thn (ha pins s σ H _ I h) fun v s1 ⟨x, H1, I1, r1, q1⟩ => ?_
  refine thn (hb pins s1 σ H1 _ I1 q1) fun u s2 ⟨y, H2, I2, r2, q2⟩ => ?_
  exact hf v u s2 x y H2 I2 r1 r2 q2
theorem pe_op {op : Operator} {r : R2} (ho : OpR X (binaryOp op) r) (ha : PE X a ta) (hb : PE X b tb) : PE X (.BinOp a op b pos) (tOp r ta tb) := by
  intro pins s σ H Q I h
  exact wpAny_BinOp (binT ha hb I h fun v u s2 x y H2 I2 rx ry q => ho pins s2 σ H2 x y v u Q I2 rx ry q)
theorem pe_un {op : UnaryOp} {r : V → Hp → VK → Prop} (ho : UnR X (unaryOp op) r) (ha : PE X a ta) : PE X (.UnaryOp op a pos) (tUn r ta) := by
  intro pins s σ H Q I h
  exact UnaryOp_ (thn (ha pins s σ H _ I h) fun v s1 ⟨x, H1, I1, r1, q1⟩ => ho pins s1 σ H1 x v Q I1 r1 q1)
theorem opI {f : Value → Value → Sem Value} {C : Int → Int → Prop} {g : Int → Int → Int}
    (rule : ∀ (i j : Int) (t u : Tok) (s : Shared) (Q : Value → Shared → Prop) (E : Value → Shared → Prop), C i j → Q (.int (g i j) s.toks) { s with toks := s.toks + 1 } → wpAny (model X.prog X.w) X.A (f (.int i t) (.int j u)) Q E s) :
    OpR X f (rI C fun i j => .int (g i j)) := by
  intro pins s σ H x y v u Q I rx ry h
  obtain ⟨i, j, rfl, rfl, hc, q⟩ := h
  obtain ⟨t, rfl⟩ := rx
  obtain ⟨t', rfl⟩ := ry
  exact rule i j t t' s _ _ hc ⟨.int (g i j), H, I.tok _, ⟨_, rfl⟩, q⟩
theorem opI0 {f : Value → Value → Sem Value} {g : Int → Int → Int}
    (rule : ∀ (i j : Int) (t u : Tok) (s : Shared) (Q : Value → Shared → Prop) (E : Value → Shared → Prop), Q (.int (g i j) s.toks) { s with toks := s.toks + 1 } → wpAny (model X.prog X.w) X.A (f (.int i t) (.int j u)) Q E s) :
    OpR X f (rI0 fun i j => .int (g i j)) := by
  intro pins s σ H x y v u Q I rx ry h
  obtain ⟨i, j, rfl, rfl, q⟩ := h
  obtain ⟨t, rfl⟩ := rx
  obtain ⟨t', rfl⟩ := ry
  exact rule i j t t' s _ _ ⟨.int (g i j), H, I.tok _, ⟨_, rfl⟩, q⟩
theorem opB0 {f : Value → Value → Sem Value} {g : Int → Int → Bool}
    (rule : ∀ (i j : Int) (t u : Tok) (s : Shared) (Q : Value → Shared → Prop) (E : Value → Shared → Prop), Q (.bool (g i j)) s → wpAny (model X.prog X.w) X.A (f (.int i t) (.int j u)) Q E s) :
    OpR X f (rI0 fun i j => .bl (g i j)) := by
  intro pins s σ H x y v u Q I rx ry h
  obtain ⟨i, j, rfl, rfl, q⟩ := h
  obtain ⟨t, rfl⟩ := rx
  obtain ⟨t', rfl⟩ := ry
  exact rule i j t t' s _ _ ⟨.bl (g i j), H, I, rfl, q⟩
def CPow (i j : Int) : Prop := 0 ≤ j ∧ j ≤ 1000000 ∧ i.natAbs < 2 ^ 64
def CMul (i j : Int) : Prop := (-(2 ^ 64) < i ∧ i < 2 ^ 64) ∨ (-(2 ^ 64) < j ∧ j < 2 ^ 64)
theorem CMul.ok {i j : Int} (h : CMul i j) : IntMulOk i j := by
  rcases h with ⟨h1, h2⟩ | ⟨h1, h2⟩
  · exact .of_left (intBits_le_64 h1 h2)
  · exact .of_right (intBits_le_64 h1 h2)
theorem op_add : OpR X (binaryOp .Add) (rI0 fun i j => .int (i + j)) := opI0 fun _ _ _ _ _ _ _ q => add_int q
theorem op_sub : OpR X (binaryOp .Sub) (rI0 fun i j => .int (i - j)) := opI0 fun _ _ _ _ _ _ _ q => sub_int q
theorem op_modN : OpR X (binaryOp .Mod) (rI (fun _ j => j ≠ 0) fun i j => .int (i.fmod j)) := opI fun _ _ _ _ _ _ _ hc q => mod_int' hc q
theorem op_pow : OpR X (binaryOp .Pow) (rI CPow fun i j => .int (i ^ j.toNat)) := opI fun _ _ _ _ _ _ _ hc q => pow_int_small hc.1 hc.2.1 hc.2.2 q
theorem unI {f : Value → Sem Value} {g : Int → Int}
    (rule : ∀ (i : Int) (t : Tok) (s : Shared) (Q : Value → Shared → Prop) (E : Value → Shared → Prop), Q (.int (g i) s.toks) { s with toks := s.toks + 1 } → wpAny (model X.prog X.w) X.A (f (.int i t)) Q E s) :
    UnR X f (rU fun i => .int (g i)) := by
  intro pins s σ H x v Q I rx h
  obtain ⟨i, rfl, q⟩ := h
  obtain ⟨t, rfl⟩ := rx
  exact rule i t s _ _ ⟨.int (g i), H, I.tok _, ⟨_, rfl⟩, q⟩
theorem un_neg : UnR X (unaryOp .USub) (rU fun i => .int (-i)) := unI fun _ _ _ _ _ q => neg_int q
end
section
variable {X : Cx} {a b c : Expr} {ta tb tc : TE} {pos : Pos}
theorem op_lt : OpR X (compareOp .Lt) (rI0 fun i j => .bl (decide (i < j))) := opB0 fun _ _ _ _ _ _ _ q => lt_int q
theorem op_le : OpR X (compareOp .LtE) (rI0 fun i j => .bl (decide (i ≤ j))) := opB0 fun _ _ _ _ _ _ _ q => le_int q
theorem op_gt : OpR X (compareOp .Gt) (rI0 fun i j => .bl (decide (j < i))) := opB0 fun _ _ _ _ _ _ _ q => gt_int q
theorem op_ge : OpR X (compareOp .GtE) (rI0 fun i j => .bl (decide (j ≤ i))) := opB0 fun _ _ _ _ _ _ _ q => ge_int q
theorem OpR.or {f : Value → Value → Sem Value} {r r' : R2} (h : OpR X f r) (h' : OpR X f r') : OpR X f (fun x y H Q => r x y H Q ∨ r' x y H Q) := by
  intro pins s σ H x y v u Q I rx ry q
  rcases q with q | q
  · exact h pins s σ H x y v u Q I rx ry q
  · exact h' pins s σ H x y v u Q I rx ry q
theorem nomark (b : Expr) {op : CmpOp} (h : op ≠ .In := by decide) (h2 : op ≠ .NotIn := by decide) : behindInMarks op b = false := by
  have e1 : (op == CmpOp.In) = false := by cases op <;> first | rfl | exact absurd rfl h
  have e2 : (op == CmpOp.NotIn) = false := by cases op <;> first | rfl | exact absurd rfl h2
  cases b <;> simp [behindInMarks, e1, e2]
theorem pe_cmpR {op : CmpOp} {r : R2} (ho : OpR X (compareOp op) r) (ha : PE X a ta) (hb : PE X b tb) (hm : behindInMarks op b = false) : PE X (.Compare a [op] [b] pos) (tOp r ta tb) := by
  intro pins s σ H Q I h
  exact wpAny_Compare1 (binT ha hb I h fun v u s2 x y H2 I2 rx ry q => ho pins s2 σ H2 x y v u Q I2 rx ry q) hm
def tTest (t : TE) : TT := fun σ H Q => t σ H fun x H' => ∃ k, x = .bl k ∧ Q k H'
theorem pt_cmpR {op : CmpOp} {r : R2} (ho : OpR X (compareOp op) r) (ha : PE X a ta) (hb : PE X b tb) (hm : behindInMarks op b = false) : PT X (.Compare a [op] [b] pos) (tTest (tOp r ta tb)) := by
  intro pins s σ H Q I h
  refine wpAny_isTrue_Compare1 (thn (ha pins s σ H _ I h) fun v s1 ⟨x, H1, I1, r1, q1⟩ => thn (hb pins s1 σ H1 _ I1 q1) fun u s2 ⟨y, H2, I2, r2, q2⟩ =>
    thn (ho pins s2 σ H2 x y v u _ I2 r1 r2 q2) fun c s3 ⟨z, H3, I3, r3, k, e, q3⟩ => ?_) hm
  subst e
  cases r3
  exact wpAny_truthy_bool ⟨H3, I3, q3⟩
def tChain (r r' : R2) (ta tb tc : TE) : TE := fun σ H Q => ta σ H fun x H1 => tb σ H1 fun y H2 => r x y H2 fun z H3 => ∃ k, z = .bl k ∧
  (if k = true then tc σ H3 fun w' H4 => r' y w' H4 Q else Q (.bl false) H3)
theorem pe_chain {op op' : CmpOp} {r r' : R2} (ho : OpR X (compareOp op) r) (ho' : OpR X (compareOp op') r') (ha : PE X a ta) (hb : PE X b tb) (hc : PE X c tc)
    (hm : lastMarks [op, op'] [b, c] = false := by with_unfolding_all rfl) : PE X (.Compare a [op, op'] [b, c] pos) (tChain r r' ta tb tc) := by
  intro pins s σ H Q I h
  refine Compare_chain (thn (ha pins s σ H _ I h) fun v s1 ⟨x, H1, I1, r1, q1⟩ => chain_link (thn (hb pins s1 σ H1 _ I1 q1) fun u s2 ⟨y, H2, I2, r2, q2⟩ =>
    thn (ho pins s2 σ H2 x y v u _ I2 r1 r2 q2) fun d s3 ⟨z, H3, I3, r3, k, e, q3⟩ => ?_)) hm
  subst e
  cases r3
  refine wpAny_truthy_bool ?_
  cases k with
  | false => exact ite_ff ⟨.bl false, H3, I3, rfl, q3⟩
  | true => exact ite_tt (chain_last (thn (hc pins s3 σ H3 _ I3 q3) fun w' s4 ⟨z', H4, I4, r4, q4⟩ => ho' pins s4 σ H4 y z' u w' Q I4 r2 r4 q4))
theorem pt_chain {op op' : CmpOp} {r r' : R2} (ho : OpR X (compareOp op) r) (ho' : OpR X (compareOp op') r') (ha : PE X a ta) (hb : PE X b tb) (hc : PE X c tc)
    (hm : lastMarks [op, op'] [b, c] = false := by with_unfolding_all rfl) : PT X (.Compare a [op, op'] [b, c] pos) (tTest (tChain r r' ta tb tc)) := by
  intro pins s σ H Q I h
  refine isTrue_chain (thn (ha pins s σ H _ I h) fun v s1 ⟨x, H1, I1, r1, q1⟩ => test_link (thn (hb pins s1 σ H1 _ I1 q1) fun u s2 ⟨y, H2, I2, r2, q2⟩ =>
    thn (ho pins s2 σ H2 x y v u _ I2 r1 r2 q2) fun d s3 ⟨z, H3, I3, r3, k, e, q3⟩ => ?_)) hm
  subst e
  cases r3
  refine wpAny_truthy_bool ?_
  cases k with
  | false =>
    obtain ⟨k', e', q'⟩ := q3
    cases e'
    exact ite_ff ⟨H3, I3, q'⟩
  | true =>
    refine ite_tt (test_last (thn (hc pins s3 σ H3 _ I3 q3) fun w' s4 ⟨z', H4, I4, r4, q4⟩ => thn (ho' pins s4 σ H4 y z' u w' _ I4 r2 r4 q4) fun d' s5 ⟨z2, H5, I5, r5, k2, e2, q5⟩ => ?_))
    subst e2
    cases r5
    exact wpAny_truthy_bool ⟨H5, I5, q5⟩
def TruV (K : PySem.W.Frag) (x : V) (H : Hp) (k : Bool) : Prop :=
  match x with
  | .non => k = false
  | .bl b => k = b
  | .int i => k = (i != 0)
  | .str y => y.length ≤ sizeLine ∧ k = ((y.length : Int) != 0)
  | .byt y => y.size ≤ sizeLine ∧ k = ((y.size : Int) != 0)
  | .ref p => (∃ xs, SqL K H p xs ∧ k = !xs.isEmpty) ∨ (∃ xs, SqT K H p xs ∧ k = !xs.isEmpty) ∨ ∃ kvs, H p = some (.dK kvs) ∧ k = !kvs.isEmpty
  | _ => False
theorem isEmpty_kv {κ : Type} {kvs : List (κ × V)} {vs : List (κ × Value)} (r : KV kvs vs) : (!vs.isEmpty) = !kvs.isEmpty := by
  cases r <;> rfl
theorem isEmpty_of {xs : List V} {its : List Value} (r : Vals xs its) : (!its.toArray.isEmpty) = !xs.isEmpty := by
  cases r <;> simp
theorem line63 : (sizeLine : Nat) < 2 ^ 63 := by rw [sizeLine_eq]; decide
theorem tru_ok : TruR X (fun x H Q => ∃ k, TruV X.K x H k ∧ Q k H) := by
  intro pins s σ H x v Q I rx h
  obtain ⟨k, e, q⟩ := h
  have hl := line63
  have hs : sizeLine = 16777216 := sizeLine_eq
  cases x with
  | non =>
    cases rx
    have e' : k = false := e
    subst e'
    exact truthy_none ⟨H, I, q⟩
  | bl b =>
    cases rx
    have e' : k = b := e
    subst e'
    exact wpAny_truthy_bool ⟨H, I, q⟩
  | int i =>
    obtain ⟨t, rfl⟩ := rx
    have e' : k = (i != 0) := e
    subst e'
    exact PySem.P.truthy_int ⟨H, I, q⟩
  | str y =>
    obtain ⟨t, rfl⟩ := rx
    obtain ⟨hy, e'⟩ : y.length ≤ sizeLine ∧ k = ((y.length : Int) != 0) := e
    subst e'
    exact PySem.P.truthy_str (by omega) ⟨H, I.tok _, q⟩
  | byt y =>
    obtain ⟨t, rfl⟩ := rx
    obtain ⟨hy, e'⟩ : y.size ≤ sizeLine ∧ k = ((y.size : Int) != 0) := e
    subst e'
    exact PySem.W.truthy_bytes (by omega) ⟨H, I.tok _, q⟩
  | ref p =>
    cases rx
    have e' : (∃ xs, SqL X.K H p xs ∧ k = !xs.isEmpty) ∨ (∃ xs, SqT X.K H p xs ∧ k = !xs.isEmpty) ∨ ∃ kvs, H p = some (.dK kvs) ∧ k = !kvs.isEmpty := e
    rcases e' with ⟨xs, hx, e'⟩ | ⟨xs, hx, e'⟩ | ⟨kvs, hx, e'⟩
    · subst e'
      obtain ⟨its, r, pl, hz⟩ := I.list hx
      have hlen := r.length
      exact wpAny_truthy_list pl.isList (by simp only [List.size_toArray]; omega) ⟨H, I.tok _, by rw [isEmpty_of r]; exact q⟩
    · subst e'
      obtain ⟨its, r, pl, hz⟩ := I.tuple hx
      have hlen := r.length
      exact truthy_tuple pl (by simp only [List.size_toArray]; omega) ⟨H, I.tok _, by rw [isEmpty_of r]; exact q⟩
    · subst e'
      obtain ⟨hz, hS, vs, r, m⟩ : kvs.length ≤ sizeLine ∧ (p == sysModules) = false ∧ ∃ vs, KV kvs vs ∧ s.heap.DictOf (mixKind X.prog X.w) p vs := I.hok p _ hx
      have hlen : kvs.length = vs.length := Paired.length r
      exact wpAny_truthy_dict hS m (by omega) ⟨H, I.tok _, by rw [isEmpty_kv r]; exact q⟩
  | _ => exact (show False from e).elim
theorem pt_truth (ha : PE X a ta) (he : ∀ whole, isTrue a X.env whole = (do let v ← whole; standAt a.pos; holding [v] (truthy v))) :
    PT X a (fun σ H Q => ta σ H fun x H' => ∃ k, TruV X.K x H' k ∧ Q k H') := by
  intro pins s σ H Q I h
  exact isTrue_plain (thn (ha pins s σ H _ I h) fun v s1 ⟨x, H1, I1, r1, q1⟩ => tru_ok pins s1 σ H1 x v Q I1 r1 q1) (he _)
theorem vals1 {x : V} {us : List Value} (r : Vals [x] us) : ∃ u, us = [u] ∧ RelV x u := by
  cases r with
  | cons r1 r2 => cases r2; exact ⟨_, rfl, r1⟩
theorem vals2 {x y : V} {us : List Value} (r : Vals [x, y] us) : ∃ u w', us = [u, w'] ∧ RelV x u ∧ RelV y w' := by
  cases r with
  | cons r1 r2 =>
    cases r2 with
    | cons r3 r4 => cases r4; exact ⟨_, _, rfl, r1, r3⟩
theorem call_abs : CallR X (.builtin "abs") (fun xs H Q => ∃ i, xs = [.int i] ∧ Q (.int (if i < 0 then -i else i)) H) := by
  intro pins s σ H xs us Q I r h
  obtain ⟨i, rfl, q⟩ := h
  obtain ⟨u, rfl, t, rfl⟩ := vals1 r
  exact call_abs_int fun u tk => ⟨.int (if i < 0 then -i else i), H, I.tok _, ⟨_, rfl⟩, q⟩
theorem call_max2 (hc : X.calm = true) : CallR X (.builtin "max") (fun xs H Q => ∃ i j, xs = [.int i, .int j] ∧ Q (.int (if j > i then j else i)) H) := by
  intro pins s σ H xs us Q I r h
  obtain ⟨i, j, rfl, q⟩ := h
  obtain ⟨u, w', rfl, ⟨t, rfl⟩, ⟨t', rfl⟩⟩ := vals2 r
  refine max_two_ints (I.ok.hd hc) fun h' tk k => ⟨_, H, I.kept k, ?_, q⟩
  by_cases hj : j > i
  · rw [if_pos hj, if_pos hj]; exact ⟨_, rfl⟩
  · rw [if_neg hj, if_neg hj]; exact ⟨_, rfl⟩
theorem call_min2 (hc : X.calm = true) : CallR X (.builtin "min") (fun xs H Q => ∃ i j, xs = [.int i, .int j] ∧ Q (.int (if j < i then j else i)) H) := by
  intro pins s σ H xs us Q I r h
  obtain ⟨i, j, rfl, q⟩ := h
  obtain ⟨u, w', rfl, ⟨t, rfl⟩, ⟨t', rfl⟩⟩ := vals2 r
  refine min_two_ints (I.ok.hd hc) fun h' tk k => ⟨_, H, I.kept k, ?_, q⟩
  by_cases hj : j < i
  · rw [if_pos hj, if_pos hj]; exact ⟨_, rfl⟩
  · rw [if_neg hj, if_neg hj]; exact ⟨_, rfl⟩
theorem call_int1 : CallR X (.type "int") (fun xs H Q => (∃ i, xs = [.int i] ∧ Q (.int i) H) ∨ ∃ k, xs = [.bl k] ∧ Q (.int (if k then 1 else 0)) H) := by
  intro pins s σ H xs us Q I r h
  rcases h with ⟨i, rfl, q⟩ | ⟨k, rfl, q⟩
  · obtain ⟨u, rfl, t, rfl⟩ := vals1 r
    exact call_int_int ⟨.int i, H, I, ⟨_, rfl⟩, q⟩
  · obtain ⟨u, rfl, r1⟩ := vals1 r
    cases r1
    exact call_int_bool ⟨.int (if k then 1 else 0), H, I.tok _, ⟨_, rfl⟩, q⟩
end
end L2
namespace L2
open PySem PySem.Spec PyProof.Rows
section
variable {prog : Program} {w : World} {A : Around} {E : Value → Shared → Prop} {s : Shared} {K : PySem.W.Frag} {x dx C f : Addr} {mA : Str → Option Value} {name : Str} {v : Value}
end
section
variable {P : Program} {w : World} {H H' : Hp} {h h' : Heap} {a C dx : Addr} {fs fs' : List (Str × V)}
end
structure Cls (K : PySem.W.Frag) (C : Addr) : Prop where
  pg : PySem.W.plainGet K C Str.empty = true
  hd : PySem.W.hasDictIn K C = true
  po : PySem.W.plainOver K C = true
  sa : PySem.W.findIn K (.ref C) "__setattr__" = some (some (.builtin "object.__setattr__"))
theorem Cls.get {K : PySem.W.Frag} {C : Addr} (c : Cls K C) (f : Str) : PySem.W.plainGet K C f = true := c.pg
section
variable {X : Cx} {pins : List (Addr × Obj)} {σ : St} {H : Hp} {s : Shared} {a C dx : Addr} {fs : List (Str × V)} {f : Str} {v : V} {A : Around} {E : Value → Shared → Prop}
theorem Inv.made (I : Inv X pins σ H s) : Inv X pins σ (upd (upd H s.heap.objs.size (.own (s.heap.objs.size + 1))) (s.heap.objs.size + 1) (.ins C s.heap.objs.size []))
    { s with heap := (s.heap.push PySem.W.emptyDict).push (PySem.W.instObj C s.heap.objs.size) } := by
  have e1 : (s.heap.push PySem.W.emptyDict).get? s.heap.objs.size = some PySem.W.emptyDict := Heap.get?_push_size s.heap rfl
  have e2 : ((s.heap.push PySem.W.emptyDict).push (PySem.W.instObj C s.heap.objs.size)).get? (s.heap.objs.size + 1) = some (PySem.W.instObj C s.heap.objs.size) := by
    have := Heap.get?_push_size (s.heap.push PySem.W.emptyDict) (o := PySem.W.instObj C s.heap.objs.size) rfl
    rwa [Heap.size_push] at this
  have e3 : (s.heap.push PySem.W.emptyDict).Ns s.heap.objs.size (fun _ => none) := ⟨PySem.W.emptyDict, #[], _, e1, rfl, (fun e he => absurd he (by simp)), fun _ => rfl⟩
  have I1 := I.laid (a := s.heap.objs.size) (o := .own (s.heap.objs.size + 1)) (h' := s.heap.push PySem.W.emptyDict) (t' := s.toks) (fun b u q => Heap.get?_push_of_some _ q) (Nat.le_refl _) ⟨_, e1⟩
  refine I1.laid (a := s.heap.objs.size + 1) (o := .ins C s.heap.objs.size []) (t' := s.toks) (fun b u q => Heap.get?_push_of_some _ q) (Nat.le_of_eq (Heap.size_push _ _)) ?_
  have ne : s.heap.objs.size ≠ s.heap.objs.size + 1 := Nat.ne_of_lt (Nat.lt_succ_self _)
  refine ⟨by rw [upd_ne ne, upd_same], Nat.zero_le _, ne, e2, fun _ => none, (Heap.Ns1.of_empty e3).at fun o q => Heap.get?_push_of_some _ q, fun _ => True.intro, fun y hy => absurd rfl hy⟩
end
section
variable {X : Cx} {o e value : Expr} {f : Str} {pos pos' tpos : Pos} {ta tv : TE}
end
section
variable {X : Cx} {pins : List (Addr × Obj)} {σ : St} {H : Hp} {s : Shared} {A : Around} {E : Value → Shared → Prop} {Q : Value → Shared → Prop} {c : Value} {b : Bool}
end
end L2
namespace L2
open PySem PySem.Spec PyProof.Rows
structure Room (k : Nat) (A : Around) : Prop where
  hd : A.handled = none
  dp : A.depth + 3 * k + 5 < recursionLimit
  un : A.units + 16 * k + 200 < cLine
theorem Room.mono {j k : Nat} {A : Around} (r : Room k A) (h : j ≤ k) : Room j A := ⟨r.hd, by have := r.dp; omega, by have := r.un; omega⟩
theorem Room.deeper {k : Nat} {A : Around} (r : Room (k + 1) A) (env : Env) : Room k (A.deeper env) :=
  ⟨r.hd, by have := r.dp; show A.depth + 1 + 3 * k + 5 < _; omega, by have := r.un; show A.units + 3 + 16 * k + 200 < _; omega⟩
theorem Room.depth {k : Nat} {A : Around} (r : Room k A) : A.depth < recursionLimit := by have := r.dp; omega
theorem Room.units {k : Nat} {A : Around} (r : Room k A) : A.units + 64 < cLine := by have := r.un; omega
def tNil : TA := fun _ H Q => Q [] H
def tCons (ta : TE) (tr : TA) : TA := fun σ H Q => ta σ H fun x H1 => tr σ H1 fun xs H2 => Q (x :: xs) H2
section
variable {X : Cx} {e : Expr} {es : List Expr} {te : TE} {t : TA} {pos : Pos}
theorem pa_nil : PA X [] tNil := fun _ _ _ _ H Q I h => Calls.spliced_nil ⟨[], H, I, .nil, h⟩
theorem pa_cons (ha : PE X e te) (hr : PA X es t) (hs : starEach (e :: es) X.env = (false, eval e X.env) :: starEach es X.env := by rfl) : PA X (e :: es) (tCons te t) := by
  intro pos pins s σ H Q I h
  rw [hs]
  show wpAny _ _ (spliced ((false, eval e X.env) :: backTo pos (starEach es X.env))) _ _ s
  refine Calls.spliced_cons (thn (ha pins s σ H _ I h) fun u s1 ⟨x, H1, I1, r1, q1⟩ => ?_)
  exact thn (hr pos pins s1 σ H1 _ I1 q1) fun us s2 ⟨xs, H2, I2, r2, q2⟩ => ⟨x :: xs, H2, I2, .cons r1 r2, q2⟩
def tTup (t : TA) : TE := fun σ H Q => t σ H fun xs H1 => xs.length ≤ sizeLine ∧ ∀ p, H1 p = none → Q (.ref p) (upd H1 p (.tup xs))
def tLst (t : TA) : TE := fun σ H Q => t σ H fun xs H1 => xs.length ≤ sizeLine ∧ ∀ p, H1 p = none → Q (.ref p) (upd H1 p (.lst xs))
theorem pe_tup {x1} (h : PA X es t) : PE X (.Tuple es x1 pos) (tTup t) := by
  intro pins s σ H Q I hq
  refine wpAny_Tuple_spliced (thn (h pos pins s σ H _ I hq) fun us s1 ⟨xs, H1, I1, r, z, q⟩ => ⟨by rw [← r.length]; exact z, ?_⟩)
  have hf : H1 s1.heap.objs.size = none := I1.hok.fresh (Nat.le_refl _)
  refine ⟨.ref s1.heap.objs.size, upd H1 s1.heap.objs.size (.tup xs), I1.laid (t' := s1.toks) (fun b u e => Heap.get?_push_of_some _ e) (Nat.le_refl _) ?_, rfl, q _ hf⟩
  exact ⟨z, us, r, ⟨_, Heap.get?_push_size _ rfl, rfl, _, rfl⟩⟩
theorem pe_lst (h : PA X es t) : PE X (.List es pos) (tLst t) := by
  intro pins s σ H Q I hq
  refine wpAny_List_spliced (thn (h pos pins s σ H _ I hq) fun us s1 ⟨xs, H1, I1, r, z, q⟩ => ⟨by rw [← r.length]; exact z, ?_⟩)
  have hf : H1 s1.heap.objs.size = none := I1.hok.fresh (Nat.le_refl _)
  refine ⟨.ref s1.heap.objs.size, upd H1 s1.heap.objs.size (.lst xs), I1.laid (t' := s1.toks) (fun b u e => Heap.get?_push_of_some _ e) (Nat.le_refl _) ?_, rfl, q _ hf⟩
  exact ⟨z, us, 0, r, Heap.get?_push_size _ rfl⟩
end
abbrev Sp := List V → Hp → VK → XK → Prop
abbrev CXT := List Env → Hp → Shared → XK → Value → Shared → Prop
structure Env0 (P : Program) (w : World) (K : PySem.W.Frag) (mg : Str → Option Value) (base : Heap) (A : Around) (outer : List Env) (s : Shared) (H : Hp) : Prop where
  frames : A.frames = some outer
  mod : Mod K mg base
  bs : ∀ b o, base.get? b = some o → s.heap.get? b = some o ∧ H b = none
  bsz : base.objs.size ≤ s.heap.objs.size
  funs : s.heap.FunFrames base outer
  frf : ∀ b ∈ frs outer, H b = none
  hok : HOk P w H s.heap
  bare : AllBare s.gens
def CE (outer : List Env) (P : Program) (w : World) (H : Hp) (s : Shared) (Q : VK) (u : Value) (s' : Shared) : Prop :=
  ∃ v H', s'.os = s.os ∧ AllBare s'.gens ∧ Un (frs outer) [] H H' s.heap s'.heap ∧ HOk P w H' s'.heap ∧ RelV v u ∧ Q v H'
def CR (CX : CXT) (outer : List Env) (P : Program) (w : World) (H : Hp) (s : Shared) (Q : VK) (E : XK) (r : Result) (s' : Shared) : Prop :=
  match r with
  | .ok (.ret u) => CE outer P w H s Q u s'
  | .ok _ => False
  | .error e => CX outer H s E e s'
structure FnOk (P : Program) (w : World) (K : PySem.W.Frag) (mg : Str → Option Value) (base : Heap) (CX : CXT) (k : Nat) (f : Addr) (fd : FuncData) (ps : List Str) (sp : Sp) : Prop where
  len : ∀ vs H Q E, sp vs H Q E → vs.length = ps.length
  run : ∀ (A : Around) (outer : List Env) (s : Shared) (H : Hp) (args : Args) (us : List Value) (vs : List V) (Q : VK) (E : XK), Room k A → Env0 P w K mg base A outer s H → BindsTo s fd args (ps.zip us) → Vals vs us → sp vs H Q E →
    codeAny (model P w) A (.call (.ref f) args) (CR CX outer P w H s Q E) s
theorem FnOk.mono {P : Program} {w : World} {K : PySem.W.Frag} {mg : Str → Option Value} {base : Heap} {CX : CXT} {j k : Nat} {f : Addr} {fd : FuncData} {ps : List Str} {sp : Sp} (F : FnOk P w K mg base CX j f fd ps sp) (h : j ≤ k) :
    FnOk P w K mg base CX k f fd ps sp := ⟨F.len, fun A outer s H args us vs Q E hr => F.run A outer s H args us vs Q E (hr.mono h)⟩
section
variable {X : Cx} {pins : List (Addr × Obj)} {σ : St} {H : Hp} {s s' : Shared}
theorem Inv.env0 (I : Inv X pins σ H s) : Env0 X.prog X.w X.K X.mg X.base X.A X.stack s H :=
  ⟨I.ok.frames, I.ok.mod, I.bs, Nat.le_trans I.ok.bsz I.sz, I.stack, I.stkFree, I.hok, I.bare⟩
theorem Inv.after {Q : VK} {u : Value} (I : Inv X pins σ H s) (h : CE X.stack X.prog X.w H s Q u s') : EP X pins σ Q u s' := by
  obtain ⟨v, H', os, bare, un, hok, r, q⟩ := h
  obtain ⟨hh, g, d, t, os'⟩ := s'
  obtain rfl : os' = s.os := os
  exact ⟨v, H', I.call (h' := hh) (g' := g) (d' := d) (t' := t) (ch := []) un hok bare (fun b z => absurd z (by simp)), r, q⟩
end
def tCall (sp : Sp) (dvs : List V) (E : XK) (t : TA) : TE := fun σ H Q => t σ H fun vs H1 => sp (vs ++ dvs) H1 Q E
def Binds (K : PySem.W.Frag) (fd : FuncData) (ps : List Str) (ds : List Value) : Prop :=
  ∀ (s : Shared) (us : List Value), K.In s.heap → (us ++ ds).length = ps.length → BindsTo s fd ⟨us, []⟩ (ps.zip (us ++ ds))
theorem Binds.all {K : PySem.W.Frag} {fd : FuncData} {ps : List Str} (h : ∀ us : List Value, us.length = ps.length → bindArgs fd ⟨us, []⟩ = pure (ps.zip us)) : Binds K fd ps [] := fun s us _ hl => by
  rw [List.append_nil] at hl ⊢
  exact .of_eq (h us hl)
def Passes (CX : CXT) (X : Cx) (E : XK) : Prop := ∀ (pins : List (Addr × Obj)) (σ : St) (H : Hp) (s : Shared) (e : Value) (s' : Shared), Inv X pins σ H s → CX X.stack H s E e s' → X.xe e s'
section
variable {X : Cx} {CX : CXT} {k : Nat} {f C : Addr} {fd : FuncData} {ps : List Str} {sp : Sp} {dvs : List V} {ds : List Value} {E : XK} {x m : Str} {p pos apos : Pos} {e o : Expr} {es : List Expr} {ta : TE} {t : TA}
theorem run_fn {pins : List (Addr × Obj)} {σ : St} {H : Hp} {s : Shared} {Q : VK} {us : List Value} {vs : List V} (F : FnOk X.prog X.w X.K X.mg X.base CX k f fd ps sp) (hr : Room k X.A) (hb : Binds X.K fd ps ds) (hd : Vals dvs ds) (hx : Passes CX X E)
    (I : Inv X pins σ H s) (r : Vals vs us) (h : sp (vs ++ dvs) H Q E) : wpAny (model X.prog X.w) X.A (call (.ref f) us) (EP X pins σ Q) X.xe s := by
  have r2 : Vals (vs ++ dvs) (us ++ ds) := r.append hd
  have hl : (us ++ ds).length = ps.length := by rw [← r2.length]; exact F.len _ _ _ _ h
  refine wpAny_call (codeAny_mono (F.run X.A X.stack s H ⟨us, []⟩ (us ++ ds) (vs ++ dvs) Q E hr I.env0 (hb s us I.kIn hl) r2 h) fun r s' hq => ?_)
  cases r with
  | error e => exact hx pins σ H s e s' I hq
  | ok fl =>
    cases fl with
    | ret u => exact I.after hq
    | next => exact False.elim hq
    | brk => exact False.elim hq
    | cont => exact False.elim hq
theorem pe_call (F : FnOk X.prog X.w X.K X.mg X.base CX k f fd ps sp) (hr : Room k X.A) (hg : Gl X x) (hm : X.mg x = some (.ref f)) (hk : PySem.W.keepIn X.K (.ref f) = true) (hb : Binds X.K fd ps ds) (hd : Vals dvs ds) (hx : Passes CX X E)
    (ha : PA X (e :: es) t) (hdb : (x == ("__debug__" : Str)) = false := by decide) (he : starEach (e :: es) X.env = (false, eval e X.env) :: starEach es X.env := by rfl) (hpl : (backTo pos (starEach es X.env)).any (·.1) = false := by rfl) :
    PE X (.Call (.Name x p) (e :: es) [] pos) (tCall sp dvs E t) := by
  intro pins s σ H Q I h
  refine wpAny_Call_Name_kw (ld_glob I hg hm ?_ hdb)
  refine PySem.W.callWith_K (h₀ := X.base) I.ok.mod.kin hk (thn (ha pos pins s σ H _ I h) fun us s1 ⟨vs, H1, I1, r, q⟩ => ⟨I1.kIn, ?_⟩) he hpl
  exact run_fn F hr hb hd hx I1 r q
end
section
variable {X : Cx} {CX : CXT} {k : Nat} {f C : Addr} {fd : FuncData} {ps ks : List Str} {sp : Sp} {E : XK} {x m : Str} {p pos apos kpos : Pos} {e o : Expr} {es : List Expr} {kws : List Keyword} {te ta : TE} {t tk : TA} {nm : Option Str}
variable {g : List Value → List Value → List Value} {gV : List V → List V → List V}
end
structure FnScope (N P : List Str) (sc : Scope) : Prop where
  kind : sc.kind = .function
  co : sc.isCoroutine = false
  gen : sc.isGenerator = false
  nd : N.Nodup
  pre : N.take P.length = P
  par : ∀ x ∈ P, sc.names.lookup x = some .local ∨ sc.names.lookup x = some .cell
  nofree : ∀ y ∈ sc.names, y.2 ≠ .free
theorem bindL_out {kindOf : Str → Option NameKind} {x : Str} : ∀ {binds : List (Str × Value)} {m : Str → Option Value}, (∀ v, (x, v) ∉ binds) → bindL kindOf binds m x = m x
  | [], _, _ => rfl
  | (n, v) :: r, m, h => by
    unfold bindL
    rw [bindL_out fun w hw => h w (List.mem_cons_of_mem _ hw)]
    split
    · have : x ≠ n := by rintro rfl; exact h v List.mem_cons_self
      simp [this]
    · rfl
theorem bindC_out {kindOf : Str → Option NameKind} {x : Str} : ∀ {binds : List (Str × Value)} {m : Str → Option Value}, (∀ v, (x, v) ∉ binds) → bindC kindOf binds m x = m x
  | [], _, _ => rfl
  | (n, v) :: r, m, h => by
    unfold bindC
    rw [bindC_out fun w hw => h w (List.mem_cons_of_mem _ hw)]
    split
    · rfl
    · have : x ≠ n := by rintro rfl; exact h v List.mem_cons_self
      simp [this]
theorem bindL_get {kindOf : Str → Option NameKind} {x : Str} {v : Value} : ∀ {P : List Str} {vs : List Value} {i : Nat} {m : Str → Option Value}, P.Nodup → P[i]? = some x → vs[i]? = some v → kindOf x = some .local →
    bindL kindOf (P.zip vs) m x = some v
  | [], _, _, _, _, h, _, _ => by simp at h
  | _ :: _, [], _, _, _, _, h, _ => by simp at h
  | p :: P, w :: vs, 0, m, nd, h1, h2, hk => by
    simp at h1 h2; subst h1; subst h2
    show bindL kindOf ((p, w) :: P.zip vs) m p = _
    unfold bindL
    rw [bindL_out fun v hv => (List.nodup_cons.mp nd).1 (List.of_mem_zip hv).1, if_pos hk]
    simp
  | p :: P, w :: vs, i + 1, m, nd, h1, h2, hk => by
    show bindL kindOf ((p, w) :: P.zip vs) m x = _
    unfold bindL
    exact bindL_get (i := i) (List.nodup_cons.mp nd).2 (by simpa using h1) (by simpa using h2) hk
theorem bindC_get {kindOf : Str → Option NameKind} {x : Str} {v : Value} : ∀ {P : List Str} {vs : List Value} {i : Nat} {m : Str → Option Value}, P.Nodup → P[i]? = some x → vs[i]? = some v → kindOf x ≠ some .local →
    bindC kindOf (P.zip vs) m x = some v
  | [], _, _, _, _, h, _, _ => by simp at h
  | _ :: _, [], _, _, _, _, h, _ => by simp at h
  | p :: P, w :: vs, 0, m, nd, h1, h2, hk => by
    simp at h1 h2; subst h1; subst h2
    show bindC kindOf ((p, w) :: P.zip vs) m p = _
    unfold bindC
    rw [bindC_out fun v hv => (List.nodup_cons.mp nd).1 (List.of_mem_zip hv).1, if_neg hk]
    simp
  | p :: P, w :: vs, i + 1, m, nd, h1, h2, hk => by
    show bindC kindOf ((p, w) :: P.zip vs) m x = _
    unfold bindC
    exact bindC_get (i := i) (List.nodup_cons.mp nd).2 (by simpa using h1) (by simpa using h2) hk
def start (N : List Str) (vs : List V) : St := vs.map some ++ List.replicate (N.length - vs.length) none
def cxOf (CX : CXT) (P : Program) (w : World) (K : PySem.W.Frag) (mg : Str → Option Value) (base : Heap) (N : List Str) (qual : Str) (scope : Scope) (f : Addr) (cd : Value) (A : Around) (outer : List Env) (s : Shared) (H : Hp) (E : XK) : Cx where
  prog := P
  w := w
  K := K
  mg := mg
  base := base
  A := A.deeper (envOfC qual scope s.heap.objs.size f cd)
  N := N
  s₀ := s
  H₀ := H
  env := envOfC qual scope s.heap.objs.size f cd
  outer := outer
  stack := envOfC qual scope s.heap.objs.size f cd :: outer
  ex := []
  calm := true
  fn := fun _ => true
  pn := []
  xe := fun e s' => wpAny (model P w) (A.deeper (envOfC qual scope s.heap.objs.size f cd)) (leaving (envOfC qual scope s.heap.objs.size f cd) e) (fun _ s'' => CX outer H s E e s'') (fun e' s'' => CX outer H s E e' s'') s'
theorem cell_has {sc : Scope} {n : Nat} {x : Str} (h : sc.names.lookup x = some .cell) : ∃ c, (cellsFrom n sc.names []).lookup x = some c := by
  have q := PySem.W.cellsFrom_some sc.names n [] (.inl h)
  exact Option.isSome_iff_exists.mp q
theorem inv_start {CX : CXT} {P : Program} {w : World} {K : PySem.W.Frag} {mg : Str → Option Value} {base : Heap} {N ps : List Str} {qual : Str} {scope : Scope} {f : Addr} {cd : Value} {A : Around} {outer : List Env} {s s1 : Shared} {H : Hp} {E : XK} {us : List Value} {vs : List V}
    (S : FnScope N ps scope) (hd : A.handled = none) (e0 : Env0 P w K mg base A outer s H) (hl : vs.length = ps.length) (r : Vals vs us)
    (x : InCallC s s.heap.objs.size (bindL (envOfC qual scope s.heap.objs.size f cd).kindOf (ps.zip us) fun _ => none) (cellsFrom (s.heap.objs.size + 1) scope.names []) (bindC (envOfC qual scope s.heap.objs.size f cd).kindOf (ps.zip us) fun _ => none) s1) :
    Inv (cxOf CX P w K mg base N qual scope f cd A outer s H E) [] (start N vs) H s1 := by
  have hpl : ps.length ≤ N.length := by have := congrArg List.length S.pre; rw [List.length_take] at this; omega
  obtain ⟨h1, tk, rfl, hk⟩ := x.done
  have noA : ∀ b : Addr, b ∉ (cxOf CX P w K mg base N qual scope f cd A outer s H E).ex := fun b z => absurd (show b ∈ ([] : List Addr) from z) (by simp)
  refine ⟨⟨e0.mod, S.kind, rfl, rfl, Nat.le_refl _, fun y z c h1 h2 => ?_, fun y hy => ?_, fun y c _ h => ?_, fun _ => hd, Around.frames_deeper e0.frames, .inr ⟨rfl, rfl⟩, fun b z => absurd z (noA b), e0.bs, e0.bsz, fun b _ _ => noA b, fun b z => absurd z (noA b), e0.funs, e0.frf⟩,
    rfl, e0.bare, Un.kept hk, ⟨_, x.toInCall.ns, fun i y v h1 h2 h3 => ?_⟩, fun y c h => ⟨_, x.cell y c h⟩, e0.hok.fresh (Nat.le_refl _), fun y c h => ?_, fun p hp => absurd (show p ∈ ([] : List (Addr × Obj)) from hp) (by simp), e0.hok.kept hk, ?_⟩
  · exact name_of_addr x.apart (PySem.mem_of_lookup h1) (PySem.mem_of_lookup h2)
  · have hy : scope.names.lookup y = some .cell ∨ scope.names.lookup y = some .free := hy
    rcases hy with hy | hy
    · exact cell_has hy
    · exact absurd rfl (S.nofree _ (PySem.mem_of_lookup hy))
  · exact Nat.le_of_lt (x.above y c (PySem.mem_of_lookup h))
  · have hi : i < vs.length := by
      unfold start at h2
      by_cases hi : i < vs.length
      · exact hi
      · rw [List.getElem?_append_right (by simpa using hi)] at h2
        rw [List.getElem?_replicate] at h2
        split at h2 <;> cases h2
    have ha : vs[i]? = some v := by
      unfold start at h2
      rw [List.getElem?_append_left (by simpa using hi), List.getElem?_map] at h2
      cases e : vs[i]? with
      | none => rw [e] at h2; cases h2
      | some a => rw [e] at h2; cases h2; rfl
    obtain ⟨u, hu, rv⟩ := r.get ha
    have hp : ps[i]? = some y := by
      rw [← S.pre, List.getElem?_take_of_lt (by omega)]; exact h1
    have ndP : ps.Nodup := by rw [← S.pre]; exact S.nd.sublist (List.take_sublist _ _)
    refine ⟨u, rv, ?_⟩
    rcases S.par y (List.mem_of_getElem? hp) with k | k
    · exact .inl ⟨k, bindL_get ndP hp hu k⟩
    · obtain ⟨c, e⟩ := cell_has (n := s.heap.objs.size + 1) k
      refine .inr ⟨.inl k, c, e, ?_⟩
      have q := x.cell y c e
      rw [bindC_get ndP hp hu (by show scope.names.lookup y ≠ _; rw [k]; decide)] at q
      exact q
  · exact e0.hok.fresh (Nat.le_of_lt (x.above y c (PySem.mem_of_lookup h)))
  · unfold start
    show _ = N.length
    rw [List.length_append, List.length_map, List.length_replicate]
    omega
theorem fn_of {CX : CXT} {P : Program} {w : World} {K : PySem.W.Frag} {mg : Str → Option Value} {base : Heap} {k : Nat} {f : Addr} {name qual : Str} {params : Arguments} {body : List Stmt} {scope : Scope} {dV kV doc pm cdv ct oc : Value} {an od : Option Addr}
    {osl : Array (Option Value)} {N ps : List Str} {sp : Sp} (lk : K.lookup f = some ⟨oc, od, .func (PySem.W.fnOf name qual params body scope dV kV doc pm an cdv ct), osl⟩) (hcd : PySem.W.codeIn K cdv qual = true) (S : FnScope N ps scope)
    (len : ∀ vs H Q E, sp vs H Q E → vs.length = ps.length)
    (hbody : ∀ (A : Around) (outer : List Env) (s : Shared) (H : Hp) (vs : List V) (Q : VK) (E : XK), Room k (A.deeper (envOfC qual scope s.heap.objs.size f cdv)) → sp vs H Q E →
      ∃ t, PSs (cxOf CX P w K mg base N qual scope f cdv A outer s H E) body t ∧ t { nx := fun _ H' => Q .non H', rt := Q } (start N vs) H) :
    FnOk P w K mg base CX (k + 1) f (PySem.W.fnOf name qual params body scope dV kV doc pm an cdv ct) ps sp := by
  refine ⟨len, fun A outer s H args us vs Q E hr e0 hb r hsp => ?_⟩
  have hl := len _ _ _ _ hsp
  have KX : K.In s.heap := e0.mod.kin.keeps fun b o e => (e0.bs b o e).1
  have lim : s.heap.NoLimit := e0.mod.nolimit.keeps fun b o e => (e0.bs b o e).1
  have hkind : ∀ y ∈ ps.zip us, scope.names.lookup y.1 = some .local ∨ (scope.names.lookup y.1 = some .cell ∧ ((cellsFrom (s.heap.objs.size + 1) scope.names []).lookup y.1).isSome = true) := fun ⟨n, v⟩ hy => by
    rcases S.par n (List.of_mem_zip hy).1 with q | q
    · exact .inl q
    · exact .inr ⟨q, PySem.W.cellsFrom_some _ _ _ (.inl q)⟩
  refine codeAny_call_function hr.depth (KX _ _ lk) rfl S.co S.gen rfl (PySem.W.codeRec_of KX hcd) (hb _ _ _ _ ?_)
  refine wpAny_newFunctionEnv_cells S.kind hkind fun env he s1 x => ?_
  subst he
  refine ⟨lim.keeps x.toInCall.keep, codeAny_func ?_⟩
  obtain ⟨t, ht, hq⟩ := hbody A outer s H vs Q E (hr.deeper _) hsp
  have I : Inv (cxOf CX P w K mg base N qual scope f cdv A outer s H E) [] (start N vs) H s1 := inv_start S hr.hd e0 hl r x
  refine wpAny_mono (ht [] s1 (start N vs) H _ I hq) (fun fl s' hs => ?_) fun e s' hs => hs
  have fin : ∀ {σ' : St} {H' : Hp} {v : V} {u : Value}, Inv (cxOf CX P w K mg base N qual scope f cdv A outer s H E) [] σ' H' s' → RelV v u → Q v H' → CE outer P w H s Q u s' :=
    fun {σ' H' v u} J rv q => ⟨v, H', J.os, J.bare, J.base, J.hok, rv, q⟩
  cases fl with
  | ret u =>
    obtain ⟨v, σ', H', J, rv, q⟩ := hs
    exact fin J rv q
  | next =>
    obtain ⟨σ', H', J, q⟩ := hs
    exact fin (v := V.non) (u := Value.none) J rfl q
  | brk =>
    obtain ⟨_, _, _, q⟩ := hs
    exact False.elim q
  | cont =>
    obtain ⟨_, _, _, q⟩ := hs
    exact False.elim q
end L2
namespace L2
open PySem PySem.Spec PyProof.Rows
section
variable {X : Cx} {x : Str} {p pos : Pos} {e : Expr} {es : List Expr} {t : TA} {id T : String} {r : List V → Hp → VK → Prop}
def tCB (r : List V → Hp → VK → Prop) (t : TA) : TE := fun σ H Q => t σ H fun vs H1 => r vs H1 Q
theorem pe_callB (hc : CallR X (.builtin id) r) (hg : Gl X x) (hm : X.mg x = none) (hv : bootBuiltins x = some (.builtin id)) (ha : PA X (e :: es) t) (hn : x ≠ "__name__" := by decide) (hdb : (x == ("__debug__" : Str)) = false := by decide)
    (he : starEach (e :: es) X.env = (false, eval e X.env) :: starEach es X.env := by rfl) (hpl : (backTo pos (starEach es X.env)).any (·.1) = false := by rfl) : PE X (.Call (.Name x p) (e :: es) [] pos) (tCB r t) := by
  intro pins s σ H Q I h
  refine wpAny_Call_Name_kw (ld_blt I hg hm hv ?_ hn hdb)
  exact PyProof.Rows.callWith_builtin1 (thn (ha pos pins s σ H _ I h) fun us s1 ⟨vs, H1, I1, r1, q1⟩ => hc pins s1 σ H1 vs us Q I1 r1 q1) he hpl
theorem pe_callTy (hc : CallR X (.type T) r) (hg : Gl X x) (hm : X.mg x = none) (hv : bootBuiltins x = some (.type T)) (ha : PA X (e :: es) t) (hn : x ≠ "__name__" := by decide) (hdb : (x == ("__debug__" : Str)) = false := by decide)
    (he : starEach (e :: es) X.env = (false, eval e X.env) :: starEach es X.env := by rfl) (hpl : (backTo pos (starEach es X.env)).any (·.1) = false := by rfl) : PE X (.Call (.Name x p) (e :: es) [] pos) (tCB r t) := by
  intro pins s σ H Q I h
  refine wpAny_Call_Name_kw (ld_blt I hg hm hv ?_ hn hdb)
  exact PyProof.Rows.callWith_type1 (thn (ha pos pins s σ H _ I h) fun us s1 ⟨vs, H1, I1, r1, q1⟩ => hc pins s1 σ H1 vs us Q I1 r1 q1) he hpl
end
end L2
namespace HT
open PySem PyProof.Rows
section
open PySem.SeqAt
open PySem.AutoSeq1 (wpAny_loadPart')
open PySem.MeetsSeq PySem.MeetsSeq2 PySem.MeetsSeq3
end
section
variable {prog : Program} {w : World} {A : Around} {E : Value → Shared → Prop} {s : Shared}
theorem cat_tup {t b : Addr} {vs ws : List Value} {Q : Value → Shared → Prop} (ht : IsTup s.heap t vs.toArray) (hb : IsTup s.heap b ws.toArray) (hv : vs ≠ [])
    (h1 : ws = [] → Q (.ref t) s) (h2 : ws ≠ [] → Q (.ref s.heap.objs.size) { s with heap := s.heap.push { cls := .type "tuple", data := .seq (vs ++ ws).toArray } })
    (hsz : vs.length + ws.length ≤ sizeLine) : wpAny (model prog w) A (binaryOp .Add (.ref t) (.ref b)) Q E s := by
  obtain ⟨⟨cls, dd, data, sl⟩, ho, hc, n, hd⟩ := id ht
  obtain ⟨⟨cls2, dd2, data2, sl2⟩, ho2, hc2, n2, hd2⟩ := id hb
  simp only at hc hd hc2 hd2
  subst hc hd hc2 hd2
  have e : vs.toArray ++ ws.toArray = (vs ++ ws).toArray := by simp
  by_cases hw : ws = []
  · exact concat_meets ⟨_, ho, rfl⟩ ⟨_, ho2, rfl⟩ noFill_tuple_add seq_tuple_add PySem.F.slot_tuple_add PySem.F.entry_tuple_add (PySem.F.args_tuple_add_2 _ _)
      (tuple_addW1 t b vs.toArray ws.toArray n n2 dd dd2 sl sl2 (by simpa using hv) (by simp [hw])) ⟨ho, ho2, h1 hw⟩
  · refine concat_meets ⟨_, ho, rfl⟩ ⟨_, ho2, rfl⟩ noFill_tuple_add seq_tuple_add PySem.F.slot_tuple_add PySem.F.entry_tuple_add (PySem.F.args_tuple_add_2 _ _)
      (tuple_addW2 t b vs.toArray ws.toArray n n2 dd dd2 sl sl2 (by simpa using hv) (by simpa using hw) (by rw [List.size_toArray, List.size_toArray]; exact hsz)) ⟨ho, ho2, ?_⟩
    rw [e]
    exact h2 hw
def sIx (n d : Nat) : Option Int → Nat
  | none => d
  | some v => if v < 0 then (v + (n : Int)).toNat else min v.toNat n
theorem sIx_le (n d : Nat) (hd : d ≤ n) (o : Option Int) : sIx n d o ≤ n := by
  cases o with
  | none => exact hd
  | some v =>
    show (if v < 0 then (v + (n : Int)).toNat else min v.toNat n) ≤ n
    by_cases hv : v < 0
    · rw [if_pos hv]; omega
    · rw [if_neg hv]; exact Nat.min_le_right _ _
theorem clip_eq (v : Int) (n d : Nat) : (if v < 0 then max (v + (n : Int)) 0 else min v (n : Int)) = ((sIx n d (some v) : Nat) : Int) := by
  show (if v < 0 then max (v + (n : Int)) 0 else min v (n : Int)) = (((if v < 0 then (v + (n : Int)).toNat else min v.toNat n) : Nat) : Int)
  by_cases hv : v < 0
  · simp only [if_pos hv]; omega
  · simp only [if_neg hv]; omega
theorem adjust_gen (lo hi : Option Int) (n : Nat) : Builtin.Slice.sliceAdjust lo hi 1 (n : Int) = (((sIx n 0 lo : Nat) : Int), ((sIx n n hi : Nat) : Int)) := by
  have h1 : ¬ ((1 : Int) < 0) := by omega
  unfold Builtin.Slice.sliceAdjust
  simp only [h1, if_false]
  refine Prod.ext ?_ ?_
  · cases lo with
    | none => rfl
    | some v => exact clip_eq v n 0
  · cases hi with
    | none => rfl
    | some v => exact clip_eq v n n
theorem places_gen (i j : Nat) : Builtin.Slice.slicePlaces (i : Int) (j : Int) 1 = j - i := by
  unfold Builtin.Slice.slicePlaces
  have h1 : (1 : Int) > 0 := by omega
  simp only [h1, if_true, Int.ediv_one]
  split <;> omega
theorem slicePart_ {v : Value} {o : Option Int} {Q : Option Int → Shared → Prop} (p : IsPart v o) (h : Q o s) : wpAny (model prog w) A (Builtin.Slice.slicePartIndex v) Q E s := by
  cases p with
  | none => exact slicePart_none h
  | int i t => exact slicePart_int h
theorem sliceApplied_gen {sl : Addr} {vl vu : Value} {lo hi : Option Int} {n : Nat} {Q : Int × Int × Nat → Shared → Prop} (hs : s.heap.IsSliceOf sl vl vu .none) (pl : IsPart vl lo) (pu : IsPart vu hi)
    (h : Q (((sIx n 0 lo : Nat) : Int), 1, sIx n n hi - sIx n 0 lo) s) : wpAny (model prog w) A (Builtin.Slice.sliceApplied (.ref sl) (pure (n : Int))) Q E s := by
  obtain ⟨os, hos, hcs, hds⟩ := id hs
  unfold Builtin.Slice.sliceApplied Builtin.Slice.sliceFields
  refine wpAny_bind (wpAny_bind (wpAny_field hos hds (x := vl) rfl (wpAny_bind (wpAny_field hos hds (x := vu) rfl (wpAny_bind (wpAny_field hos hds (x := .none) rfl (wpAny_pure ?_)))))))
  refine wpAny_bind (slicePart_none ?_)
  show wpAny _ _ (if ((1 : Int) == 0) = true then _ else _) _ _ s
  rw [if_neg (by decide)]
  refine wpAny_bind (slicePart_ pl (wpAny_bind (slicePart_ pu (wpAny_bind (wpAny_pure ?_)))))
  show wpAny _ _ (match Builtin.Slice.sliceAdjust lo hi 1 (n : Int) with | (lo, hi) => pure (lo, (1 : Int), Builtin.Slice.slicePlaces lo hi 1)) _ _ s
  rw [adjust_gen lo hi n]
  show wpAny _ _ (pure (((sIx n 0 lo : Nat) : Int), (1 : Int), Builtin.Slice.slicePlaces ((sIx n 0 lo : Nat) : Int) ((sIx n n hi : Nat) : Int) 1)) _ _ s
  rw [places_gen]
  exact wpAny_pure h
theorem pick_gen (xs : Array Value) (i k : Nat) : ((List.range k).filterMap fun (m : Nat) => xs[((i : Int) + (m : Int) * 1).toNat]?).toArray = ((xs.toList.drop i).take k).toArray := by
  have e : (fun (m : Nat) => xs[((i : Int) + (m : Int) * 1).toNat]?) = fun m => xs[i + m]? := by
    funext m
    have : ((i : Int) + (m : Int) * 1).toNat = i + m := by omega
    rw [this]
  rw [e]
  have := pick_run xs i k
  rw [List.filterMap_map] at this
  have e2 : ((fun x => xs[x]?) ∘ fun x => i + x) = fun m => xs[i + m]? := rfl
  rw [e2] at this
  rw [this]
theorem getItem_tuple_cut {t sl : Addr} {items : Array Value} {vl vu : Value} {lo hi : Option Int} {Q : Value → Shared → Prop} (ht : IsTup s.heap t items) (hs : s.heap.IsSliceOf sl vl vu .none) (pl : IsPart vl lo) (pu : IsPart vu hi)
    (hw : ¬ (sIx items.size 0 lo = 0 ∧ sIx items.size items.size hi = items.size))
    (h : Q (.ref s.heap.objs.size) { s with heap := s.heap.push { cls := .type "tuple", data := .seq ((items.toList.drop (sIx items.size 0 lo)).take (sIx items.size items.size hi - sIx items.size 0 lo)).toArray } })
    (hsz : items.size ≤ sizeLine) : wpAny (model prog w) A (getItem (.ref t) (.ref sl)) Q E s := by
  have htake : sizeOk (.seq ((items.toList.drop (sIx items.size 0 lo)).take (sIx items.size items.size hi - sIx items.size 0 lo)).toArray) := by
    show ((items.toList.drop (sIx items.size 0 lo)).take (sIx items.size items.size hi - sIx items.size 0 lo)).toArray.size ≤ sizeLine
    rw [List.size_toArray, List.length_take, List.length_drop, Array.length_toList]
    omega
  have hj : sIx items.size items.size hi ≤ items.size := sIx_le _ _ (Nat.le_refl _) hi
  obtain ⟨os, hos, hcs, hds⟩ := id hs
  have hTs : s.TypeIs (.ref sl) "slice" := ⟨os, hos, hcs⟩
  unfold getItem
  try with_reducible refine wpAny_holding ?_
  first | refine wpAny_bind (wpAny_pure ?_) | skip
  refine wpAny_bind (wpAny_sequenceKey ht.typeIs (by decide) ?_)
  refine wpAny_bind (wpAny_callSpecial?_slot (name := Str.ofString "__getitem__") ht.typeIs PyProof.Rows.slot_tuple_getitem
    (wpAny_call_entry PyProof.Rows.slot_tuple_getitem ht.typeIs entry_tuple_getitem ?_ (args_tuple_getitem _ _)))
  show wpAny _ _ (Builtin.Tuple.tupleItemsOf (.ref t) >>= _) _ _ s
  refine wpAny_bind (tupleItemsOf_ ht ?_)
  refine wpAny_bind (wpAny_typeOf hTs ?_)
  rw [if_pos (by decide)]
  refine wpAny_bind (sliceApplied_gen hs pl pu ?_)
  have hno : ¬ ((((sIx items.size 0 lo : Nat) : Int) == 0 && (1 : Int) == 1 && (sIx items.size items.size hi - sIx items.size 0 lo) == items.size) = true) := by
    intro q
    rw [Bool.and_eq_true, Bool.and_eq_true] at q
    have q1 : ((sIx items.size 0 lo : Nat) : Int) = 0 := eq_of_beq q.1.1
    have q2 : sIx items.size items.size hi - sIx items.size 0 lo = items.size := eq_of_beq q.2
    exact hw ⟨by omega, by omega⟩
  show wpAny _ _ (if (((sIx items.size 0 lo : Nat) : Int) == 0 && (1 : Int) == 1 && (sIx items.size items.size hi - sIx items.size 0 lo) == items.size) = true then _ else _) _ _ s
  rw [if_neg hno, pick_gen]
  first
    | exact wpAny_bind (m := Builtin.Tuple.tupleExact _) (wpAny_newObj_type (wpAny_pure ⟨_, rfl, wpAny_pure h⟩) htake)
    | exact wpAny_bind (m := Builtin.Tuple.tupleExact _) (wpAny_newObj_type (wpAny_bind (wpAny_pure (wpAny_pure ⟨_, rfl, wpAny_pure h⟩))) htake)
    | exact wpAny_bind (wpAny_bind (m := Builtin.Tuple.tupleExact _) (wpAny_newObj_type (wpAny_pure (wpAny_pure ⟨_, rfl, wpAny_pure h⟩)) htake))
    | exact wpAny_bind (wpAny_bind (m := Builtin.Tuple.tupleExact _) (wpAny_newObj_type (wpAny_pure ⟨_, rfl, wpAny_pure h⟩) htake))
end
end HT
namespace L2
open PySem PySem.Spec PyProof.Rows
abbrev TO := St → Hp → (Option Int → Hp → Prop) → Prop
def PO (X : Cx) (e : Option Expr) (t : TO) : Prop :=
  ∀ (pins : List (Addr × Obj)) (s : Shared) (σ : St) (H : Hp) (Q : Option Int → Hp → Prop), Inv X pins σ H s → t σ H Q →
    wpAny (model X.prog X.w) X.A (evalPart e X.env) (fun u s' => ∃ o H', Inv X pins σ H' s' ∧ IsPart u o ∧ Q o H') X.xe s
def tPart (t : TE) : TO := fun σ H Q => t σ H fun x H1 => ∃ i, x = .int i ∧ Q (some i) H1
section
variable {X : Cx} {e : Expr} {te : TE} {lo hi : Option Expr} {tl th : TO} {pos p2 : Pos}
theorem po_some (h : PE X e te) : PO X (some e) (tPart te) := by
  intro pins s σ H Q I hw
  rw [evalPart_some]
  refine thn (h pins s σ H _ I hw) fun u s1 ⟨x, H1, I1, r1, q1⟩ => ?_
  obtain ⟨i, rfl, q⟩ := q1
  obtain ⟨t, rfl⟩ := r1
  exact ⟨some i, H1, I1, .int i t, q⟩
def SlR (X : Cx) (r : V → Option Int → Option Int → Hp → VK → Prop) : Prop :=
  ∀ (pins : List (Addr × Obj)) (s : Shared) (σ : St) (H : Hp) (x : V) (v vl vu : Value) (lo hi : Option Int) (sl : Addr) (Q : VK), Inv X pins σ H s → RelV x v → s.heap.IsSliceOf sl vl vu .none → IsPart vl lo → IsPart vu hi → r x lo hi H Q →
    ∃ T id, typeLookup (.type T) "__getitem__" = pure (some (.builtin id)) ∧ s.TypeIs v T ∧ wpAny (model X.prog X.w) X.A (getItem v (.ref sl)) (EP X pins σ Q) X.xe s
theorem SlR.or {r r' : V → Option Int → Option Int → Hp → VK → Prop} (h : SlR X r) (h' : SlR X r') : SlR X (fun x lo hi H Q => r x lo hi H Q ∨ r' x lo hi H Q) := by
  intro pins s σ H x v vl vu lo hi sl Q I rx hs pl pu q
  rcases q with q | q
  · exact h pins s σ H x v vl vu lo hi sl Q I rx hs pl pu q
  · exact h' pins s σ H x v vl vu lo hi sl Q I rx hs pl pu q
def tSl (r : V → Option Int → Option Int → Hp → VK → Prop) (te : TE) (tl th : TO) : TE := fun σ H Q => te σ H fun x H1 => tl σ H1 fun l H2 => th σ H2 fun u H3 => r x l u H3 Q
theorem pe_slice {r : V → Option Int → Option Int → Hp → VK → Prop} (hr : SlR X r) (he : PE X e te) (hl : PO X lo tl) (hu : PO X hi th) : PE X (.Subscript e (.Slice lo hi none p2) pos) (tSl r te tl th) := by
  intro pins s σ H Q I h
  refine Subscript_ (thn (he pins s σ H _ I h) fun v s1 ⟨x, H1, I1, r1, q1⟩ => ?_)
  refine wpAny_Slice (thn (hl pins s1 σ H1 _ I1 q1) fun vl s2 ⟨l, H2, I2, pl, q2⟩ => thn (hu pins s2 σ H2 _ I2 q2) fun vu s3 ⟨u, H3, I3, pu, q3⟩ => ?_)
  rw [evalPart_none]
  refine wpAny_pure ?_
  have I4 : Inv X pins σ H3 { s3 with heap := s3.heap.push { cls := .type "slice", data := .fields #[vl, vu, .none] } } := I3.kept (t' := s3.toks) fun b ob q => Heap.get?_push_of_some _ q
  obtain ⟨T, id, hT, ht, hg⟩ := hr pins { s3 with heap := s3.heap.push { cls := .type "slice", data := .fields #[vl, vu, .none] } } σ H3 x v vl vu l u s3.heap.objs.size Q I4 r1 (Heap.IsSliceOf.new ..) pl pu q3
  show wpAny (model X.prog X.w) X.A (subscriptTail e (.Slice lo hi none p2) v (.ref s3.heap.objs.size)) (EP X pins σ Q) X.xe { s3 with heap := s3.heap.push { cls := .type "slice", data := .fields #[vl, vu, .none] } }
  exact tail_any (ops := [.ref s3.heap.objs.size, v]) ht hT hg (by with_unfolding_all rfl)
def cutV (xs : List V) (lo hi : Option Int) : List V := (xs.drop (HT.sIx xs.length 0 lo)).take (HT.sIx xs.length xs.length hi - HT.sIx xs.length 0 lo)
theorem cutV_length (xs : List V) (lo hi : Option Int) : (cutV xs lo hi).length ≤ xs.length := by
  unfold cutV
  rw [List.length_take, List.length_drop]
  omega
def rSlT (K : PySem.W.Frag) : V → Option Int → Option Int → Hp → VK → Prop := fun x lo hi H Q => ∃ a xs, x = .ref a ∧ SqT K H a xs ∧
  ¬ (HT.sIx xs.length 0 lo = 0 ∧ HT.sIx xs.length xs.length hi = xs.length) ∧ ∀ p, H p = none → Q (.ref p) (upd H p (.tup (cutV xs lo hi)))
theorem sl_tup : SlR X (rSlT X.K) := by
  intro pins s σ H x v vl vu lo hi sl Q I rx hs pl pu h
  obtain ⟨a, xs, rfl, hx, hw, q⟩ := h
  cases rx
  obtain ⟨its, r, ht, hz⟩ := I.tuple hx
  have hlen : its.toArray.size = xs.length := by rw [List.size_toArray]; exact r.length.symm
  refine ⟨"tuple", _, PyProof.Rows.slot_tuple_getitem.lookup, ht.typeIs, ?_⟩
  refine HT.getItem_tuple_cut ht hs pl pu (by rw [hlen]; exact hw) ?_ (by rw [hlen]; exact hz)
  rw [hlen]
  refine ⟨.ref s.heap.objs.size, _, I.laid (t' := s.toks) (o := .tup (cutV xs lo hi)) (fun b ob q => Heap.get?_push_of_some _ q) (Nat.le_refl _) ?_, rfl, q _ (I.hok.fresh (Nat.le_refl _))⟩
  exact ⟨Nat.le_trans (cutV_length xs lo hi) hz, _, (r.drop (HT.sIx xs.length 0 lo)).take (HT.sIx xs.length xs.length hi - HT.sIx xs.length 0 lo), IsTup.new _ _⟩
def rCatT (K : PySem.W.Frag) : R2 := fun x y H Q => ∃ a b xs ys, x = .ref a ∧ y = .ref b ∧ SqT K H a xs ∧ SqT K H b ys ∧ xs ≠ [] ∧ xs.length + ys.length ≤ sizeLine ∧
  (ys = [] → Q (.ref a) H) ∧ (ys ≠ [] → ∀ p, H p = none → Q (.ref p) (upd H p (.tup (xs ++ ys))))
theorem Vals.nil_iff {xs : List V} {us : List Value} (r : Vals xs us) : us = [] ↔ xs = [] := by
  cases r with
  | nil => simp
  | cons _ _ => simp
theorem op_catT : OpR X (binaryOp .Add) (rCatT X.K) := by
  intro pins s σ H x y v u Q I rx ry h
  obtain ⟨a, b, xs, ys, rfl, rfl, ha, hb, hx, hz, q1, q2⟩ := h
  cases rx
  cases ry
  obtain ⟨its, r1, p1, _⟩ := I.tuple ha
  obtain ⟨its2, r2, p2, _⟩ := I.tuple hb
  refine HT.cat_tup p1 p2 (fun z => hx (r1.nil_iff.mp z)) (fun z => ⟨.ref a, H, I, rfl, q1 (r2.nil_iff.mp z)⟩) (fun z => ?_) (by rw [← r1.length, ← r2.length]; exact hz)
  refine ⟨.ref s.heap.objs.size, _, I.laid (t' := s.toks) (o := .tup (xs ++ ys)) (fun b ob q => Heap.get?_push_of_some _ q) (Nat.le_refl _) ?_, rfl, q2 (fun w => z (r2.nil_iff.mpr w)) _ (I.hok.fresh (Nat.le_refl _))⟩
  exact ⟨by rw [List.length_append]; exact hz, _, r1.append r2, IsTup.new _ _⟩
end
end L2
namespace L2
open PySem PySem.Spec PyProof.Rows
def ixN (n : Nat) (i : Int) : Option Nat := if 0 ≤ i then (if i < n then some i.toNat else none) else if -(n : Int) ≤ i then some (i + n).toNat else none
def atI {α : Type} (xs : List α) (i : Int) : Option α := (ixN xs.length i).bind fun j => xs[j]?
theorem ixN_seq {n : Nat} {i : Int} {j : Nat} (h : ixN n i = some j) : seqIndex? i n = some j ∧ j < n ∧ -(n : Int) ≤ i ∧ i < n := by
  unfold ixN at h
  by_cases h0 : 0 ≤ i
  · rw [if_pos h0] at h
    by_cases h1 : i < n
    · rw [if_pos h1] at h
      have e : i.toNat = j := Option.some.inj h
      exact ⟨by rw [seqIndex_of h0 h1, e], by omega, by omega, h1⟩
    · rw [if_neg h1] at h; cases h
  · rw [if_neg h0] at h
    by_cases h1 : -(n : Int) ≤ i
    · rw [if_pos h1] at h
      have e : (i + n).toNat = j := Option.some.inj h
      exact ⟨by rw [seqIndex_neg (by omega) h1, e], by omega, h1, by omega⟩
    · rw [if_neg h1] at h; cases h
theorem atI_get {α : Type} {xs : List α} {i : Int} {v : α} (h : atI xs i = some v) : ∃ j, seqIndex? i xs.length = some j ∧ xs[j]? = some v ∧ j < xs.length ∧ -(xs.length : Int) ≤ i ∧ i < xs.length := by
  unfold atI at h
  cases e : ixN xs.length i with
  | none => rw [e] at h; cases h
  | some j =>
    rw [e] at h
    obtain ⟨h1, h2, h3, h4⟩ := ixN_seq e
    exact ⟨j, h1, h, h2, h3, h4⟩
theorem atI_nat {α : Type} {xs : List α} {j : Nat} {v : α} (h : xs[j]? = some v) : atI xs (j : Int) = some v := by
  have hj : j < xs.length := (List.getElem?_eq_some_iff.mp h).1
  have e : ixN xs.length (j : Int) = some j := by
    unfold ixN
    rw [if_pos (by omega), if_pos (by omega)]; simp
  unfold atI; rw [e]; exact h
def PlainIx (b : Expr) : Prop := ∀ o i, subscripted b false o i = operate [o, i] (getItem o i)
def IxR (X : Cx) (r : R2) : Prop :=
  ∀ (value slice : Expr) (pins : List (Addr × Obj)) (s : Shared) (σ : St) (H : Hp) (x y : V) (v u : Value) (Q : VK), Inv X pins σ H s → RelV x v → RelV y u → r x y H Q →
    subscripted slice false v u = operate [v, u] (getItem v u) → wpAny (model X.prog X.w) X.A (subscriptTail value slice v u) (EP X pins σ Q) X.xe s
def MtR (X : Cx) (id : String) (r : V → List V → Hp → VK → Prop) : Prop :=
  ∀ (pins : List (Addr × Obj)) (s : Shared) (σ : St) (H : Hp) (x : V) (xs : List V) (v : Value) (us : List Value) (Q : VK), Inv X pins σ H s → RelV x v → Vals xs us → r x xs H Q →
    wpAny (model X.prog X.w) X.A (call (.builtin id) (v :: us)) (EP X pins σ Q) X.xe s
section
variable {X : Cx} {a b : Expr} {ta tb : TE} {pos : Pos}
theorem IxR.or {r r' : R2} (h : IxR X r) (h' : IxR X r') : IxR X (fun x y H Q => r x y H Q ∨ r' x y H Q) := by
  intro value slice pins s σ H x y v u Q I rx ry q hs
  rcases q with q | q
  · exact h value slice pins s σ H x y v u Q I rx ry q hs
  · exact h' value slice pins s σ H x y v u Q I rx ry q hs
theorem MtR.or {id : String} {r r' : V → List V → Hp → VK → Prop} (h : MtR X id r) (h' : MtR X id r') : MtR X id (fun x xs H Q => r x xs H Q ∨ r' x xs H Q) := by
  intro pins s σ H x xs v us Q I rx rs q
  rcases q with q | q
  · exact h pins s σ H x xs v us Q I rx rs q
  · exact h' pins s σ H x xs v us Q I rx rs q
theorem pe_ix {r : R2} (hr : IxR X r) (ha : PE X a ta) (hb : PE X b tb) (hs : PlainIx b) : PE X (.Subscript a b pos) (tOp r ta tb) := by
  intro pins s σ H Q I h
  exact Subscript_ (binT ha hb I h fun v u s2 x y H2 I2 rx ry q => hr a b pins s2 σ H2 x y v u Q I2 rx ry q (hs _ _))
def rIxL (K : PySem.W.Frag) : R2 := fun x y H Q => ∃ p xs i v, x = .ref p ∧ y = .int i ∧ SqL K H p xs ∧ atI xs i = some v ∧ Q v H
def rIxT (K : PySem.W.Frag) : R2 := fun x y H Q => ∃ p xs i v, x = .ref p ∧ y = .int i ∧ SqT K H p xs ∧ atI xs i = some v ∧ Q v H
def rIxS : R2 := fun x y H Q => ∃ z i c, x = .str z ∧ y = .int i ∧ z.length ≤ sizeLine ∧ atI z.cps.toList i = some c ∧ Q (.str ⟨#[c]⟩) H
theorem ix_list : IxR X (rIxL X.K) := by
  intro value slice pins s σ H x y v u Q I rx ry h hs
  obtain ⟨p, xs, i, z, rfl, rfl, hq, he, q⟩ := h
  cases rx
  obtain ⟨t, rfl⟩ := ry
  obtain ⟨its, r, pl, hz⟩ := I.list hq
  obtain ⟨j, h1, h2, h3, h4, h5⟩ := atI_get he
  obtain ⟨w, ew, rw'⟩ := r.get h2
  have hl := r.length
  have hn := line63
  have fin : EP X pins σ Q w s := ⟨z, H, I, rw', q⟩
  by_cases h0 : 0 ≤ i
  · have hj : i.toNat = j := by
      rw [seqIndex_of h0 h5] at h1
      exact Option.some.inj h1
    exact item_listR pl.isList h0 (by omega) (by rw [hj]; simpa using ew) fin hs
  · have hj : (i + (its.toArray.size : Int)).toNat = j := by
      rw [seqIndex_neg (by omega) h4] at h1
      rw [List.size_toArray, ← hl]
      exact Option.some.inj h1
    exact subscriptTail_builtinR (x := w) pl.isList.typeIs slot_list_getitem.lookup
      (wpAny_getItem_list_neg (Q := fun r s' => r = w ∧ EP X pins σ Q r s') pl.isList (by omega) (by rw [List.size_toArray] <;> omega) (by omega) (by rw [hj]; simpa using ew) ⟨rfl, fin⟩) hs
theorem ix_tup : IxR X (rIxT X.K) := by
  intro value slice pins s σ H x y v u Q I rx ry h hs
  obtain ⟨p, xs, i, z, rfl, rfl, hq, he, q⟩ := h
  cases rx
  obtain ⟨t, rfl⟩ := ry
  obtain ⟨its, r, pl, hz⟩ := I.tuple hq
  obtain ⟨j, h1, h2, h3, h4, h5⟩ := atI_get he
  obtain ⟨w, ew, rw'⟩ := r.get h2
  have hl := r.length
  have hn := line63
  have fin : EP X pins σ Q w s := ⟨z, H, I, rw', q⟩
  exact subscriptTail_builtinR (x := w) pl.typeIs slot_tuple_getitem.lookup
    (getItem_tuple (j := j) (Q := fun r s' => r = w ∧ EP X pins σ Q r s') pl (by omega) (by omega) (by rw [List.size_toArray, ← hl]; exact h1) (by simpa using ew) ⟨rfl, fin⟩) hs
theorem ix_str : IxR X rIxS := by
  intro value slice pins s σ H x y v u Q I rx ry h hs
  obtain ⟨z, i, c, rfl, rfl, hz, he, q⟩ := h
  obtain ⟨t, rfl⟩ := rx
  obtain ⟨t', rfl⟩ := ry
  obtain ⟨j, h1, h2, h3, h4, h5⟩ := atI_get he
  have hl : z.cps.toList.length = z.length := by simp [Str.length]
  rw [hl] at h1 h4 h5
  have hn := line63
  exact tail_any (typeIs_str s z t) slot_str_getitem.lookup (getItem_str (c := c) (by
    have e1 : decide (i < -(2 ^ 63 : Int)) = false := decide_eq_false (by omega)
    have e2 : decide (i ≥ 2 ^ 63) = false := decide_eq_false (by omega)
    rw [e1, e2, Bool.or_false]) (by rw [h1]; simpa using h2) ⟨.str ⟨#[c]⟩, H, I.tok _, ⟨_, rfl⟩, q⟩) hs
def rIx (K : PySem.W.Frag) : R2 := fun x y H Q => rIxL K x y H Q ∨ rIxT K x y H Q ∨ rIxS x y H Q
theorem ix_seq : IxR X (rIx X.K) := ix_list.or (ix_tup.or ix_str)
theorem mapSeq_set (its : List Value) (n j : Nat) (u : Value) : Obj.mapSeq (·.setIfInBounds j u) { cls := .type "list", data := .seq its.toArray n } = { cls := .type "list", data := .seq (its.set j u).toArray n } := by
  simp [Obj.mapSeq]
theorem Inv.lst {pins : List (Addr × Obj)} {σ : St} {H : Hp} {s : Shared} {p : Addr} {xs : List V} (I : Inv X pins σ H s) (h : H p = some (.lst xs)) :
    ∃ (its : List Value) (n : Nat), Vals xs its ∧ s.heap.get? p = some { cls := .type "list", data := .seq its.toArray n } ∧ xs.length ≤ sizeLine := by
  obtain ⟨z, its, n, r, e⟩ := I.hok p _ h
  exact ⟨its, n, r, e, z⟩
theorem Inv.lstUpd {pins : List (Addr × Obj)} {σ : St} {H : Hp} {s : Shared} {p : Addr} {xs ys : List V} {its its' : List Value} {n n' : Nat} {f : Obj → Obj} (I : Inv X pins σ H s) (h : H p = some (.lst xs))
    (ho : s.heap.get? p = some { cls := .type "list", data := .seq its.toArray n }) (hf : f { cls := .type "list", data := .seq its.toArray n } = { cls := .type "list", data := .seq its'.toArray n' }) (r : Vals ys its') (hz : ys.length ≤ sizeLine) (t : Nat) :
    Inv X pins σ (upd H p (.lst ys)) { s with heap := s.heap.update p f, toks := t } := by
  have e : (s.heap.update p f).get? p = some { cls := .type "list", data := .seq its'.toArray n' } := by
    rw [Heap.get?_update_self f ho (by rw [hf] <;> rfl), hf]
  refine I.write (x := p) (e := p) (by rw [h]; trivial) (.inl rfl) (fun b u hb q => (Heap.get?_update_other _ _ (Ne.symm hb)).trans q) ⟨_, e⟩ ?_
  exact ⟨hz, its', n', r, e⟩
def rSetL : V → V → V → Hp → (Hp → Prop) → Prop := fun o i v H Q => ∃ p xs k j, o = .ref p ∧ i = .int k ∧ H p = some (.lst xs) ∧ ixN xs.length k = some j ∧ Q (upd H p (.lst (xs.set j v)))
theorem set_list : PSet X rSetL := by
  intro pins s σ H o i v ov iv u Q I ro ri rv h
  obtain ⟨p, xs, k, j, rfl, rfl, hp, hj, q⟩ := h
  cases ro
  obtain ⟨t, rfl⟩ := ri
  obtain ⟨its, n, r, ho, hz⟩ := I.lst hp
  obtain ⟨h1, h2, h3, h4⟩ := ixN_seq hj
  have hl := r.length
  have hn := line63
  have I' : Inv X pins σ (upd H p (.lst (xs.set j v))) { s with heap := s.heap.update p (Obj.mapSeq (·.setIfInBounds j u)) } :=
    I.lstUpd hp ho (mapSeq_set its n j u) (r.set rv j) (by rw [List.length_set]; exact hz) s.toks
  by_cases h0 : 0 ≤ k
  · have hk : k.toNat = j := by
      rw [seqIndex_of h0 h4] at h1
      exact Option.some.inj h1
    exact PySem.W.ki_setAt ho h0 (by omega) (by rw [List.size_toArray, ← hl]; exact h4) (by rw [hk]; exact ⟨_, I', q⟩)
  · have hk : (k + (its.toArray.size : Int)).toNat = j := by
      rw [seqIndex_neg (by omega) h3] at h1
      rw [List.size_toArray, ← hl]
      exact Option.some.inj h1
    exact PySem.W.ki_setBack ho (by omega) (by rw [List.size_toArray, ← hl]; exact h3) (by omega) (by rw [hk]; exact ⟨_, I', q⟩)
theorem slice_bounds (lo hi : Option Int) (n : Nat) : (sliceBounds lo hi none n).1 = ((HT.sIx n 0 lo : Nat) : Int) ∧ (sliceBounds lo hi none n).2.1 = ((HT.sIx n n hi : Nat) : Int) ∧ (sliceBounds lo hi none n).2.2 = 1 := by
  refine ⟨?_, ?_, rfl⟩
  · cases lo with
    | none => simp [sliceBounds, HT.sIx]
    | some i =>
      simp only [sliceBounds, HT.sIx, Option.getD_none, show (1 : Int) > 0 by decide, if_true]
      by_cases h : i < 0
      · simp only [h, if_true] <;> omega
      · simp only [h, if_false] <;> omega
  · cases hi with
    | none => simp [sliceBounds, HT.sIx]
    | some i =>
      simp only [sliceBounds, HT.sIx, Option.getD_none, show (1 : Int) > 0 by decide, if_true]
      by_cases h : i < 0
      · simp only [h, if_true] <;> omega
      · simp only [h, if_false] <;> omega
theorem slicePick_cut (its : List Value) (lo hi : Option Int) : slicePick its.toArray lo hi none = ((its.drop (HT.sIx its.length 0 lo)).take (HT.sIx its.length its.length hi - HT.sIx its.length 0 lo)).toArray := by
  obtain ⟨h1, h2, h3⟩ := slice_bounds lo hi its.toArray.size
  unfold slicePick
  rw [h1, h2, h3]
  simp only [sliceRange_one, pick_run, List.size_toArray] <;> rfl
def rSlL (K : PySem.W.Frag) : V → Option Int → Option Int → Hp → VK → Prop := fun x lo hi H Q => ∃ a xs, x = .ref a ∧ SqL K H a xs ∧ ∀ p, H p = none → Q (.ref p) (upd H p (.lst (cutV xs lo hi)))
theorem sl_list : SlR X (rSlL X.K) := by
  intro pins s σ H x v vl vu lo hi sl Q I rx hs pl pu h
  obtain ⟨a, xs, rfl, hx, q⟩ := h
  cases rx
  obtain ⟨its, r, ht, hz⟩ := I.list hx
  have hlen := r.length
  refine ⟨"list", _, slot_list_getitem.lookup, ht.isList.typeIs, ?_⟩
  refine wpAny_getItem_list_slice ht.isList hs pl pu .none (by simp) ?_ (by rw [List.size_toArray] <;> omega)
  rw [slicePick_cut, ← hlen]
  refine ⟨.ref s.heap.objs.size, _, I.laid (t' := s.toks) (o := .lst (cutV xs lo hi)) (fun b ob q => Heap.get?_push_of_some _ q) (Nat.le_refl _) ?_, rfl, q _ (I.hok.fresh (Nat.le_refl _))⟩
  exact ⟨Nat.le_trans (cutV_length xs lo hi) hz, _, 0, (r.drop (HT.sIx xs.length 0 lo)).take (HT.sIx xs.length xs.length hi - HT.sIx xs.length 0 lo), Heap.get?_push_size _ rfl⟩
theorem call_len_seq : CallR X (.builtin "len") (fun xs H Q => ∃ p ys, xs = [.ref p] ∧ (SqL X.K H p ys ∨ SqT X.K H p ys) ∧ Q (.int ys.length) H) := by
  intro pins s σ H xs us Q I r h
  obtain ⟨p, ys, rfl, hq, q⟩ := h
  obtain ⟨u, rfl, rx⟩ := vals1 r
  cases rx
  have hn := line63
  rcases hq with hq | hq
  · obtain ⟨its, r', pl, hz⟩ := I.list hq
    have hlen := r'.length
    exact Calls.call_len_list pl.isList (by simp only [List.size_toArray] <;> omega) ⟨.int ys.length, H, I.tok _, ⟨s.toks + 1, by rw [List.size_toArray, hlen]⟩, q⟩
  · obtain ⟨its, r', pl, hz⟩ := I.tuple hq
    have hlen := r'.length
    exact len_tuple pl (by simp only [List.size_toArray] <;> omega) ⟨.int ys.length, H, I.tok _, ⟨s.toks + 1, by rw [List.size_toArray, hlen]⟩, q⟩
theorem CallR.or {f : Value} {r r' : List V → Hp → VK → Prop} (h : CallR X f r) (h' : CallR X f r') : CallR X f (fun xs H Q => r xs H Q ∨ r' xs H Q) := by
  intro pins s σ H xs us Q I rs q
  rcases q with q | q
  · exact h pins s σ H xs us Q I rs q
  · exact h' pins s σ H xs us Q I rs q
theorem call_list_of : CallR X (.type "list") (fun xs H Q => ∃ p ys, xs = [.ref p] ∧ (SqL X.K H p ys ∨ SqT X.K H p ys) ∧ ∀ l, H l = none → Q (.ref l) (upd H l (.lst ys))) := by
  intro pins s σ H xs us Q I r h
  obtain ⟨p, ys, rfl, hq, q⟩ := h
  obtain ⟨u, rfl, rx⟩ := vals1 r
  cases rx
  have fin : ∀ (its : List Value), Vals ys its → ys.length ≤ sizeLine → ∀ (h' : Heap) (c' : Nat), (∀ b o', s.heap.get? b = some o' → h'.get? b = some o') →
      h'.get? s.heap.objs.size = some { cls := .type "list", dict := none, data := .seq its.toArray c', slots := #[] } → EP X pins σ Q (.ref s.heap.objs.size) { s with heap := h' } := fun its r' hz h' c' kp e =>
    ⟨.ref s.heap.objs.size, _, I.laid (t' := s.toks) kp (Nat.le_refl _) (show ObjOk X.prog X.w _ h' _ (.lst ys) from ⟨hz, its, c', r', e⟩), rfl, q _ (I.hok.fresh (Nat.le_refl _))⟩
  rcases hq with hq | hq
  · obtain ⟨its, r', pl, hz⟩ := I.list hq
    have hlen := r'.length
    obtain ⟨o, ho, hc, n, hd⟩ := pl.isList
    exact call_list_seq p (.inl rfl) ho hc hd (fun h' c' kp e => fin its r' hz h' c' kp e) (by simp only [List.size_toArray] <;> omega)
  · obtain ⟨its, r', pl, hz⟩ := I.tuple hq
    have hlen := r'.length
    obtain ⟨o, ho, hc, n, hd⟩ := pl
    exact call_list_seq p (.inr rfl) ho hc hd (fun h' c' kp e => fin its r' hz h' c' kp e) (by simp only [List.size_toArray] <;> omega)
theorem call_tuple_of : CallR X (.type "tuple") (fun xs H Q => ∃ p ys, xs = [.ref p] ∧ ((SqL X.K H p ys ∧ ∀ l, H l = none → Q (.ref l) (upd H l (.tup ys))) ∨ (SqT X.K H p ys ∧ Q (.ref p) H))) := by
  intro pins s σ H xs us Q I r h
  obtain ⟨p, ys, rfl, h⟩ := h
  obtain ⟨u, rfl, rx⟩ := vals1 r
  cases rx
  rcases h with ⟨hq, q⟩ | ⟨hq, q⟩
  · obtain ⟨its, r', pl, hz⟩ := I.list hq
    have hlen := r'.length
    refine call_tuple_list pl.isList (fun h' kp => ?_) (by simp only [List.size_toArray] <;> omega)
    have I1 : Inv X pins σ H { s with heap := h' } := I.kept (t' := s.toks) kp
    have I2 : Inv X pins σ (upd H h'.objs.size (.tup ys)) { s with heap := h'.push { cls := .type "tuple", data := .seq its.toArray } } :=
      I1.laid (t' := s.toks) (fun b o e => Heap.get?_push_of_some _ e) (Nat.le_refl _) (show ObjOk X.prog X.w _ _ _ (.tup ys) from ⟨hz, its, r', IsTup.new _ _⟩)
    exact ⟨.ref h'.objs.size, _, I2, rfl, q _ (I1.hok.fresh (Nat.le_refl _))⟩
  · obtain ⟨its, r', pl, hz⟩ := I.tuple hq
    exact call_tuple_same pl ⟨.ref p, H, I, rfl, q⟩
def tyV (K : PySem.W.Frag) (T : String) (x : V) (H : Hp) : Prop := match x with
  | .str _ => T = "str"
  | .int _ => T = "int"
  | .ref p => (T = "list" ∧ ∃ xs, SqL K H p xs) ∨ (T = "tuple" ∧ ∃ o, K.lookup p = some o ∧ o.cls = .type "tuple" ∧ o.dict = none) ∨
      (T = "dict" ∧ ((∃ kvs, H p = some (.dK kvs)) ∨ ∃ kvs, H p = some (.dT kvs))) ∨ (T = "set" ∧ ∃ S n, H p = some (.set S n))
  | _ => False
theorem tyV_is {pins : List (Addr × Obj)} {σ : St} {H : Hp} {s : Shared} {T : String} {x : V} {v : Value} (I : Inv X pins σ H s) (r : RelV x v) (ty : tyV X.K T x H) :
    s.TypeIs v T ∧ ∀ a, v = .ref a → ∃ ob, s.heap.get? a = some ob ∧ ob.dict = none := by
  cases x with
  | str z =>
    obtain ⟨t, rfl⟩ := r
    cases (show T = "str" from ty)
    exact ⟨typeIs_str s z t, fun _ e => nomatch e⟩
  | int i =>
    obtain ⟨t, rfl⟩ := r
    cases (show T = "int" from ty)
    exact ⟨typeIs_int s i t, fun _ e => nomatch e⟩
  | ref p =>
    cases r
    rcases ty with ⟨rfl, xs, hq⟩ | ⟨rfl, o, hk, hc, hd⟩ | ⟨rfl, hk⟩ | ⟨rfl, S, n, hk⟩
    · obtain ⟨its, _, pl, _⟩ := I.list hq
      refine ⟨pl.isList.typeIs, fun a e => ?_⟩
      cases e
      obtain ⟨o, n, e, c, hd, _⟩ := pl
      exact ⟨o, e, hd⟩
    · refine ⟨⟨o, I.kIn p o hk, hc⟩, fun a e => ?_⟩
      cases e
      exact ⟨o, I.kIn _ o hk, hd⟩
    · have z : ∃ o, s.heap.get? p = some o ∧ o.ExactDict := by
        rcases hk with ⟨kvs, hk⟩ | ⟨kvs, hk⟩
        · obtain ⟨_, _, _, _, o, _, _, e, ex, _⟩ := I.hok p _ hk
          exact ⟨o, e, ex⟩
        · obtain ⟨_, _, _, _, o, _, _, e, ex, _⟩ := I.hok p _ hk
          exact ⟨o, e, ex⟩
      obtain ⟨o, e, ex⟩ := z
      refine ⟨⟨o, e, ex.1⟩, fun a e2 => ?_⟩
      cases e2
      exact ⟨o, e, ex.2.1⟩
    · obtain ⟨o, _, _, _, e, ex, _⟩ := I.hok p _ hk
      refine ⟨⟨o, e, ex.1⟩, fun a e2 => ?_⟩
      cases e2
      exact ⟨o, e, ex.2.1⟩
  | _ => exact False.elim ty
def tBM0 (K : PySem.W.Frag) (T : String) (r : V → List V → Hp → VK → Prop) (to : TE) : TE := fun σ H Q => to σ H fun x H1 => tyV K T x H1 ∧ r x [] H1 Q
def tBM (K : PySem.W.Frag) (T : String) (r : V → List V → Hp → VK → Prop) (to : TE) (t : TA) : TE := fun σ H Q => to σ H fun x H1 => tyV K T x H1 ∧ t σ H1 fun xs H2 => r x xs H2 Q
variable {o e : Expr} {es : List Expr} {to : TE} {t : TA} {name : Str} {apos cpos : Pos} {T id : String} {r : V → List V → Hp → VK → Prop}
theorem pe_bm0 (pa : PlainAttrs T) (slot : Slot T name id) (hty : typeOf (.builtin id) = pure (.type "method_descriptor")) (hm : MtR X id r) (ho : PE X o to)
    (hbase : attributeBase o name X.env (eval o X.env) = eval o X.env := by rfl) (hline : (apos.endLine == cpos.line) = true := by rfl) : PE X (.Call (.Attribute o name apos) [] [] cpos) (tBM0 X.K T r to) := by
  intro pins s σ H Q I h
  refine wpAny_Call_method0_late hbase hline (thn (ho pins s σ H _ I h) fun v s1 ⟨x, H1, I1, r1, ty, q1⟩ => ?_)
  obtain ⟨h1, h2⟩ := tyV_is I1 r1 ty
  exact ⟨T, id, pa, slot, hty, h1, h2, Calls.callWith_builtin rfl (PySem.evalArgs_none (hm pins s1 σ H1 x [] v [] Q I1 r1 .nil q1))⟩
theorem pe_bm (pa : PlainAttrs T) (slot : Slot T name id) (hty : typeOf (.builtin id) = pure (.type "method_descriptor")) (hm : MtR X id r) (ho : PE X o to) (ha : PA X (e :: es) t)
    (hbase : attributeBase o name X.env (eval o X.env) = eval o X.env := by rfl)
    (hfew : ((backTo cpos (starEach (e :: es) X.env)).all (fun x => !x.1) && (backToKw cpos (keywordEach [] X.env)).all (fun x => x.1.isSome)
      && decide ((e :: es).length + ([] : List Keyword).length + (if ([] : List Keyword).isEmpty then 0 else 1) < 30)) = true := by rfl)
    (hline : (apos.endLine == cpos.line) = true := by rfl) (hs : starEach (e :: es) X.env = (false, eval e X.env) :: starEach es X.env := by rfl) (hplain : (backTo cpos (starEach es X.env)).any (·.1) = false := by rfl) :
    PE X (.Call (.Attribute o name apos) (e :: es) [] cpos) (tBM X.K T r to t) := by
  intro pins s σ H Q I h
  refine wpAny_Call_method_late hbase hfew hline rfl (thn (ho pins s σ H _ I h) fun v s1 ⟨x, H1, I1, r1, ty, q1⟩ => ?_)
  obtain ⟨h1, h2⟩ := tyV_is I1 r1 ty
  refine ⟨T, id, pa, slot, hty, h1, h2, ?_⟩
  have hA := ha cpos pins s1 σ H1 _ I1 q1
  rw [hs] at hA ⊢
  refine Calls.callWith_builtin (by show (false || (backTo cpos (starEach es X.env)).any (·.1)) = false; rw [hplain] <;> rfl) (Calls.evalArgs_plain ?_)
  exact thn hA fun us s2 ⟨vs, H2, I2, r2, q2⟩ => hm pins s2 σ H2 x vs v us Q I2 r1 r2 q2
end
end L2
namespace L2
open PySem PySem.Spec PyProof.Rows
def MtM (X : Cx) (id : String) (r : V → List V → Hp → VK → Prop) : Prop :=
  ∀ (pins : List (Addr × Obj)) (s : Shared) (σ : St) (H : Hp) (x : V) (xs : List V) (v : Value) (us : List Value) (Q : VK), Inv X pins σ H s → RelV x v → Vals xs us → r x xs H Q →
    wpAny (model X.prog X.w) X.A (call (.builtin id) (v :: us)) (EP X pins σ Q) X.xe s
theorem Vals.one : ∀ {x : V} {us : List Value}, Vals [x] us → ∃ u, us = [u] ∧ RelV x u
  | _, _, .cons r .nil => ⟨_, rfl, r⟩
theorem Vals.two : ∀ {x y : V} {us : List Value}, Vals [x, y] us → ∃ u v, us = [u, v] ∧ RelV x u ∧ RelV y v
  | _, _, _, .cons r (.cons q .nil) => ⟨_, _, rfl, r, q⟩
theorem Vals.zero : ∀ {us : List Value}, Vals [] us → us = []
  | _, .nil => rfl
theorem Vals.dropLast {xs : List V} {us : List Value} (h : Vals xs us) : Vals xs.dropLast us.dropLast := by
  induction h with
  | nil => exact .nil
  | cons r t ih =>
    cases t with
    | nil => exact .nil
    | cons q t' => exact .cons r ih
theorem Vals.eraseIdx : ∀ {xs : List V} {us : List Value} (i : Nat), Vals xs us → Vals (xs.eraseIdx i) (us.eraseIdx i)
  | _, _, _, .nil => .nil
  | _, _, 0, .cons _ t => t
  | _, _, i + 1, .cons r t => .cons r (Vals.eraseIdx i t)
theorem Vals.reverse {xs : List V} {us : List Value} (h : Vals xs us) : Vals xs.reverse us.reverse := by
  induction h with
  | nil => exact .nil
  | cons r t ih => rw [List.reverse_cons, List.reverse_cons]; exact Vals.append ih (.cons r .nil)
theorem erase_last {α : Type} (l : List α) : l.eraseIdx (l.length - 1) = l.dropLast := by
  induction l with
  | nil => rfl
  | cons a r ih =>
    cases r with
    | nil => rfl
    | cons b r =>
      have e : (a :: b :: r).length - 1 = ((b :: r).length - 1) + 1 := by
        have h1 : (a :: b :: r).length = r.length + 2 := rfl
        have h2 : (b :: r).length = r.length + 1 := rfl
        omega
      rw [e, List.eraseIdx_cons_succ, ih]
      all_goals rfl
theorem len_erase {α : Type} : ∀ (l : List α) (i : Nat), (l.eraseIdx i).length ≤ l.length
  | [], _ => Nat.le_refl _
  | _ :: _, 0 => Nat.le_succ _
  | _ :: r, i + 1 => Nat.succ_le_succ (len_erase r i)
section
variable {X : Cx} {pins : List (Addr × Obj)} {σ : St} {H : Hp} {s : Shared} {l b : Addr} {xs ys zs : List V}
theorem Inv.lset {its its' : List Value} {n : Nat} {f : Array Value → Array Value} {t' : Nat} (I : Inv X pins σ H s) (hH : H l = some (.lst xs))
    (e : s.heap.get? l = some { cls := .type "list", data := .seq its.toArray n }) (hf : f its.toArray = its'.toArray) (hv : Vals ys its') (hz : ys.length ≤ sizeLine) :
    Inv X pins σ (upd H l (.lst ys)) { s with heap := s.heap.update l (Obj.mapSeq f), toks := t' } := by
  have q := PySem.IsL.update e f
  rw [hf] at q
  refine I.write (x := l) (e := l) (by rw [hH]; exact trivial) (.inl rfl) (fun b' u hb hu => (Heap.get?_update_other s.heap (Obj.mapSeq f) (Ne.symm hb)).trans hu) ⟨_, q⟩ ?_
  exact ⟨hz, its', _, hv, q⟩
theorem Inv.lnew {its : List Value} {t' : Nat} (I : Inv X pins σ H s) (hv : Vals ys its) (hz : ys.length ≤ sizeLine) :
    Inv X pins σ (upd H s.heap.objs.size (.lst ys)) { s with heap := s.heap.push { cls := .type "list", data := .seq its.toArray }, toks := t' } :=
  I.laid (fun _ _ q => Heap.get?_push_of_some _ q) (Nat.le_refl _) ⟨hz, its, 0, hv, Heap.get?_push_size _ rfl⟩
theorem Inv.fresh (I : Inv X pins σ H s) : H s.heap.objs.size = none := I.hok.fresh (Nat.le_refl _)
theorem Inv.lstM (I : Inv X pins σ H s) (hH : H l = some (.lst xs)) : xs.length ≤ sizeLine ∧ ∃ (its : List Value) (n : Nat), Vals xs its ∧ xs.length = its.length ∧ s.heap.get? l = some { cls := .type "list", data := .seq its.toArray n } := by
  obtain ⟨z, its, n, r, e⟩ := I.hok l _ hH
  exact ⟨z, its, n, r, r.length, e⟩
theorem notLongL {n : Nat} (h : n ≤ sizeLine) : Builtin.List.listTooLong n = false := by
  unfold Builtin.List.listTooLong
  exact decide_eq_false (by omega)
end
section
variable {X : Cx}
def rAppend : V → List V → Hp → VK → Prop := fun x vs H Q => ∃ l xs y, x = .ref l ∧ vs = [y] ∧ H l = some (.lst xs) ∧ xs.length < sizeLine ∧ Q .non (upd H l (.lst (xs ++ [y])))
theorem mt_append : MtM X "list.append" rAppend := by
  intro pins s σ H x vs v us Q I rx rv h
  obtain ⟨l, xs, y, rfl, rfl, hH, hz, q⟩ := h
  cases rx
  obtain ⟨u, rfl, ru⟩ := rv.one
  obtain ⟨z, its, n, r, hl, e⟩ := I.lstM hH
  refine call_meets F.slot_list_append ⟨_, e, rfl⟩ F.entry_list_append (F.args_list_append_2 _ _) (PySem.list_append l its.toArray n u (by rw [List.size_toArray]; omega)) ⟨e, ?_⟩
  refine ⟨.non, _, I.lset (its' := its ++ [u]) hH e (by simp) (r.append (.cons ru .nil)) ?_, rfl, q⟩
  rw [List.length_append, List.length_singleton]
  omega
def rExtend : V → List V → Hp → VK → Prop := fun x vs H Q => ∃ l b xs zs, x = .ref l ∧ vs = [.ref b] ∧ H l = some (.lst xs) ∧ H b = some (.lst zs) ∧ xs.length + zs.length ≤ sizeLine ∧ Q .non (upd H l (.lst (xs ++ zs)))
theorem mt_extend : MtM X "list.extend" rExtend := by
  intro pins s σ H x vs v us Q I rx rv h
  obtain ⟨l, b, xs, zs, rfl, rfl, hH, hB, hz, q⟩ := h
  cases rx
  obtain ⟨u, rfl, ru⟩ := rv.one
  cases ru
  obtain ⟨z, its, n, r, hl, e⟩ := I.lstM hH
  obtain ⟨z2, its2, n2, r2, hl2, e2⟩ := I.lstM hB
  have hsz : its.toArray.size + its2.toArray.size ≤ sizeLine := by rw [List.size_toArray, List.size_toArray]; omega
  have hlong : ¬ (!its.toArray.isEmpty && Builtin.List.listTooLong (its.toArray.size + its2.toArray.size)) = true := by
    rw [notLongL hsz, Bool.and_false]
    exact Bool.false_ne_true
  refine call_meets F.slot_list_extend ⟨_, e, rfl⟩ F.entry_list_extend (F.args_list_extend_2 _ _)
    (AutoSeq1.list_extend_list_list_0 l its.toArray n b its2.toArray n2 hlong (by rw [List.size_toArray]; omega) (by omega)) ⟨e, e2, ?_⟩
  refine ⟨.non, _, I.lset (its' := its ++ its2) hH e (by simp) (r.append r2) ?_, rfl, q⟩
  rw [List.length_append]
  omega
def rPop : V → List V → Hp → VK → Prop := fun x vs H Q => ∃ l xs y, x = .ref l ∧ vs = [] ∧ H l = some (.lst xs) ∧ xs[xs.length - 1]? = some y ∧ Q y (upd H l (.lst xs.dropLast))
theorem mt_pop : MtM X "list.pop" rPop := by
  intro pins s σ H x vs v us Q I rx rv h
  obtain ⟨l, xs, y, rfl, rfl, hH, hy, q⟩ := h
  cases rx
  have hus := rv.zero
  subst hus
  obtain ⟨z, its, n, r, hl, e⟩ := I.lstM hH
  obtain ⟨u, hu, ru⟩ := r.get hy
  have hy' : its.toArray[its.toArray.size - 1]? = some u := by
    show its.toArray[its.length - 1]? = some u
    rw [← Array.getElem?_toList, ← hl]
    exact hu
  refine call_meets F.slot_list_pop ⟨_, e, rfl⟩ F.entry_list_pop (F.args_list_pop_1 _) (MeetsSeq.list_pop_last l its.toArray n u hy' (by rw [List.size_toArray]; omega)) ⟨e, ?_⟩
  refine ⟨y, _, I.lset (its' := its.dropLast) hH e ?_ r.dropLast ?_, ru, q⟩
  · show its.toArray.eraseIdxIfInBounds (its.toArray.size - 1) = its.dropLast.toArray
    rw [List.size_toArray, List.eraseIdxIfInBounds_toArray, erase_last]
  · rw [List.length_dropLast]
    omega
def rPopAt : V → List V → Hp → VK → Prop := fun x vs H Q => ∃ l xs i k y, x = .ref l ∧ vs = [.int i] ∧ H l = some (.lst xs) ∧ -(2 ^ 63) ≤ i ∧ i < 2 ^ 63 ∧ seqIndex? i xs.length = some k ∧ xs[k]? = some y ∧ Q y (upd H l (.lst (xs.eraseIdx k)))
theorem mt_popAt : MtM X "list.pop" rPopAt := by
  intro pins s σ H x vs v us Q I rx rv h
  obtain ⟨l, xs, i, k, y, rfl, rfl, hH, h1, h2, hk, hy, q⟩ := h
  cases rx
  obtain ⟨u, rfl, ru⟩ := rv.one
  obtain ⟨t, rfl⟩ := ru
  obtain ⟨z, its, n, r, hl, e⟩ := I.lstM hH
  obtain ⟨w, hw, rw'⟩ := r.get hy
  refine call_meets F.slot_list_pop ⟨_, e, rfl⟩ F.entry_list_pop (F.args_list_pop_2 _ _)
    (MeetsSeq.list_pop_at l its.toArray n i t k w (fitsIndex_both h1 h2) (by rw [List.size_toArray, ← hl]; exact hk) (by rw [← Array.getElem?_toList]; exact hw) (by rw [List.size_toArray]; omega)) ⟨e, ?_⟩
  refine ⟨y, _, I.lset (its' := its.eraseIdx k) hH e ?_ (r.eraseIdx k) ?_, rw', q⟩
  · show its.toArray.eraseIdxIfInBounds k = (its.eraseIdx k).toArray
    rw [List.eraseIdxIfInBounds_toArray]
  · have := len_erase xs k
    omega
def rCat : R2 := fun x y H Q => ∃ l b xs zs, x = .ref l ∧ y = .ref b ∧ H l = some (.lst xs) ∧ H b = some (.lst zs) ∧ xs.length + zs.length ≤ sizeLine ∧ ∀ p, H p = none → Q (.ref p) (upd H p (.lst (xs ++ zs)))
theorem op_cat : OpR X (binaryOp .Add) rCat := by
  intro pins s σ H x y v u Q I rx ry h
  obtain ⟨l, b, xs, zs, rfl, rfl, hH, hB, hz, q⟩ := h
  cases rx
  cases ry
  obtain ⟨z, its, n, r, hl, e⟩ := I.lstM hH
  obtain ⟨z2, its2, n2, r2, hl2, e2⟩ := I.lstM hB
  refine PySem.P.add_list e e2 ?_ (by rw [List.size_toArray, List.size_toArray]; omega)
  have ea : its.toArray ++ its2.toArray = (its ++ its2).toArray := by simp
  rw [ea]
  exact ⟨.ref _, _, I.lnew (t' := s.toks) (r.append r2) (by rw [List.length_append]; omega), rfl, q _ I.fresh⟩
end
section
variable {prog : Program} {w : World} {A : Around} {E : Value → Shared → Prop} {s : Shared}
end
section
variable {X : Cx}
end
end L2
namespace Att
open PySem PySem.W PySem.Calls PyProof.Rows
theorem ints_of_wellAll {P : Params} {h : Heap} : ∀ (ns : List Int) (vs : List Value), WellAll P h vs (ns.map WData.int) → IntsAre vs ns := by
  intro ns
  induction ns with
  | nil =>
    intro vs w
    rw [List.map_nil] at w
    cases w
    exact .nil
  | cons n ns ih =>
    intro vs w
    rw [List.map_cons] at w
    cases w with
    | cons a b =>
      cases a
      exact .cons _ _ (ih _ b)
theorem script_of {l : OpenLaw} {n : Nat} (hn : l.most = some n) {P : Params} {h : Heap} {args : List WData} {vals : List Value}
    (hpre : l.row.toRowW.claim.pre args = true) (hwl : WellAll P h vals args) :
    ∃ a vs ns, vals = [Value.ref a] ∧ args = [WData.list (ns.map WData.int)] ∧ h.get? a = some { cls := .type "list", data := .seq vs.toArray } ∧ IntsAre vs ns ∧ ns.length ≤ n := by
  have hsh : WShape.hasAll [] args [.list .int] = true := (pre_splitW hpre).1
  have hc : l.pre.holds [] { args := args } = true := (pre_splitW hpre).2
  obtain ⟨d, r, rfl, h1, h2⟩ := hasAllW_cons hsh
  obtain rfl := hasAllW_nil h2
  obtain ⟨xs, rfl, h3⟩ := hasW_list h1
  obtain ⟨ns, rfl⟩ := items_int h3
  have hlen : ns.length ≤ n := by
    unfold OpenLaw.pre at hc
    have h4 : (WTm.not (.lt (.lit (.int (n : Int))) (.len (.arg 0)))).holds [] { args := [.list (ns.map .int)] } = true := by
      have h4 := (holds_andW hc).1
      rw [hn] at h4
      exact h4
    have h5 := condW_of h4 (w_not (w_lt w_lit (w_len_list (w_arg rfl))))
    rw [List.length_map] at h5
    refine Nat.le_of_not_lt fun q => ?_
    have q' : (n : Int) < ((ns.length : Nat) : Int) := by omega
    first
      | (rw [decide_eq_true q'] at h5; exact absurd h5 (by decide))
      | (simp at h5; omega)
  cases hwl with
  | cons w1 w2 =>
    cases w2
    cases w1 with
    | list ho hall => exact ⟨_, _, ns, rfl, rfl, ho, ints_of_wellAll ns _ hall, hlen⟩
theorem post_true (l : OpenLaw) (args : List WData) : l.row.toRowW.claim.post args (.bool true) args = true :=
  postW_of (r := l.row.toRowW) (X := (true == true))
    (show WShape.has [] (.bool true) .bool = true by first | rfl | decide | simp [WShape.has, WShape.arms, WShape.armsAll])
    (show (WTm.eq .res (.lit (.bool true))).value [] { args := args, res := some (.bool true), after := args } = some (.bool (true == true)) from w_eq_bool (w_res rfl) w_lit) rfl
theorem attach_call {l : OpenLaw} {n : Nat} {q : Program} {loose : List Str} {XP : (Str → Option Value) → Heap → Prop} {YP : World → Heap → Prop} {d : DefRec}
    (hn : l.most = some n) (hdf : d.params.defaults = [])
    (call : ∀ (w : World) (s₀ s₁ : Shared) (mg mb : Str → Option Value) (fa : Addr) (o : Obj) (pm cd doc : Value) (a : Addr) (vs : List Value) (ns : List Int),
      Ground q loose [] XP w s₀ mg mb s₁.heap → YP w s₁.heap →
      s₁.heap.get? fa = some o → o.data = .func (docDef d.name d.params d.body d.scope pm cd doc) → s₁.heap.CodeRec cd d.name → mg d.name = some (.ref fa) →
      s₁.heap.get? a = some { cls := .type "list", data := .seq vs.toArray } → IntsAre vs ns → ns.length ≤ n → s₁.gens = #[] →
      codeAny (model l.prog w) callerA (.call (.ref fa) ⟨[.ref a], []⟩) (fun r s' => r = .ok (.ret (.bool true)) ∧ OldK s₁.heap s'.heap ∧ s'.os = s₁.os ∧ AllBare s'.gens) s₁) :
    WalkO q loose XP YP l.row.toRowW d [] (fun f vs => PySem.call f vs) := by
  intro w s₀ s₁ mg mb G Y fa o pm cd doc dV kV ho hd hcd hD hmg hg args vals as hpre hlay hrd hwl hlo
  obtain rfl : dV = .none := Dflts.none hD hdf
  obtain rfl : kV = .none := Dflts.noKw hD
  obtain ⟨a, vs, ns, rfl, rfl, hobj, hints, hlen⟩ := script_of hn hpre hwl
  refine enter_call (codeAny_mono (call w s₀ s₁ mg mb fa o pm cd doc a vs ns G Y ho (fd_plain hd) hcd hmg hobj hints hlen hg) fun r s' hq => ?_)
  obtain ⟨rfl, h2, h3, h4⟩ := hq
  exact ⟨.inl ⟨.bool true, .bool true, [], rfl, fun _ => rfl, .bool true, post_true l _, fun _ => ⟨List.Pairwise.nil, fun _ hm => (nomatch hm)⟩⟩, h2, h3, h4⟩
section
variable {prog : Program} {w : World} {A : Around} {E : Value → Shared → Prop} {s : Shared} {K : Frag}
def ledger (h : Heap) (L d : Addr) : List (Addr × Obj) := (List.range h.objs.size).filterMap fun a => if a = L ∨ a = d then none else (h.get? a).map fun o => (a, o)
end
end Att
namespace L2
open PySem PySem.Spec PyProof.Rows
theorem vals_ints : ∀ {vs : List Value} {ns : List Int}, IntsAre vs ns → Vals (ns.map V.int) vs
  | _, _, .nil => .nil
  | _, _, .cons n t h => .cons ⟨t, rfl⟩ (vals_ints h)
def Only (H : Hp) : Prop := ∀ b, H b = none ∨ ∃ o xs, H b = some (.frz o (.lst xs))
theorem law_call {P : Program} {w : World} {K : PySem.W.Frag} {mg mb : Str → Option Value} {CX : CXT} {k : Nat} {fa a : Addr} {fd : FuncData} {x : Str} {sp : Sp} {s₁ : Shared} {vs : List Value} {ns : List Int}
    (KX : K.In s₁.heap) (hns : s₁.heap.Ns mainGlobals mg) (hb : s₁.heap.Ns builtinsNs mb) (hbb : ∀ x : Str, x ≠ "__name__" → mb x = bootBuiltins x) (hlim : s₁.heap.NoLimit) (hg : s₁.gens = #[])
    (ha : s₁.heap.get? a = some { cls := .type "list", data := .seq vs.toArray }) (hi : IntsAre vs ns) (hl : ns.length ≤ sizeLine) (hr : Room k callerA)
    (F : ∀ base : Heap, K.In base → base.Ns mainGlobals mg → FnOk P w K mg base CX k fa fd [x] sp) (hbind : ∀ (s : Shared) (u : Value), BindsTo s fd ⟨[u], []⟩ [(x, u)])
    (hsp : ∀ H : Hp, Only H → SqL K H a (ns.map V.int) → sp [.ref a] H (fun v _ => v = .bl true) fun _ _ _ => False)
    (hCX : ∀ H e s', CX [] H s₁ (fun _ _ _ => False) e s' → False) :
    codeAny (model P w) callerA (.call (.ref fa) ⟨[.ref a], []⟩) (fun r s' => r = .ok (.ret (.bool true)) ∧ OldK s₁.heap s'.heap ∧ s'.os = s₁.os ∧ AllBare s'.gens) s₁ := by
  have rv := vals_ints hi
  have lenV := hi.length
  have core : ∀ H : Hp, Only H → SqL K H a (ns.map V.int) → HOk P w H s₁.heap → (∀ b, H b ≠ none → b = a) → (H a ≠ none → K.lookup a = none) →
      codeAny (model P w) callerA (.call (.ref fa) ⟨[.ref a], []⟩) (fun r s' => r = .ok (.ret (.bool true)) ∧ OldK s₁.heap s'.heap ∧ s'.os = s₁.os ∧ AllBare s'.gens) s₁ := by
    intro H hO hS hok hA hK
    have base_of : ∀ {b : Addr} {o : Obj}, s₁.heap.get? b = some o → H b = none → (hidT s₁.heap H).get? b = some o := fun e n => hidT_get e n
    have noA : ∀ {b : Addr} {o : Obj} {es : Array DictEntry} {ep : Nat}, s₁.heap.get? b = some o → o.data = .dict es ep → H b = none := fun {b o es ep} e d => by
      cases q : H b with
      | none => rfl
      | some u =>
        have e' : b = a := hA b (by rw [q]; simp)
        subst e'
        rw [ha] at e; cases e
        have d' : Data.seq vs.toArray _ = Data.dict es ep := d
        cases d'
    have nsK : ∀ {b : Addr} {m : Str → Option Value}, s₁.heap.Ns b m → (hidT s₁.heap H).Ns b m := fun {b m} ⟨o, es, ep, e, d, r⟩ => ⟨o, es, ep, base_of e (noA e d), d, r⟩
    have hKb : K.In (hidT s₁.heap H) := fun b o e => base_of (KX b o e) (by
      cases q : H b with
      | none => rfl
      | some u =>
        have e' : b = a := hA b (by rw [q]; simp)
        subst e'
        rw [hK (by rw [q]; simp)] at e; cases e)
    have hM : Mod K mg (hidT s₁.heap H) := ⟨hKb, nsK hns, ⟨mb, nsK hb, hbb⟩, let ⟨mc, h1, h2⟩ := hlim; ⟨mc, nsK h1, h2⟩⟩
    have e0 : Env0 P w K mg (hidT s₁.heap H) callerA [] s₁ H := ⟨rfl, hM, fun b o e => of_hidT e, Nat.le_of_eq (hidT_size _ _), trivial, fun b hb => absurd (show b ∈ ([] : List Addr) from hb) (by simp), hok, .of_eq hg⟩
    refine codeAny_mono ((F _ hKb (nsK hns)).run callerA [] s₁ H ⟨[.ref a], []⟩ [.ref a] [.ref a] _ _ hr e0 (hbind s₁ (.ref a)) (.cons rfl .nil) (hsp H hO hS)) fun r s' h => ?_
    cases r with
    | error e => exact (hCX H e s' h).elim
    | ok fl =>
      cases fl with
      | next => exact False.elim h
      | brk => exact False.elim h
      | cont => exact False.elim h
      | ret u =>
        obtain ⟨v, H', os, bare, un, hok', r', q⟩ := h
        have q' : v = .bl true := q
        subst q'
        obtain rfl : u = Value.bool true := r'
        refine ⟨rfl, OldK.of_keep fun b o e => ?_, os, bare⟩
        cases q : H b with
        | none => exact un.keep b o e q (by intro z; exact absurd (show b ∈ ([] : List Addr) from z) (by simp)) (by simp)
        | some u =>
          rcases hO b with z | ⟨ob, xs, z⟩
          · rw [q] at z; cases z
          · have z2 := un.frzs b ob _ z
            obtain ⟨e1, _⟩ := hok b _ z
            obtain ⟨e2, _⟩ := hok' b _ z2
            rw [e] at e1; cases e1
            exact e2
  cases hk : K.lookup a with
  | some o =>
    have e := KX a o hk
    rw [ha] at e
    cases e
    refine core (fun _ => none) (fun _ => .inl rfl) (.inr ⟨_, vs.toArray, _, hk, rfl, rfl, rfl, by rw [List.size_toArray, lenV]; exact hl, by simpa using rv⟩) (fun b u z => by have z' : (none : Option HO) = some u := z; cases z') (fun b z => absurd rfl z) fun z => absurd rfl z
  | none =>
    refine core (fun b => if b = a then some (.frz { cls := .type "list", data := .seq vs.toArray } (.lst (ns.map V.int))) else none) (fun b => ?_) (.inl (.inr ⟨{ cls := .type "list", data := .seq vs.toArray }, if_pos rfl⟩)) (fun b u z => ?_) (fun b z => ?_) fun _ => hk
    · by_cases hb : b = a
      · exact .inr ⟨_, _, if_pos hb⟩
      · exact .inl (if_neg hb)
    · by_cases hb : b = a
      · have z' := (if_pos hb).symm.trans z
        cases z'
        subst hb
        exact ⟨ha, by rw [List.length_map]; exact hl, vs, _, rv, ha⟩
      · have z' := (if_neg hb).symm.trans z
        cases z'
    · by_cases hb : b = a
      · exact hb
      · exact absurd (if_neg hb) z
end L2
namespace L2
open PySem PySem.Spec PyProof.Rows
theorem walk_of {l : PySem.W.OpenLaw} {n k : Nat} {q : Program} {loose : List Str} {XP : (Str → Option Value) → Heap → Prop} {YP : World → Heap → Prop} {d : DefRec} {K : Params → PySem.W.Frag} {CX : World → CXT} {sp : World → Sp} {x : Str}
    (hn : l.most = some n) (hn2 : n ≤ sizeLine) (hdf : d.params.defaults = []) (hr : Room k callerA)
    (hY : ∀ (w : World) (h : Heap), YP w h → (K w.params).In h)
    (F : ∀ (w : World) (mg : Str → Option Value) (fa : Addr) (h : Heap), (K w.params).In h → h.Ns mainGlobals mg → mg d.name = some (.ref fa) →
      ∃ fd : FuncData, (∀ (s : Shared) (u : Value), BindsTo s fd ⟨[u], []⟩ [(x, u)]) ∧
        ∀ base : Heap, (K w.params).In base → base.Ns mainGlobals mg → FnOk l.prog w (K w.params) mg base (CX w) k fa fd [x] (sp w))
    (hsp : ∀ (w : World) (H : Hp) (a : Addr) (ns : List Int), ns.length ≤ n → Only H → SqL (K w.params) H a (ns.map V.int) → sp w [.ref a] H (fun v _ => v = .bl true) fun _ _ _ => False)
    (hCX : ∀ (w : World) (H : Hp) (s : Shared) (e : Value) (s' : Shared), CX w [] H s (fun _ _ _ => False) e s' → False) :
    PySem.W.WalkO q loose XP YP l.row.toRowW d [] (fun f vs => PySem.call f vs) := by
  refine Att.attach_call hn hdf fun w s₀ s₁ mg mb fa o pm cd doc a vs ns G Y ho hd hcd hmg hobj hints hlen hg => ?_
  have KX := hY w _ Y
  obtain ⟨fd, hb, hF⟩ := F w mg fa _ KX G.T.g hmg
  exact law_call KX G.T.g G.T.b G.T.builtins G.T.nolimit hg hobj hints (Nat.le_trans hlen hn2) hr hF hb (fun H hO hS => hsp w H a ns hlen hO hS) fun H e s' => hCX w H s₁ e s'
end L2
namespace L2
open PySem PySem.Spec PyProof.Rows
abbrev CX0 : CXT := fun _ _ _ _ _ _ => False
abbrev E0 : XK := fun _ _ _ => False
theorem pass0 {X : Cx} : Passes CX0 X E0 := fun _ _ _ _ _ _ _ h => h.elim
structure Fun (K : PySem.W.Frag) (x qual : Str) (st : Stmt) (f : Addr) (fd : FuncData) : Prop where
  ex : ∃ (oc : Value) (od : Option Addr) (kV doc pm : Value) (an : Option Addr) (cdv ct : Value) (osl : Array (Option Value)),
    fd = PySem.W.fnOf x qual (defArgs st) (defBody st) (defScope st) .none kV doc pm an cdv ct ∧ K.lookup f = some ⟨oc, od, .func fd, osl⟩ ∧ PySem.W.codeIn K cdv qual = true
  kp : PySem.W.keepIn K (.ref f) = true
section
variable {P : Program} {w : World} {K : PySem.W.Frag} {mg : Str → Option Value} {base : Heap}
theorem Fun.ok {x qual : Str} {st : Stmt} {f : Addr} {fd : FuncData} {N ps : List Str} {k : Nat} {sp : Sp} (F : Fun K x qual st f fd) (S : FnScope N ps (defScope st)) (len : ∀ vs H Q E, sp vs H Q E → vs.length = ps.length)
    (hbody : ∀ (cdv : Value) (A : Around) (outer : List Env) (s : Shared) (H : Hp) (vs : List V) (Q : VK) (E : XK), Room k (A.deeper (envOfC qual (defScope st) s.heap.objs.size f cdv)) → sp vs H Q E →
      ∃ t, PSs (cxOf CX0 P w K mg base N qual (defScope st) f cdv A outer s H E).nox (defBody st) t ∧ t { nx := fun _ H' => Q .non H', rt := Q } (start N vs) H) : FnOk P w K mg base CX0 (k + 1) f fd ps sp := by
  obtain ⟨oc, od, kV, doc, pm, an, cdv, ct, osl, rfl, lk, hcd⟩ := F.ex
  refine fn_of lk hcd S len fun A outer s H vs Q E hr hsp => ?_
  obtain ⟨t, h, q⟩ := hbody cdv A outer s H vs Q E hr hsp
  exact ⟨t, h.nox, q⟩
theorem Fun.binds {x qual : Str} {st : Stmt} {f : Addr} {fd : FuncData} {ps : List Str} (F : Fun K x qual st f fd)
    (h : ∀ (kV doc pm : Value) (an : Option Addr) (cdv ct : Value) (us : List Value), us.length = ps.length → bindArgs (PySem.W.fnOf x qual (defArgs st) (defBody st) (defScope st) .none kV doc pm an cdv ct) ⟨us, []⟩ = pure (ps.zip us)) : Binds K fd ps [] := by
  obtain ⟨oc, od, kV, doc, pm, an, cdv, ct, osl, rfl, lk, hcd⟩ := F.ex
  exact .all (h kV doc pm an cdv ct)
theorem fun_mk {x qual : Str} {st : Stmt} {f : Addr} {oc : Value} {od an : Option Addr} {osl : Array (Option Value)} {kV doc pm cdv ct : Value} (l : K.lookup f = some ⟨oc, od, .func (PySem.W.fnOf x qual (defArgs st) (defBody st) (defScope st) .none kV doc pm an cdv ct), osl⟩)
    (c : PySem.W.codeIn K cdv qual = true) (k : PySem.W.keepIn K (.ref f) = true) : Fun K x qual st f (PySem.W.fnOf x qual (defArgs st) (defBody st) (defScope st) .none kV doc pm an cdv ct) := ⟨⟨oc, od, kV, doc, pm, an, cdv, ct, osl, rfl, l, c⟩, k⟩
end
theorem small1000 {n : Nat} (h : n ≤ 1000) : n < sizeLine := Nat.lt_of_le_of_lt h (by decide)
section
variable {X : Cx}
end
theorem iteF {A B : Prop} (h : B) : if false = true then A else B := by
  rw [if_neg Bool.false_ne_true]
  exact h
theorem iteT {A B : Prop} (h : A) : if true = true then A else B := by
  rw [if_pos rfl]
  exact h
def Same (H H' : Hp) : Prop := ∀ b o, H b = some o → H' b = some o
theorem Same.refl (H : Hp) : Same H H := fun _ _ h => h
theorem Same.trans {H H1 H2 : Hp} (a : Same H H1) (b : Same H1 H2) : Same H H2 := fun c o h => b c o (a c o h)
theorem Same.free {H H' : Hp} (e : Same H H') {l : Addr} (h : H' l = Option.none) : H l = Option.none := by
  cases q : H l with
  | none => rfl
  | some o =>
    rw [e l o q] at h
    cases h
end L2
set_option linter.all false
set_option maxRecDepth 100000
set_option maxHeartbeats 4000000
namespace NM
@[irreducible] def Sz (n : Nat) (i : Int) : Prop := i.natAbs < 2 ^ n
theorem Sz.mono {n m : Nat} {i : Int} (h : Sz n i) (l : n ≤ m) : Sz m i := by unfold Sz at *; exact Nat.lt_of_lt_of_le h (Nat.pow_le_pow_right (by decide) l)
theorem Sz.mul {n m : Nat} {i j : Int} (h : Sz n i) (g : Sz m j) : Sz (n + m) (i * j) := by
  unfold Sz at *
  rw [Int.natAbs_mul, Nat.pow_add]
  exact Nat.mul_lt_mul'' h g
theorem Sz.add {n : Nat} {i j : Int} (h : Sz n i) (g : Sz n j) : Sz (n + 1) (i + j) := by
  unfold Sz at *
  have := Int.natAbs_add_le i j
  rw [Nat.pow_succ]
  omega
theorem Sz.neg {n : Nat} {i : Int} (h : Sz n i) : Sz n (-i) := by unfold Sz at *; rw [Int.natAbs_neg]; exact h
theorem Sz.sub {n : Nat} {i j : Int} (h : Sz n i) (g : Sz n j) : Sz (n + 1) (i - j) := by rw [Int.sub_eq_add_neg]; exact h.add g.neg
theorem Sz.le {n : Nat} {i j : Int} (h : Sz n i) (g : j.natAbs ≤ i.natAbs) : Sz n j := by unfold Sz at *; exact Nat.lt_of_le_of_lt g h
theorem Sz.of {n : Nat} {i : Int} (h : i.natAbs < 2 ^ n) : Sz n i := by unfold Sz; exact h
theorem Sz.lt {n : Nat} {i : Int} (h : Sz n i) : i.natAbs < 2 ^ n := by unfold Sz at h; exact h
def g3 (a b c : Int) : Nat := Int.gcd (Int.gcd a b : Nat) c
theorem g3_prog (a b c : Int) : Int.gcd (Int.gcd c a : Nat) b = g3 a b c := by
  unfold g3
  simp only [Int.gcd, Int.natAbs_natCast]
  rw [Nat.gcd_assoc, Nat.gcd_comm]
theorem g3_dvd (a b c : Int) : ((g3 a b c : Nat) : Int) ∣ a ∧ ((g3 a b c : Nat) : Int) ∣ b ∧ ((g3 a b c : Nat) : Int) ∣ c := by
  have h : ((g3 a b c : Nat) : Int) ∣ ((Int.gcd a b : Nat) : Int) := Int.gcd_dvd_left ..
  exact ⟨Int.dvd_trans h (Int.gcd_dvd_left ..), Int.dvd_trans h (Int.gcd_dvd_right ..), Int.gcd_dvd_right ..⟩
theorem dvd_g3 {a b c : Int} {k : Nat} (h1 : (k : Int) ∣ a) (h2 : (k : Int) ∣ b) (h3 : (k : Int) ∣ c) : k ∣ g3 a b c := by
  unfold g3
  exact Int.dvd_gcd (Int.natCast_dvd_natCast.mpr (Int.dvd_gcd h1 h2)) h3
theorem g3_pos {a b c : Int} (h : c ≠ 0) : 0 < g3 a b c := by
  unfold g3
  exact Int.gcd_pos_of_ne_zero_right _ h
theorem g3_mul (a b c k : Int) : g3 (a * k) (b * k) (c * k) = g3 a b c * k.natAbs := by
  unfold g3
  simp only [Int.gcd, Int.natAbs_natCast, Int.natAbs_mul, Nat.gcd_mul_right]
theorem g3_neg_b (a b c : Int) : g3 a (-b) c = g3 a b c := by
  unfold g3
  rw [Int.gcd_neg]
theorem g3_neg_a (a b c : Int) : g3 (-a) b c = g3 a b c := by
  unfold g3
  rw [Int.neg_gcd]
structure N3 where
  a : Int
  b : Int
  c : Int
deriving DecidableEq
theorem N3.ext' {x y : N3} (h1 : x.a = y.a) (h2 : x.b = y.b) (h3 : x.c = y.c) : x = y := by cases x; cases y; simp_all
structure Ok (x : N3) : Prop where
  c : 0 < x.c
  g : g3 x.a x.b x.c = 1
def dv (a b c : Int) : Int := if c < 0 then -(g3 a b c : Nat) else (g3 a b c : Nat)
def low (a b c : Int) : N3 := ⟨a.fdiv (dv a b c), b.fdiv (dv a b c), c.fdiv (dv a b c)⟩
theorem fdiv_of {a k q : Int} (hk : k ≠ 0) (h : a = k * q) : a.fdiv k = q := by
  subst h
  exact Int.mul_fdiv_cancel_left q hk
theorem dv_ne {a b c : Int} (h : c ≠ 0) : dv a b c ≠ 0 := by
  have := g3_pos (a := a) (b := b) h
  unfold dv
  split <;> omega
theorem dv_dvd (a b c : Int) : dv a b c ∣ a ∧ dv a b c ∣ b ∧ dv a b c ∣ c := by
  obtain ⟨h1, h2, h3⟩ := g3_dvd a b c
  unfold dv
  split
  · exact ⟨Int.neg_dvd.mpr h1, Int.neg_dvd.mpr h2, Int.neg_dvd.mpr h3⟩
  · exact ⟨h1, h2, h3⟩
theorem low_spec (a b : Int) {c : Int} (h : c ≠ 0) : ∃ k : Int, k ≠ 0 ∧ (0 < k ↔ 0 < c) ∧ a = k * (low a b c).a ∧ b = k * (low a b c).b ∧ c = k * (low a b c).c ∧ Ok (low a b c) := by
  have hk := dv_ne (a := a) (b := b) h
  obtain ⟨⟨p, hp⟩, ⟨q, hq⟩, ⟨r, hr⟩⟩ := dv_dvd a b c
  have ep : (low a b c).a = p := fdiv_of hk hp
  have eq : (low a b c).b = q := fdiv_of hk hq
  have er : (low a b c).c = r := fdiv_of hk hr
  have hg := g3_pos (a := a) (b := b) h
  have hs : 0 < dv a b c ↔ 0 < c := by unfold dv; split <;> omega
  have hr0 : 0 < r := by
    have hr' : r ≠ 0 := fun z => h (by rw [hr, z, Int.mul_zero])
    rcases Int.lt_trichotomy 0 (dv a b c) with z | z | z
    · have := hs.mp z
      rw [hr] at this
      rw [Int.mul_comm] at this
      exact Int.pos_of_mul_pos_left this z |> fun t => t
    · exact absurd z.symm hk
    · have : c < 0 := by omega
      rcases Int.lt_trichotomy 0 r with w | w | w
      · exact w
      · exact absurd w.symm hr'
      · have := Int.mul_pos_of_neg_of_neg z w
        rw [← hr] at this
        omega
  refine ⟨dv a b c, hk, hs, by rw [ep]; exact hp, by rw [eq]; exact hq, by rw [er]; exact hr, by rw [er]; exact hr0, ?_⟩
  rw [ep, eq, er]
  have e := g3_mul p q r (dv a b c)
  rw [Int.mul_comm p, Int.mul_comm q, Int.mul_comm r, ← hp, ← hq, ← hr] at e
  have e2 : (dv a b c).natAbs = g3 a b c := by unfold dv; split <;> simp
  rw [e2] at e
  have : g3 p q r * g3 a b c = 1 * g3 a b c := by omega
  exact Nat.eq_of_mul_eq_mul_right hg this
theorem low_ok (a b : Int) {c : Int} (h : c ≠ 0) : Ok (low a b c) := (low_spec a b h).choose_spec.2.2.2.2.2
theorem Ok.same {x y : N3} (hx : Ok x) (hy : Ok y) (h1 : x.a * y.c = y.a * x.c) (h2 : x.b * y.c = y.b * x.c) : x = y := by
  have key : ∀ {u v : N3}, Ok u → Ok v → u.a * v.c = v.a * u.c → u.b * v.c = v.b * u.c → u.c ∣ v.c := fun {u v} hu hv e1 e2 => by
    have hd : u.c.natAbs ∣ g3 (u.a * v.c) (u.b * v.c) (u.c * v.c) := dvd_g3
      (by rw [Int.natAbs_of_nonneg (Int.le_of_lt hu.c), e1]; exact Int.dvd_mul_left _ _) (by rw [Int.natAbs_of_nonneg (Int.le_of_lt hu.c), e2]; exact Int.dvd_mul_left _ _) (by rw [Int.natAbs_of_nonneg (Int.le_of_lt hu.c)]; exact Int.dvd_mul_right _ _)
    rw [g3_mul, hu.g, Nat.one_mul] at hd
    exact Int.natAbs_dvd_natAbs.mp hd
  have hc : x.c = y.c := Int.dvd_antisymm (Int.le_of_lt hx.c) (Int.le_of_lt hy.c) (key hx hy h1 h2) (key hy hx h1.symm h2.symm)
  have hn : y.c ≠ 0 := by have := hy.c; omega
  rw [hc] at h1 h2
  exact N3.ext' (Int.eq_of_mul_eq_mul_right hn h1) (Int.eq_of_mul_eq_mul_right hn h2) hc
theorem low_eq {a b c a' b' c' : Int} (h : c ≠ 0) (h' : c' ≠ 0) (e1 : a * c' = a' * c) (e2 : b * c' = b' * c) : low a b c = low a' b' c' := by
  obtain ⟨k, hk, _, p1, p2, p3, o⟩ := low_spec a b h
  obtain ⟨l, hl, _, q1, q2, q3, o'⟩ := low_spec a' b' h'
  generalize low a b c = x at *
  generalize low a' b' c' = y at *
  subst p1 p2 p3 q1 q2 q3
  have hkl : k * l ≠ 0 := Int.mul_ne_zero hk hl
  refine o.same o' (Int.eq_of_mul_eq_mul_left hkl (by grind)) (Int.eq_of_mul_eq_mul_left hkl (by grind))
theorem Ok.low {x : N3} (h : Ok x) : low x.a x.b x.c = x := by
  have hc : x.c ≠ 0 := by have := h.c; omega
  obtain ⟨k, hk, _, p1, p2, p3, o⟩ := low_spec x.a x.b hc
  refine o.same h ?_ ?_
  · exact Int.eq_of_mul_eq_mul_left hk (by grind)
  · exact Int.eq_of_mul_eq_mul_left hk (by grind)
theorem Ok.eq_low {x : N3} {a b c : Int} (h : Ok x) (hc : c ≠ 0) (e1 : x.a * c = a * x.c) (e2 : x.b * c = b * x.c) : x = NM.low a b c := by
  have q := low_eq (by have := h.c; omega) hc e1 e2
  rw [h.low] at q
  exact q
theorem low_le (a b : Int) {c : Int} (h : c ≠ 0) : (low a b c).a.natAbs ≤ a.natAbs ∧ (low a b c).b.natAbs ≤ b.natAbs ∧ (low a b c).c.natAbs ≤ c.natAbs := by
  obtain ⟨k, hk, _, p1, p2, p3, _⟩ := low_spec a b h
  have hk' : 1 ≤ k.natAbs := by omega
  have le : ∀ {u v : Int}, u = k * v → v.natAbs ≤ u.natAbs := fun {u v} e => by
    rw [e, Int.natAbs_mul]
    exact Nat.le_mul_of_pos_left _ hk'
  exact ⟨le p1, le p2, le p3⟩
structure Bd (n : Nat) (x : N3) : Prop where
  a : Sz n x.a
  b : Sz n x.b
  c : Sz n x.c
theorem Bd.mono {n m : Nat} {x : N3} (h : Bd n x) (l : n ≤ m) : Bd m x := ⟨h.a.mono l, h.b.mono l, h.c.mono l⟩
theorem low_bd {a b c : Int} {n : Nat} (h : c ≠ 0) (ha : Sz n a) (hb : Sz n b) (hc : Sz n c) : Bd n (low a b c) := by
  obtain ⟨h1, h2, h3⟩ := low_le a b h
  exact ⟨ha.le h1, hb.le h2, hc.le h3⟩
def plus (x y : N3) : N3 := low (x.a * y.c + y.a * x.c) (x.b * y.c + y.b * x.c) (x.c * y.c)
def times (d : Int) (x y : N3) : N3 := low (x.a * y.a + d * x.b * y.b) (x.a * y.b + x.b * y.a) (x.c * y.c)
def norm (d : Int) (x : N3) : Int := x.a * x.a - d * x.b * x.b
def contrary (d : Int) (x : N3) : N3 := low (x.c * x.a) (-x.c * x.b) (norm d x)
def mate (x : N3) : N3 := ⟨x.a, -x.b, x.c⟩
def minus (x : N3) : N3 := ⟨-x.a, -x.b, x.c⟩
def nought : N3 := ⟨0, 0, 1⟩
def one : N3 := ⟨1, 0, 1⟩
theorem Ok.cn {x : N3} (h : Ok x) : x.c ≠ 0 := by have := h.c; omega
theorem mulc {x y : N3} (h : Ok x) (g : Ok y) : x.c * y.c ≠ 0 := Int.mul_ne_zero h.cn g.cn
theorem ok_mate {x : N3} (h : Ok x) : Ok (mate x) := ⟨h.c, by show g3 x.a (-x.b) x.c = 1; rw [g3_neg_b]; exact h.g⟩
theorem ok_minus {x : N3} (h : Ok x) : Ok (minus x) := ⟨h.c, by show g3 (-x.a) (-x.b) x.c = 1; rw [g3_neg_a, g3_neg_b]; exact h.g⟩
theorem ok_plus {x y : N3} (h : Ok x) (g : Ok y) : Ok (plus x y) := low_ok _ _ (mulc h g)
theorem ok_times {d : Int} {x y : N3} (h : Ok x) (g : Ok y) : Ok (times d x y) := low_ok _ _ (mulc h g)
theorem ok_nought : Ok nought := ⟨by decide, by decide⟩
theorem ok_one : Ok one := ⟨by decide, by decide⟩
theorem bd_mate {n : Nat} {x : N3} (h : Bd n x) : Bd n (mate x) := ⟨h.a, h.b.neg, h.c⟩
theorem bd_minus {n : Nat} {x : N3} (h : Bd n x) : Bd n (minus x) := ⟨h.a.neg, h.b.neg, h.c⟩
theorem sz_d {d : Int} (h : 2 ≤ d) (h' : d ≤ 30) : Sz 5 d := by unfold Sz; omega
theorem bd_times {n m : Nat} {d : Int} {x y : N3} (hd : Sz 5 d) (hx : Ok x) (hy : Ok y) (h : Bd n x) (g : Bd m y) : Bd (n + m + 6) (times d x y) :=
  low_bd (mulc hx hy) (((h.a.mul g.a).mono (by omega)).add (((hd.mul h.b).mul g.b).mono (by omega))) ((((h.a.mul g.b).mono (by omega : n + m ≤ n + m)).add ((h.b.mul g.a).mono (by omega))).mono (by omega)) ((h.c.mul g.c).mono (by omega))
theorem sz_norm {n : Nat} {d : Int} {x : N3} (hd : Sz 5 d) (h : Bd n x) : Sz (2 * n + 6) (norm d x) := by
  have e1 := h.a.mul h.a
  have e2 := (hd.mul h.b).mul h.b
  exact ((e1.mono (by omega : n + n ≤ 5 + n + n)).sub e2).mono (by omega)
theorem bd_contrary {n : Nat} {d : Int} {x : N3} (hd : Sz 5 d) (hn : norm d x ≠ 0) (h : Bd n x) : Bd (2 * n + 6) (contrary d x) :=
  low_bd hn ((h.c.mul h.a).mono (by omega)) ((h.c.neg.mul h.b).mono (by omega)) (sz_norm hd h)
def IsRoot (d : Int) : Prop := 2 ≤ d ∧ d ≤ 30 ∧ d ≠ 4 ∧ d ≠ 9 ∧ d ≠ 16 ∧ d ≠ 25
theorem no_square {d : Nat} (h : ∀ m : Nat, m * m ≠ d) : ∀ {a b : Nat}, a * a = d * (b * b) → b = 0 := fun {a b} e => by
  rcases Nat.eq_zero_or_pos b with hb | hb
  · exact hb
  exfalso
  obtain ⟨g, p, q, hg, hc, rfl, rfl⟩ := Nat.exists_coprime' (m := a) (n := b) (Nat.gcd_pos_of_pos_right _ hb)
  have e2 : (p * p) * (g * g) = (d * (q * q)) * (g * g) := by grind
  have e3 : p * p = d * (q * q) := Nat.eq_of_mul_eq_mul_right (Nat.mul_pos hg hg) e2
  have hq : q ∣ p * p := ⟨d * q, by rw [e3]; grind⟩
  have hq1 : q ∣ p := hc.symm.dvd_of_dvd_mul_left hq
  have hq2 : q = 1 := by
    have := Nat.dvd_gcd hq1 (Nat.dvd_refl q)
    rw [hc] at this
    exact Nat.dvd_one.mp this
  subst hq2
  exact h p (by rw [e3]; simp)
theorem IsRoot.nat {d : Int} (h : IsRoot d) : ∀ m : Nat, m * m ≠ d.toNat := fun m e => by
  obtain ⟨h1, h2, h3, h4, h5, h6⟩ := h
  have hm : m ≤ 5 := by
    rcases Nat.lt_or_ge 5 m with z | z
    · have := Nat.mul_le_mul z z; omega
    · exact z
  have : m = 0 ∨ m = 1 ∨ m = 2 ∨ m = 3 ∨ m = 4 ∨ m = 5 := by omega
  rcases this with rfl | rfl | rfl | rfl | rfl | rfl <;> omega
theorem IsRoot.nosq {d a b : Int} (h : IsRoot d) (e : a * a = d * b * b) : a = 0 ∧ b = 0 := by
  have hd : d = ((d.toNat : Nat) : Int) := by have := h.1; omega
  have e1 : a.natAbs * a.natAbs = d.toNat * (b.natAbs * b.natAbs) := by
    have e2 := congrArg Int.natAbs e
    rw [Int.natAbs_mul, Int.natAbs_mul, Int.natAbs_mul] at e2
    rw [e2, Nat.mul_assoc]
    congr 1
    omega
  have hb := no_square h.nat e1
  have hb' : b = 0 := by omega
  subst hb'
  have : a * a = 0 := by rw [e]; simp
  exact ⟨by rcases Int.mul_eq_zero.mp this with z | z <;> exact z, rfl⟩
theorem IsRoot.norm {d : Int} {x : N3} (h : IsRoot d) (ok : Ok x) (hx : x ≠ nought) : norm d x ≠ 0 := fun e => by
  have e' : x.a * x.a = d * x.b * x.b := by unfold NM.norm at e; omega
  obtain ⟨h1, h2⟩ := h.nosq e'
  apply hx
  have hg := ok.g
  rw [h1, h2] at hg
  have hc := ok.c
  have : x.c = 1 := by
    unfold g3 at hg
    simp [Int.gcd] at hg
    omega
  exact N3.ext' h1 h2 this
theorem ok_contrary {d : Int} {x : N3} (h : NM.norm d x ≠ 0) : Ok (contrary d x) := low_ok _ _ h
def sg (d a b : Int) : Int :=
  if a = 0 ∧ b = 0 then 0 else if 0 ≤ a ∧ 0 ≤ b then 1 else if a ≤ 0 ∧ b ≤ 0 then -1 else if (if d * b * b < a * a then a else b) > 0 then 1 else -1
theorem sq_le {u v : Int} (hu : 0 ≤ u) (h : u * u ≤ v * v) (hv : 0 ≤ v) : u ≤ v := by
  rcases Int.lt_or_le v u with z | z
  · have := Int.mul_lt_mul_of_pos_left z (show 0 < u by omega)
    have := Int.mul_le_mul_of_nonneg_right (Int.le_of_lt z) hv
    omega
  · exact z
theorem sq_nonneg (u : Int) : 0 ≤ u * u := by
  rcases Int.le_total 0 u with h | h
  · exact Int.mul_nonneg h h
  · exact Int.mul_nonneg_of_nonpos_of_nonpos h h
def P (d a b : Int) : Prop := (0 ≤ a ∧ 0 ≤ b ∧ ¬ (a = 0 ∧ b = 0)) ∨ (0 < a ∧ b < 0 ∧ d * b * b < a * a) ∨ (a < 0 ∧ 0 < b ∧ a * a < d * b * b)
theorem sg_one {d a b : Int} (h : IsRoot d) : sg d a b = 1 ↔ P d a b := by
  unfold sg P
  have key : a * a = d * b * b → a = 0 ∧ b = 0 := h.nosq
  by_cases c1 : d * b * b < a * a
  · simp only [c1, if_true]; split <;> (try split) <;> (try split) <;> (try split) <;> simp <;> omega
  · simp only [c1, if_false]; split <;> (try split) <;> (try split) <;> (try split) <;> simp <;> omega
theorem sg_neg {d a b : Int} (h : IsRoot d) : sg d (-a) (-b) = - sg d a b := by
  unfold sg
  have key : a * a = d * b * b → a = 0 ∧ b = 0 := h.nosq
  have e1 : d * -b * -b = d * b * b := by grind
  have e2 : -a * -a = a * a := by grind
  rw [e1, e2]
  by_cases c1 : d * b * b < a * a
  · simp only [c1, if_true]; split <;> split <;> (try split) <;> (try split) <;> (try split) <;> (try split) <;> (try split) <;> (try split) <;> omega
  · simp only [c1, if_false]; split <;> split <;> (try split) <;> (try split) <;> (try split) <;> (try split) <;> (try split) <;> (try split) <;> omega
theorem sg_zero {d a b : Int} : sg d a b = 0 ↔ a = 0 ∧ b = 0 := by
  unfold sg; split <;> (try split) <;> (try split) <;> (try split) <;> omega
theorem sg_tri (d a b : Int) : sg d a b = 0 ∨ sg d a b = 1 ∨ sg d a b = -1 := by
  unfold sg; split <;> (try split) <;> (try split) <;> (try split) <;> omega
theorem P_tri {d a b : Int} (h : IsRoot d) : (a = 0 ∧ b = 0) ∨ P d a b ∨ P d (-a) (-b) := by
  rcases sg_tri d a b with e | e | e
  · exact .inl (sg_zero.mp e)
  · exact .inr (.inl ((sg_one h).mp e))
  · exact .inr (.inr ((sg_one h).mp (by rw [sg_neg h, e]; rfl)))
theorem P_first {d a b : Int} (h : IsRoot d) (n : d * b * b < a * a) : P d a b ↔ 0 < a := by
  unfold P
  have := sq_nonneg b
  have h0 : 0 ≤ d * b * b := by rw [Int.mul_assoc]; exact Int.mul_nonneg (by have := h.1; omega) this
  have ha : a ≠ 0 := fun z => by subst z; simp at n; omega
  omega
theorem P_second {d a b : Int} (h : IsRoot d) (n : a * a < d * b * b) : P d a b ↔ 0 < b := by
  unfold P
  have h0 := sq_nonneg a
  have hb : b ≠ 0 := fun z => by subst z; simp at n; omega
  omega
theorem add_sign {u v : Int} (h : v * v < u * u) : 0 < u + v ↔ 0 < u := by
  have hu : u ≠ 0 := fun z => by subst z; have := sq_nonneg v; simp at h; omega
  have l : v.natAbs < u.natAbs := by
    rcases Nat.lt_or_ge v.natAbs u.natAbs with z | z
    · exact z
    · have := Nat.mul_le_mul z z
      have e1 : ((u.natAbs * u.natAbs : Nat) : Int) = u * u := Int.natAbs_mul_self
      have e2 : ((v.natAbs * v.natAbs : Nat) : Int) = v * v := Int.natAbs_mul_self
      omega
  omega
theorem mul_pos_iff {u v : Int} (hu : u ≠ 0) (hv : v ≠ 0) : 0 < u * v ↔ (0 < u ↔ 0 < v) := by
  rcases Int.lt_or_gt_of_ne hu with h | h <;> rcases Int.lt_or_gt_of_ne hv with g | g
  · have := Int.mul_pos_of_neg_of_neg h g; omega
  · have := Int.mul_neg_of_neg_of_pos h g; omega
  · have := Int.mul_neg_of_pos_of_neg h g; omega
  · have := Int.mul_pos h g; omega
theorem mul_lt {u v s t : Int} (hu : 0 ≤ u) (h : u < v) (hs : 0 ≤ s) (g : s < t) : u * s < v * t := by
  have e1 : u * s ≤ v * s := Int.mul_le_mul_of_nonneg_right (Int.le_of_lt h) hs
  have e2 : v * s < v * t := Int.mul_lt_mul_of_pos_left g (by omega)
  omega
theorem dsq {d b : Int} (hd : 0 < d) : 0 ≤ d * b * b := by rw [Int.mul_assoc]; exact Int.mul_nonneg (Int.le_of_lt hd) (sq_nonneg b)
theorem P_mul {d a b p q : Int} (h : IsRoot d) (h1 : ¬ (a = 0 ∧ b = 0)) (h2 : ¬ (p = 0 ∧ q = 0)) : P d (a * p + d * b * q) (a * q + b * p) ↔ (P d a b ↔ P d p q) := by
  have hd : 0 < d := by have := h.1; omega
  have n1 : a * a ≠ d * b * b := fun e => h1 (h.nosq e)
  have n2 : p * p ≠ d * q * q := fun e => h2 (h.nosq e)
  have pz : ∀ {u v : Int}, d * v * v < u * u → u ≠ 0 := fun {u v} e z => by subst z; have := dsq (b := v) hd; simp at e; omega
  have qz : ∀ {u v : Int}, u * u < d * v * v → v ≠ 0 := fun {u v} e z => by subst z; have := sq_nonneg u; simp at e; omega
  have id1 : (a * p + d * b * q) * (a * p + d * b * q) - d * (a * q + b * p) * (a * q + b * p) = (a * a - d * b * b) * (p * p - d * q * q) := by grind
  rcases Int.lt_or_gt_of_ne n1 with c1 | c1 <;> rcases Int.lt_or_gt_of_ne n2 with c2 | c2
  · have pp := Int.mul_pos_of_neg_of_neg (show a * a - d * b * b < 0 by omega) (show p * p - d * q * q < 0 by omega)
    rw [P_first h (by omega), P_second h c1, P_second h c2]
    have sq : (a * p) * (a * p) < (d * b * q) * (d * b * q) := by
      have e2 := mul_lt (sq_nonneg a) c1 (sq_nonneg p) c2
      grind
    rw [Int.add_comm, add_sign sq, Int.mul_assoc, mul_pos_iff (by omega) (Int.mul_ne_zero (qz c1) (qz c2)), mul_pos_iff (qz c1) (qz c2)]
    omega
  · have pp := Int.mul_neg_of_neg_of_pos (show a * a - d * b * b < 0 by omega) (show 0 < p * p - d * q * q by omega)
    rw [P_second h (by omega), P_second h c1, P_first h c2]
    have sq : (a * q) * (a * q) < (b * p) * (b * p) := by
      have e2 := mul_lt (sq_nonneg a) c1 (dsq (b := q) hd) c2
      have e3 : d * ((a * q) * (a * q)) < d * ((b * p) * (b * p)) := by grind
      exact Int.lt_of_mul_lt_mul_left e3 (Int.le_of_lt hd)
    rw [Int.add_comm, add_sign sq, mul_pos_iff (qz c1) (pz c2)]
  · have pp := Int.mul_neg_of_pos_of_neg (show 0 < a * a - d * b * b by omega) (show p * p - d * q * q < 0 by omega)
    rw [P_second h (by omega), P_first h c1, P_second h c2]
    have sq : (b * p) * (b * p) < (a * q) * (a * q) := by
      have e2 := mul_lt (dsq (b := b) hd) c1 (sq_nonneg p) c2
      have e3 : d * ((b * p) * (b * p)) < d * ((a * q) * (a * q)) := by grind
      exact Int.lt_of_mul_lt_mul_left e3 (Int.le_of_lt hd)
    rw [add_sign sq, mul_pos_iff (pz c1) (qz c2)]
  · have pp := Int.mul_pos (show 0 < a * a - d * b * b by omega) (show 0 < p * p - d * q * q by omega)
    rw [P_first h (by omega), P_first h c1, P_first h c2]
    have sq : (d * b * q) * (d * b * q) < (a * p) * (a * p) := by
      have e2 := mul_lt (dsq (b := b) hd) c1 (dsq (b := q) hd) c2
      grind
    rw [add_sign sq, mul_pos_iff (pz c1) (pz c2)]
theorem cross {d A x B y : Int} (hd : 0 < d) (hA : 0 ≤ A) (hx : 0 ≤ x) (hB : 0 ≤ B) (hy : 0 ≤ y) (h1 : A * A ≤ d * B * B) (h2 : x * x ≤ d * y * y) : A * x ≤ d * (B * y) := by
  refine sq_le (Int.mul_nonneg hA hx) ?_ (Int.mul_nonneg (Int.le_of_lt hd) (Int.mul_nonneg hB hy))
  have := Int.mul_le_mul h1 h2 (sq_nonneg x) (dsq hd)
  grind
theorem T1 {d A x B y : Int} (hd : 0 < d) (hA : 0 ≤ A) (hx : 0 ≤ x) (hB : 0 ≤ B) (hy : 0 ≤ y) (h1 : A * A < d * B * B) (h2 : x * x < d * y * y) : (A + x) * (A + x) < d * (B + y) * (B + y) := by
  have := cross hd hA hx hB hy (Int.le_of_lt h1) (Int.le_of_lt h2)
  grind
theorem T2 {d A x B y : Int} (hd : 0 < d) (hA : 0 ≤ A) (hx : 0 ≤ x) (hB : 0 ≤ B) (hy : 0 ≤ y) (h1 : d * B * B < A * A) (h2 : d * y * y < x * x) : d * (B + y) * (B + y) < (A + x) * (A + x) := by
  have : d * (B * y) ≤ A * x := by
    refine sq_le (Int.mul_nonneg (Int.le_of_lt hd) (Int.mul_nonneg hB hy)) ?_ (Int.mul_nonneg hA hx)
    have := mul_lt (dsq (b := B) hd) h1 (dsq (b := y) hd) h2
    grind
  grind
theorem Z1 {d x1 y1 x2 y2 : Int} (hd : 0 < d) (h1 : x1 * x1 < d * y1 * y1) (h2 : d * y2 * y2 < x2 * x2) (a1 : 0 ≤ x2) (a2 : x2 ≤ x1) (a3 : 0 ≤ y1) (a4 : y1 ≤ y2) : False := by
  have e1 := Int.mul_le_mul a2 a2 a1 (Int.le_trans a1 a2)
  have e2 := Int.mul_le_mul_of_nonneg_left (Int.mul_le_mul a4 a4 a3 (Int.le_trans a3 a4)) (Int.le_of_lt hd)
  grind
theorem Z2 {d x1 y1 x2 y2 x3 y3 : Int} (hd : 0 < d) (h1 : x1 * x1 < d * y1 * y1) (h2 : d * y2 * y2 < x2 * x2) (h3 : d * y3 * y3 < x3 * x3) (a1 : 0 ≤ x2) (a2 : 0 ≤ y2) (a3 : 0 ≤ x3) (a4 : 0 ≤ y3) (e1 : x1 = x2 + x3) (e2 : y1 = y2 + y3) : False := by
  subst e1 e2
  have := T2 hd a1 a3 a2 a4 h2 h3
  omega
theorem Z3 {d x1 y1 x2 y2 x3 y3 : Int} (hd : 0 < d) (h1 : d * y1 * y1 < x1 * x1) (h2 : x2 * x2 < d * y2 * y2) (h3 : x3 * x3 < d * y3 * y3) (a1 : 0 ≤ x2) (a2 : 0 ≤ y2) (a3 : 0 ≤ x3) (a4 : 0 ≤ y3) (e1 : x1 = x2 + x3) (e2 : y1 = y2 + y3) : False := by
  subst e1 e2
  have := T1 hd a1 a3 a2 a4 h2 h3
  omega
theorem zero3 {d a b p q u v : Int} (h : IsRoot d) (h1 : P d a b) (h2 : P d p q) (h3 : P d u v) (e1 : a + p + u = 0) (e2 : b + q + v = 0) : False := by
  have hd : 0 < d := by have := h.1; omega
  unfold P at h1 h2 h3
  have x1 : ∀ {u c : Int}, u * u < c → -u * -u < c := fun {u c} e => by grind
  have x2 : ∀ {u c : Int}, c < u * u → c < -u * -u := fun {u c} e => by grind
  have x3 : ∀ {u c : Int}, c < d * u * u → c < d * -u * -u := fun {u c} e => by grind
  have x4 : ∀ {u c : Int}, d * u * u < c → d * -u * -u < c := fun {u c} e => by grind
  rcases h1 with ⟨u1, u2, u3⟩ | ⟨u1, u2, u3⟩ | ⟨u1, u2, u3⟩ <;> rcases h2 with ⟨v1, v2, v3⟩ | ⟨v1, v2, v3⟩ | ⟨v1, v2, v3⟩ <;> rcases h3 with ⟨w1, w2, w3⟩ | ⟨w1, w2, w3⟩ | ⟨w1, w2, w3⟩ <;> (try omega)
  all_goals first
    | exact Z1 hd (x1 u3) (x4 v3) (by omega) (by omega) (by omega) (by omega)
    | exact Z1 hd (x1 v3) (x4 u3) (by omega) (by omega) (by omega) (by omega)
    | exact Z1 hd (x1 u3) (x4 w3) (by omega) (by omega) (by omega) (by omega)
    | exact Z1 hd (x1 w3) (x4 u3) (by omega) (by omega) (by omega) (by omega)
    | exact Z1 hd (x1 v3) (x4 w3) (by omega) (by omega) (by omega) (by omega)
    | exact Z1 hd (x1 w3) (x4 v3) (by omega) (by omega) (by omega) (by omega)
    | exact Z2 hd (x1 u3) (x4 v3) (x4 w3) (by omega) (by omega) (by omega) (by omega) (by omega) (by omega)
    | exact Z2 hd (x1 v3) (x4 u3) (x4 w3) (by omega) (by omega) (by omega) (by omega) (by omega) (by omega)
    | exact Z2 hd (x1 w3) (x4 u3) (x4 v3) (by omega) (by omega) (by omega) (by omega) (by omega) (by omega)
    | exact Z3 hd (x4 u3) (x1 v3) (x1 w3) (by omega) (by omega) (by omega) (by omega) (by omega) (by omega)
    | exact Z3 hd (x4 v3) (x1 u3) (x1 w3) (by omega) (by omega) (by omega) (by omega) (by omega) (by omega)
    | exact Z3 hd (x4 w3) (x1 u3) (x1 v3) (by omega) (by omega) (by omega) (by omega) (by omega) (by omega)
theorem P_add {d a b p q : Int} (h : IsRoot d) (h1 : P d a b) (h2 : P d p q) : P d (a + p) (b + q) := by
  rcases P_tri (a := a + p) (b := b + q) h with ⟨e1, e2⟩ | e | e
  · have ea : p = -a := by omega
    have eb : q = -b := by omega
    subst ea eb
    have s1 := (sg_one h).mpr h1
    have s2 := (sg_one h).mpr h2
    rw [sg_neg h, s1] at s2
    omega
  · exact e
  · exact (zero3 h h1 h2 e (by omega) (by omega)).elim
theorem sg_mul {d a b p q : Int} (h : IsRoot d) : sg d (a * p + d * b * q) (a * q + b * p) = sg d a b * sg d p q := by
  by_cases h1 : a = 0 ∧ b = 0
  · obtain ⟨rfl, rfl⟩ := h1
    have e : sg d (0 : Int) 0 = 0 := sg_zero.mpr ⟨rfl, rfl⟩
    rw [e]; simp [sg_zero]
  by_cases h2 : p = 0 ∧ q = 0
  · obtain ⟨rfl, rfl⟩ := h2
    have e : sg d (0 : Int) 0 = 0 := sg_zero.mpr ⟨rfl, rfl⟩
    rw [e]; simp [sg_zero]
  have k := P_mul h h1 h2
  have h3 : ¬ (a * p + d * b * q = 0 ∧ a * q + b * p = 0) := fun ⟨e1, e2⟩ => by
    have id1 : (a * p + d * b * q) * (a * p + d * b * q) - d * (a * q + b * p) * (a * q + b * p) = (a * a - d * b * b) * (p * p - d * q * q) := by grind
    rw [e1, e2] at id1
    simp only [Int.mul_zero, Int.sub_self] at id1
    rcases Int.mul_eq_zero.mp id1.symm with z | z
    · exact h1 (h.nosq (by omega))
    · exact h2 (h.nosq (by omega))
  rw [← sg_one h, ← sg_one h, ← sg_one h] at k
  have t1 := sg_tri d a b
  have t2 := sg_tri d p q
  have t3 := sg_tri d (a * p + d * b * q) (a * q + b * p)
  have z1 : sg d a b ≠ 0 := fun z => h1 (sg_zero.mp z)
  have z2 : sg d p q ≠ 0 := fun z => h2 (sg_zero.mp z)
  have z3 : sg d (a * p + d * b * q) (a * q + b * p) ≠ 0 := fun z => h3 (sg_zero.mp z)
  rcases t1 with e | e | e <;> rcases t2 with f | f | f <;> rcases t3 with g | g | g <;> simp_all
theorem sg_scale {d a b k : Int} (h : IsRoot d) (hk : 0 < k) : sg d (k * a) (k * b) = sg d a b := by
  have e := sg_mul (a := k) (b := 0) (p := a) (q := b) h
  have e1 : sg d k 0 = 1 := by unfold sg; rw [if_neg (by omega), if_pos (by omega)]
  rw [e1] at e
  simpa using e
end NM
set_option linter.all false
set_option maxRecDepth 100000
set_option maxHeartbeats 4000000
namespace NM
structure Rep (x : N3) (A B C : Int) : Prop where
  c : C ≠ 0
  a : x.a * C = A * x.c
  b : x.b * C = B * x.c
section
variable {x y : N3} {A B C A' B' C' d : Int}
theorem rep_self (h : Ok x) : Rep x x.a x.b x.c := ⟨h.cn, rfl, rfl⟩
theorem rep_low {a b c : Int} (h : c ≠ 0) : Rep (low a b c) a b c := by
  obtain ⟨k, hk, _, p1, p2, p3, _⟩ := low_spec a b h
  generalize low a b c = z at *
  exact ⟨h, by grind, by grind⟩
theorem Rep.eq (ox : Ok x) (oy : Ok y) (h : Rep x A B C) (g : Rep y A' B' C') (e1 : A * C' = A' * C) (e2 : B * C' = B' * C) : x = y := by
  have hc : C * C' ≠ 0 := Int.mul_ne_zero h.c g.c
  obtain ⟨_, h1, h2⟩ := h
  obtain ⟨_, g1, g2⟩ := g
  exact ox.same oy (Int.eq_of_mul_eq_mul_right hc (by grind)) (Int.eq_of_mul_eq_mul_right hc (by grind))
theorem Rep.mate (h : Rep x A B C) : Rep (mate x) A (-B) C := ⟨h.c, h.a, by show -x.b * C = -B * x.c; have := h.b; grind⟩
theorem Rep.plus (ox : Ok x) (oy : Ok y) (h : Rep x A B C) (g : Rep y A' B' C') : Rep (plus x y) (A * C' + A' * C) (B * C' + B' * C) (C * C') := by
  have hc := mulc ox oy
  obtain ⟨_, q1, q2⟩ := rep_low (a := x.a * y.c + y.a * x.c) (b := x.b * y.c + y.b * x.c) hc
  obtain ⟨hc1, h1, h2⟩ := h
  obtain ⟨hc2, g1, g2⟩ := g
  change (NM.plus x y).a * (x.c * y.c) = _ * (NM.plus x y).c at q1
  change (NM.plus x y).b * (x.c * y.c) = _ * (NM.plus x y).c at q2
  generalize NM.plus x y = z at *
  exact ⟨Int.mul_ne_zero hc1 hc2, Int.eq_of_mul_eq_mul_right hc (by grind), Int.eq_of_mul_eq_mul_right hc (by grind)⟩
theorem Rep.times (ox : Ok x) (oy : Ok y) (h : Rep x A B C) (g : Rep y A' B' C') : Rep (times d x y) (A * A' + d * B * B') (A * B' + B * A') (C * C') := by
  have hc := mulc ox oy
  obtain ⟨_, q1, q2⟩ := rep_low (a := x.a * y.a + d * x.b * y.b) (b := x.a * y.b + x.b * y.a) hc
  obtain ⟨hc1, h1, h2⟩ := h
  obtain ⟨hc2, g1, g2⟩ := g
  change (NM.times d x y).a * (x.c * y.c) = _ * (NM.times d x y).c at q1
  change (NM.times d x y).b * (x.c * y.c) = _ * (NM.times d x y).c at q2
  generalize NM.times d x y = z at *
  exact ⟨Int.mul_ne_zero hc1 hc2, Int.eq_of_mul_eq_mul_right hc (by grind), Int.eq_of_mul_eq_mul_right hc (by grind)⟩
theorem Rep.norm (h : Rep x A B C) : NM.norm d x * (C * C) = (A * A - d * B * B) * (x.c * x.c) := by
  obtain ⟨_, h1, h2⟩ := h
  unfold NM.norm
  have e1 : x.a * x.a * (C * C) = A * A * (x.c * x.c) := by
    have : (x.a * C) * (x.a * C) = (A * x.c) * (A * x.c) := by rw [h1]
    grind
  have e2 : x.b * x.b * (C * C) = B * B * (x.c * x.c) := by
    have : (x.b * C) * (x.b * C) = (B * x.c) * (B * x.c) := by rw [h2]
    grind
  grind
theorem Rep.contrary (ox : Ok x) (hn : NM.norm d x ≠ 0) (h : Rep x A B C) : Rep (contrary d x) (C * A) (-C * B) (A * A - d * B * B) := by
  have hN := h.norm (d := d)
  have hcc : x.c * x.c ≠ 0 := Int.mul_ne_zero ox.cn ox.cn
  have hN0 : A * A - d * B * B ≠ 0 := fun z => by
    rw [z, Int.zero_mul] at hN
    rcases Int.mul_eq_zero.mp hN with w | w
    · exact hn w
    · rcases Int.mul_eq_zero.mp w with w | w <;> exact h.c w
  obtain ⟨_, q1, q2⟩ := rep_low (a := x.c * x.a) (b := -x.c * x.b) hn
  change (NM.contrary d x).a * NM.norm d x = _ * (NM.contrary d x).c at q1
  change (NM.contrary d x).b * NM.norm d x = _ * (NM.contrary d x).c at q2
  obtain ⟨hc1, h1, h2⟩ := h
  generalize NM.contrary d x = z at *
  generalize NM.norm d x = n at *
  generalize A * A - d * B * B = m at *
  refine ⟨hN0, ?_, ?_⟩
  · have e : z.a * m * (x.c * x.c) = C * A * z.c * (x.c * x.c) := by grind
    exact Int.eq_of_mul_eq_mul_right hcc e
  · have e : z.b * m * (x.c * x.c) = -C * B * z.c * (x.c * x.c) := by grind
    exact Int.eq_of_mul_eq_mul_right hcc e
theorem Rep.sg (hd : IsRoot d) (ox : Ok x) (h : Rep x A B C) (hC : 0 < C) : sg d x.a x.b = NM.sg d A B := by
  have e1 := sg_scale (a := x.a) (b := x.b) hd hC
  have e2 := sg_scale (a := A) (b := B) hd ox.c
  rw [show C * x.a = x.c * A by have := h.a; grind, show C * x.b = x.c * B by have := h.b; grind] at e1
  rw [← e1, e2]
end
end NM
set_option linter.all false
set_option maxRecDepth 100000
set_option maxHeartbeats 4000000
namespace NM
def lean (d : Int) (x : N3) : N3 := times d (mate x) (contrary d x)
section
variable {d : Int} {x y z : N3}
theorem sg_lowP {a b c : Int} (h : IsRoot d) (hc : 0 < c) : sg d (low a b c).a (low a b c).b = sg d a b := (rep_low (show c ≠ 0 by omega)).sg h (low_ok _ _ (by omega)) hc
theorem sg_timesP (h : IsRoot d) (ox : Ok x) (oy : Ok y) : sg d (times d x y).a (times d x y).b = sg d x.a x.b * sg d y.a y.b := by
  unfold times
  rw [sg_lowP h (Int.mul_pos ox.c oy.c), sg_mul h]
theorem sg_one1 : sg d one.a one.b = 1 := by
  unfold one sg
  rw [if_neg (by simp), if_pos (by simp)]
theorem pos_norm (h : IsRoot d) (ox : Ok x) (hx : sg d x.a x.b = 1) : norm d x ≠ 0 := h.norm ox (fun e => by subst e; have : sg d nought.a nought.b = 0 := sg_zero.mpr ⟨rfl, rfl⟩; omega)
theorem times_contrary (ox : Ok x) (hn : norm d x ≠ 0) : times d x (contrary d x) = one := by
  have oc := ok_contrary hn
  exact ((rep_self ox).times ox oc ((rep_self ox).contrary ox hn)).eq (ok_times ox oc) ok_one (rep_self ok_one) (by simp only [one]; grind) (by simp only [one]; grind)
theorem sg_contrary (h : IsRoot d) (ox : Ok x) (hx : sg d x.a x.b = 1) : sg d (contrary d x).a (contrary d x).b = 1 := by
  have hn := pos_norm h ox hx
  have e := sg_timesP h ox (ok_contrary hn)
  rw [times_contrary ox hn, sg_one1, hx] at e
  omega
theorem norm_mate : norm d (mate y) = norm d y := by unfold norm mate; grind
def W (x y : N3) : Int := x.b * y.a - x.a * y.b
theorem Rep.neg {A B C : Int} (h : Rep x A B C) : Rep x (-A) (-B) (-C) := ⟨by have := h.c; omega, by rw [Int.mul_neg, Int.neg_mul, h.a], by rw [Int.mul_neg, Int.neg_mul, h.b]⟩
structure Comb (z x y : N3) : Prop where
  ex : ∃ p q C : Int, 0 < p ∧ 0 < q ∧ 0 < C ∧ Rep z (p * x.a + q * y.a) (p * x.b + q * y.b) C
theorem Comb.pos (hd : IsRoot d) (oz : Ok z) (h : Comb z x y) (hx : sg d x.a x.b = 1) (hy : sg d y.a y.b = 1) : sg d z.a z.b = 1 := by
  obtain ⟨p, q, C, hp, hq, hC, r⟩ := h.ex
  rw [r.sg hd oz hC, sg_one hd]
  refine P_add hd ?_ ?_
  · rw [← sg_one hd, sg_scale hd hp]; exact hx
  · rw [← sg_one hd, sg_scale hd hq]; exact hy
end
end NM
set_option linter.all false
set_option maxRecDepth 100000
set_option maxHeartbeats 4000000
namespace NM
def Ht (d : Int) (n : Nat) (x : N3) : Prop := ∃ a b e f : Int, Sz n a ∧ Sz n b ∧ Sz n e ∧ Sz n f ∧ e * e - d * f * f ≠ 0 ∧ x.a * e + d * x.b * f = a * x.c ∧ x.a * f + x.b * e = b * x.c
section
variable {d : Int} {n m : Nat} {x y : N3}
theorem Ht.mono (h : Ht d n x) (l : n ≤ m) : Ht d m x := by
  obtain ⟨a, b, e, f, h1, h2, h3, h4, r⟩ := h
  exact ⟨a, b, e, f, h1.mono l, h2.mono l, h3.mono l, h4.mono l, r⟩
theorem sz0 : Sz n 0 := Sz.of (by simp; exact Nat.pos_of_ne_zero (by simp))
theorem ht_bd (ox : Ok x) (h : Bd n x) : Ht d n x := by
  refine ⟨x.a, x.b, x.c, 0, h.a, h.b, h.c, sz0, ?_, by grind, by grind⟩
  have := Int.mul_ne_zero ox.cn ox.cn
  grind
theorem ht_contrary (ox : Ok x) (hn : norm d x ≠ 0) (h : Ht d n x) : Ht d n (contrary d x) := by
  obtain ⟨a, b, e, f, h1, h2, h3, h4, hN, q1, q2⟩ := h
  have r := (rep_self ox).contrary (d := d) ox hn
  have oc := ox.cn
  refine ⟨e, f, a, b, h3, h4, h1, h2, ?_, ?_, ?_⟩
  · intro z
    have : (x.a * x.a - d * x.b * x.b) * (e * e - d * f * f) = (a * a - d * b * b) * (x.c * x.c) := by
      have e1 : (a * x.c) * (a * x.c) - d * ((b * x.c) * (b * x.c)) = (x.a * x.a - d * x.b * x.b) * (e * e - d * f * f) := by rw [← q1, ← q2]; grind
      grind
    rw [z, Int.zero_mul] at this
    rcases Int.mul_eq_zero.mp this with w | w
    · exact hn w
    · exact hN w
  · have hc := r.c
    generalize contrary d x = y at *
    obtain ⟨_, r1, r2⟩ := r
    have hk : (x.a * x.a - d * x.b * x.b) * x.c ≠ 0 := Int.mul_ne_zero hc oc
    apply Int.eq_of_mul_eq_mul_right hk
    have s1 : (y.a * a + d * y.b * b) * ((x.a * x.a - d * x.b * x.b) * x.c) = (y.a * (x.a * x.a - d * x.b * x.b)) * (a * x.c) + d * (y.b * (x.a * x.a - d * x.b * x.b)) * (b * x.c) := by grind
    rw [s1, r1, r2, ← q1, ← q2]
    grind
  · have hc := r.c
    generalize contrary d x = y at *
    obtain ⟨_, r1, r2⟩ := r
    have hk : (x.a * x.a - d * x.b * x.b) * x.c ≠ 0 := Int.mul_ne_zero hc oc
    apply Int.eq_of_mul_eq_mul_right hk
    have s1 : (y.a * b + y.b * a) * ((x.a * x.a - d * x.b * x.b) * x.c) = (y.a * (x.a * x.a - d * x.b * x.b)) * (b * x.c) + (y.b * (x.a * x.a - d * x.b * x.b)) * (a * x.c) := by grind
    rw [s1, r1, r2, ← q1, ← q2]
    grind
theorem nm_mul (d e f e' f' : Int) : (e * e' + d * f * f') * (e * e' + d * f * f') - d * (e * f' + f * e') * (e * f' + f * e') = (e * e - d * f * f) * (e' * e' - d * f' * f') := by grind
theorem szm (hd : Sz 5 d) {p q r s : Int} (hp : Sz n p) (hq : Sz n q) (hr : Sz m r) (hs : Sz m s) : Sz (n + m + 6) (p * r + d * q * s) := by
  have e1 := (hp.mul hr).mono (m := n + m + 5) (by omega)
  have e2 := ((hd.mul hq).mul hs).mono (m := n + m + 5) (by omega)
  exact e1.add e2
theorem szx {p q r s : Int} (hp : Sz n p) (hq : Sz n q) (hr : Sz m r) (hs : Sz m s) : Sz (n + m + 6) (p * s + q * r) := ((hp.mul hs).add (hq.mul hr)).mono (by omega)
theorem ht_plus (hd : Sz 5 d) (ox : Ok x) (oy : Ok y) (h : Ht d n x) (g : Ht d m y) : Ht d (n + m + 7) (plus x y) := by
  obtain ⟨a, b, e, f, h1, h2, h3, h4, hN, p1, p2⟩ := h
  obtain ⟨a', b', e', f', g1, g2, g3, g4, gN, q1, q2⟩ := g
  have hc := mulc ox oy
  obtain ⟨_, r1, r2⟩ := rep_low (a := x.a * y.c + y.a * x.c) (b := x.b * y.c + y.b * x.c) hc
  change (plus x y).a * (x.c * y.c) = _ * (plus x y).c at r1
  change (plus x y).b * (x.c * y.c) = _ * (plus x y).c at r2
  generalize plus x y = z at *
  refine ⟨(a * e' + d * b * f') + (a' * e + d * b' * f), (a * f' + b * e') + (a' * f + b' * e), e * e' + d * f * f', e * f' + f * e', (szm hd h1 h2 g3 g4).add ((szm hd g1 g2 h3 h4).mono (by omega)), (szx h1 h2 g3 g4).add ((szx g1 g2 h3 h4).mono (by omega)), (szm hd h3 h4 g3 g4).mono (by omega), (szx h3 h4 g3 g4).mono (by omega), ?_, ?_, ?_⟩
  · rw [nm_mul]; exact Int.mul_ne_zero hN gN
  · apply Int.eq_of_mul_eq_mul_right hc
    have s1 : (z.a * (e * e' + d * f * f') + d * z.b * (e * f' + f * e')) * (x.c * y.c) = (z.a * (x.c * y.c)) * (e * e' + d * f * f') + d * (z.b * (x.c * y.c)) * (e * f' + f * e') := by grind
    have s2 : (a * e' + d * b * f' + (a' * e + d * b' * f)) * z.c * (x.c * y.c) = ((a * x.c) * e' * y.c + d * (b * x.c) * f' * y.c + ((a' * y.c) * e * x.c + d * (b' * y.c) * f * x.c)) * z.c := by grind
    rw [s1, s2, r1, r2, ← p1, ← p2, ← q1, ← q2]
    grind
  · apply Int.eq_of_mul_eq_mul_right hc
    have s1 : (z.a * (e * f' + f * e') + z.b * (e * e' + d * f * f')) * (x.c * y.c) = (z.a * (x.c * y.c)) * (e * f' + f * e') + (z.b * (x.c * y.c)) * (e * e' + d * f * f') := by grind
    have s2 : (a * f' + b * e' + (a' * f + b' * e)) * z.c * (x.c * y.c) = ((a * x.c) * f' * y.c + (b * x.c) * e' * y.c + ((a' * y.c) * f * x.c + (b' * y.c) * e * x.c)) * z.c := by grind
    rw [s1, s2, r1, r2, ← p1, ← p2, ← q1, ← q2]
    grind
theorem ht_times (hd : Sz 5 d) (ox : Ok x) (oy : Ok y) (h : Ht d n x) (g : Ht d m y) : Ht d (n + m + 6) (times d x y) := by
  obtain ⟨a, b, e, f, h1, h2, h3, h4, hN, p1, p2⟩ := h
  obtain ⟨a', b', e', f', g1, g2, g3, g4, gN, q1, q2⟩ := g
  have hc := mulc ox oy
  obtain ⟨_, r1, r2⟩ := rep_low (a := x.a * y.a + d * x.b * y.b) (b := x.a * y.b + x.b * y.a) hc
  change (times d x y).a * (x.c * y.c) = _ * (times d x y).c at r1
  change (times d x y).b * (x.c * y.c) = _ * (times d x y).c at r2
  generalize times d x y = z at *
  refine ⟨a * a' + d * b * b', a * b' + b * a', e * e' + d * f * f', e * f' + f * e', szm hd h1 h2 g1 g2, szx h1 h2 g1 g2, szm hd h3 h4 g3 g4, szx h3 h4 g3 g4, ?_, ?_, ?_⟩
  · rw [nm_mul]; exact Int.mul_ne_zero hN gN
  · apply Int.eq_of_mul_eq_mul_right hc
    have s1 : (z.a * (e * e' + d * f * f') + d * z.b * (e * f' + f * e')) * (x.c * y.c) = (z.a * (x.c * y.c)) * (e * e' + d * f * f') + d * (z.b * (x.c * y.c)) * (e * f' + f * e') := by grind
    have s2 : (a * a' + d * b * b') * z.c * (x.c * y.c) = ((a * x.c) * (a' * y.c) + d * (b * x.c) * (b' * y.c)) * z.c := by grind
    rw [s1, s2, r1, r2, ← p1, ← p2, ← q1, ← q2]
    grind
  · apply Int.eq_of_mul_eq_mul_right hc
    have s1 : (z.a * (e * f' + f * e') + z.b * (e * e' + d * f * f')) * (x.c * y.c) = (z.a * (x.c * y.c)) * (e * f' + f * e') + (z.b * (x.c * y.c)) * (e * e' + d * f * f') := by grind
    have s2 : (a * b' + b * a') * z.c * (x.c * y.c) = ((a * x.c) * (b' * y.c) + (b * x.c) * (a' * y.c)) * z.c := by grind
    rw [s1, s2, r1, r2, ← p1, ← p2, ← q1, ← q2]
    grind
theorem bd_ht (hd : Sz 5 d) (ox : Ok x) (h : Ht d n x) : Bd (2 * n + 6) x := by
  obtain ⟨a, b, e, f, h1, h2, h3, h4, hN, p1, p2⟩ := h
  have ex : x = NM.low (a * e - d * b * f) (b * e - a * f) (e * e - d * f * f) := by
    refine ox.eq_low hN ?_ ?_
    · have s1 : (a * e - d * b * f) * x.c = (a * x.c) * e - d * (b * x.c) * f := by grind
      rw [s1, ← p1, ← p2]; grind
    · have s1 : (b * e - a * f) * x.c = (b * x.c) * e - (a * x.c) * f := by grind
      rw [s1, ← p1, ← p2]; grind
  have sub : ∀ {p q r s : Int}, Sz n p → Sz n q → Sz n r → Sz n s → Sz (2 * n + 6) (p * r - d * q * s) := fun hp hq hr hs => by
    have e1 := (hp.mul hr).mono (m := 2 * n + 5) (by omega)
    have e2 := ((hd.mul hq).mul hs).mono (m := 2 * n + 5) (by omega)
    exact e1.sub e2
  rw [ex]
  exact low_bd hN (sub h1 h2 h3 h4) (((h2.mul h3).sub ((h1.mul h4).mono (by omega))).mono (by omega)) (sub h3 h4 h3 h4)
theorem mate_plus (ox : Ok x) (oy : Ok y) : mate (plus x y) = plus (mate x) (mate y) :=
  Rep.eq (ok_mate (ok_plus ox oy)) (ok_plus (ok_mate ox) (ok_mate oy)) ((rep_self ox).plus ox oy (rep_self oy)).mate ((rep_self ox).mate.plus (ok_mate ox) (ok_mate oy) (rep_self oy).mate) (by grind) (by grind)
theorem mate_times (ox : Ok x) (oy : Ok y) : mate (times d x y) = times d (mate x) (mate y) :=
  Rep.eq (ok_mate (ok_times ox oy)) (ok_times (ok_mate ox) (ok_mate oy)) ((rep_self ox).times ox oy (rep_self oy)).mate ((rep_self ox).mate.times (ok_mate ox) (ok_mate oy) (rep_self oy).mate) (by grind) (by grind)
theorem mate_contrary (ox : Ok x) (hn : norm d x ≠ 0) : mate (contrary d x) = contrary d (mate x) := by
  have hn' : norm d (mate x) ≠ 0 := by rw [norm_mate]; exact hn
  exact Rep.eq (ok_mate (ok_contrary hn)) (ok_contrary hn') ((rep_self ox).contrary ox hn).mate ((rep_self ox).mate.contrary (ok_mate ox) hn') (by grind) (by grind)
theorem mate_frac {u v : Int} : mate (low v 0 u) = low v 0 u := by
  unfold mate low
  simp
theorem pos_plus (h : IsRoot d) (ox : Ok x) (oy : Ok y) (hx : x = nought ∨ sg d x.a x.b = 1) (hy : sg d y.a y.b = 1) : sg d (plus x y).a (plus x y).b = 1 := by
  have e : sg d (plus x y).a (plus x y).b = sg d (x.a * y.c + y.a * x.c) (x.b * y.c + y.b * x.c) := sg_lowP h (Int.mul_pos ox.c oy.c)
  rw [e]
  rcases hx with rfl | hx
  · have e1 : nought.a * y.c + y.a * nought.c = y.a := by show 0 * y.c + y.a * 1 = y.a; omega
    have e2 : nought.b * y.c + y.b * nought.c = y.b := by show 0 * y.c + y.b * 1 = y.b; omega
    rw [e1, e2]; exact hy
  · have p1 : P d (y.c * x.a) (y.c * x.b) := (sg_one h).mp (by rw [sg_scale h oy.c]; exact hx)
    have p2 : P d (x.c * y.a) (x.c * y.b) := (sg_one h).mp (by rw [sg_scale h ox.c]; exact hy)
    have := (sg_one h).mpr (P_add h p1 p2)
    have e1 : x.a * y.c + y.a * x.c = y.c * x.a + x.c * y.a := by grind
    have e2 : x.b * y.c + y.b * x.c = y.c * x.b + x.c * y.b := by grind
    rw [e1, e2]; exact this
end
end NM
set_option Elab.async false
set_option linter.all false
set_option maxRecDepth 100000
set_option maxHeartbeats 4000000
namespace L2.DL
open PySem PySem.Spec PyProof.Rows
inductive D where
  | v (x : PyData)
  | m (a : Addr)
  | s (ns : List Int)
abbrev Mu := Addr → Option (List PyData)
abbrev Rho := List (Option D)
def muSet (μ : Mu) (a : Addr) (ds : List PyData) : Mu := fun b => if b = a then some ds else μ b
theorem muSet_same {μ : Mu} {a : Addr} {ds} : muSet μ a ds a = some ds := by unfold muSet; rw [if_pos rfl]
theorem muSet_ne {μ : Mu} {a b : Addr} {ds} (h : b ≠ a) : muSet μ a ds b = μ b := by unfold muSet; rw [if_neg h]
theorem muSet_set {μ : Mu} {a : Addr} {ds es} : muSet (muSet μ a ds) a es = muSet μ a es := by
  funext b; unfold muSet; split <;> rfl
mutual
inductive Rp (K : PySem.W.Frag) (μ : Mu) (H : Hp) : PyData → V → Prop
  | none : Rp K μ H .none .non
  | bool (b : Bool) : Rp K μ H (.bool b) (.bl b)
  | int (i : Int) : Rp K μ H (.int i) (.int i)
  | str (x : Str) : Rp K μ H (.str x) (.str x)
  | list {a : Addr} {xs : List V} {ds : List PyData} : H a = some (.lst xs) → μ a = Option.none → RpL K μ H ds xs → Rp K μ H (.list ds) (.ref a)
  | tuple {a : Addr} {xs : List V} {ds : List PyData} : SqT K H a xs → RpL K μ H ds xs → Rp K μ H (.tuple ds) (.ref a)
inductive RpL (K : PySem.W.Frag) (μ : Mu) (H : Hp) : List PyData → List V → Prop
  | nil : RpL K μ H [] []
  | cons {d : PyData} {v : V} {ds : List PyData} {vs : List V} : Rp K μ H d v → RpL K μ H ds vs → RpL K μ H (d :: ds) (v :: vs)
end
def RpD (K : PySem.W.Frag) (μ : Mu) (H : Hp) : D → V → Prop
  | .v x, u => Rp K μ H x u
  | .m a, u => u = .ref a ∧ ∃ ds, μ a = some ds
  | .s ns, u => ∃ a, u = .ref a ∧ SqL K H a (ns.map V.int) ∧ μ a = none
def MuOk (K : PySem.W.Frag) (μ : Mu) (H : Hp) : Prop := ∀ a ds, μ a = some ds → ∃ xs, H a = some (.lst xs) ∧ RpL K μ H ds xs
def RhoOk (K : PySem.W.Frag) (μ : Mu) (H : Hp) (ρ : Rho) (σ : St) : Prop :=
  ρ.length = σ.length ∧ ∀ (i : Nat) (d : D), ρ[i]? = some (some d) → ∃ u, σ[i]? = some (some u) ∧ RpD K μ H d u
structure St0 (K : PySem.W.Frag) (H : Hp) (ρ : Rho) (μ : Mu) (σ : St) : Prop where
  mu : MuOk K μ H
  rho : RhoOk K μ H ρ σ
structure Ext (K : PySem.W.Frag) (μ : Mu) (H : Hp) (μ' : Mu) (H' : Hp) : Prop where
  keep : ∀ b o, H b = some o → μ b = none → H' b = some o
  dom : ∀ b ds, μ b = some ds → ∃ es, μ' b = some es
  fresh : ∀ b, μ b = none → (H b ≠ none ∨ K.lookup b ≠ none) → μ' b = none
section
variable {K : PySem.W.Frag} {μ μ1 μ2 : Mu} {H H1 H2 : Hp}
theorem Ext.refl : Ext K μ H μ H := ⟨fun _ _ h _ => h, fun _ ds h => ⟨ds, h⟩, fun _ h _ => h⟩
theorem Ext.trans (a : Ext K μ H μ1 H1) (b : Ext K μ1 H1 μ2 H2) : Ext K μ H μ2 H2 where
  keep := fun c o h n => b.keep c o (a.keep c o h n) (a.fresh c n (.inl (by rw [h]; exact fun z => nomatch z)))
  dom := fun c ds h => let ⟨es, q⟩ := a.dom c ds h; b.dom c es q
  fresh := fun c n h => by
    refine b.fresh c (a.fresh c n h) ?_
    rcases h with h | h
    · cases q : H c with
      | none => exact absurd q h
      | some o => exact .inl (by rw [a.keep c o q n]; exact fun z => nomatch z)
    · exact .inr h
theorem Ext.of_same (s : Same H H1) : Ext K μ H μ H1 := ⟨fun b o h _ => s b o h, fun _ ds h => ⟨ds, h⟩, fun _ h _ => h⟩
theorem MuOk.not {a : Addr} {o : HO} (ok : MuOk K μ H) (h : H a = some o) (n : ∀ xs, o ≠ .lst xs) : μ a = none := by
  cases q : μ a with
  | none => rfl
  | some ds =>
    obtain ⟨ys, e, _⟩ := ok a ds q
    rw [h] at e
    exact absurd (Option.some.inj e) (n ys)
theorem MuOk.free {a : Addr} (ok : MuOk K μ H) (h : H a = none) : μ a = none := by
  cases q : μ a with
  | none => rfl
  | some ds =>
    obtain ⟨ys, e, _⟩ := ok a ds q
    rw [h] at e; cases e
theorem sqT_ext {a : Addr} {xs : List V} (ok : MuOk K μ H) (e : Ext K μ H μ1 H1) (h : SqT K H a xs) : SqT K H1 a xs := by
  rcases h with (h | ⟨o, h⟩) | h
  · exact .inl (.inl (e.keep _ _ h (ok.not h fun _ z => nomatch z)))
  · exact .inl (.inr ⟨o, e.keep _ _ h (ok.not h fun _ z => nomatch z)⟩)
  · exact .inr h
theorem sqL_ext {a : Addr} {xs : List V} (e : Ext K μ H μ1 H1) (h : SqL K H a xs) (n : μ a = none) : SqL K H1 a xs ∧ μ1 a = none := by
  rcases h with (h | ⟨o, h⟩) | h
  · exact ⟨.inl (.inl (e.keep _ _ h n)), e.fresh _ n (.inl (by rw [h]; exact fun z => nomatch z))⟩
  · exact ⟨.inl (.inr ⟨o, e.keep _ _ h n⟩), e.fresh _ n (.inl (by rw [h]; exact fun z => nomatch z))⟩
  · obtain ⟨o, its, k, hk, r⟩ := id h
    exact ⟨.inr h, e.fresh _ n (.inr (by rw [hk]; exact fun z => nomatch z))⟩
mutual
theorem Rp.ext {d : PyData} {u : V} (ok : MuOk K μ H) (e : Ext K μ H μ1 H1) : Rp K μ H d u → Rp K μ1 H1 d u
  | .none => .none
  | .bool b => .bool b
  | .int i => .int i
  | .str x => .str x
  | .list h n r => .list (e.keep _ _ h n) (e.fresh _ n (.inl (by rw [h]; exact fun z => nomatch z))) (RpL.ext ok e r)
  | .tuple h r => .tuple (sqT_ext ok e h) (RpL.ext ok e r)
theorem RpL.ext {ds : List PyData} {us : List V} (ok : MuOk K μ H) (e : Ext K μ H μ1 H1) : RpL K μ H ds us → RpL K μ1 H1 ds us
  | .nil => .nil
  | .cons h r => .cons (Rp.ext ok e h) (RpL.ext ok e r)
end
theorem RpD.ext {d : D} {u : V} (ok : MuOk K μ H) (e : Ext K μ H μ1 H1) (r : RpD K μ H d u) : RpD K μ1 H1 d u := by
  cases d with
  | v x => exact Rp.ext ok e r
  | m a => obtain ⟨h, ds, q⟩ := r; exact ⟨h, e.dom a ds q⟩
  | s ns => obtain ⟨a, h, q, n⟩ := r; exact ⟨a, h, (sqL_ext e q n).1, (sqL_ext e q n).2⟩
theorem RhoOk.ext {ρ : Rho} {σ : St} (ok : MuOk K μ H) (e : Ext K μ H μ1 H1) (r : RhoOk K μ H ρ σ) : RhoOk K μ1 H1 ρ σ :=
  ⟨r.1, fun i d h => let ⟨u, h1, h2⟩ := r.2 i d h; ⟨u, h1, h2.ext ok e⟩⟩
theorem RpL.length {ds : List PyData} {us : List V} : RpL K μ H ds us → ds.length = us.length
  | .nil => rfl
  | .cons _ r => congrArg (· + 1) (RpL.length r)
theorem RpL.get {ds : List PyData} {us : List V} : ∀ {i : Nat} {d : PyData}, RpL K μ H ds us → ds[i]? = some d → ∃ u, us[i]? = some u ∧ Rp K μ H d u
  | _, _, .nil, h => by simp at h
  | 0, _, .cons r _, h => by simp at h; subst h; exact ⟨_, rfl, r⟩
  | i + 1, d, .cons _ t, h => by
    obtain ⟨u, h1, h2⟩ := RpL.get (i := i) (d := d) t (by simpa using h)
    exact ⟨u, by simpa using h1, h2⟩
theorem RpL.append {ds es : List PyData} {us ws : List V} : RpL K μ H ds us → RpL K μ H es ws → RpL K μ H (ds ++ es) (us ++ ws)
  | .nil, s => s
  | .cons r t, s => .cons r (RpL.append t s)
theorem RpL.take {ds : List PyData} {us : List V} : ∀ (n : Nat), RpL K μ H ds us → RpL K μ H (ds.take n) (us.take n)
  | 0, _ => by simp; exact .nil
  | _ + 1, .nil => by simp; exact .nil
  | n + 1, .cons r t => .cons r (RpL.take n t)
theorem RpL.drop {ds : List PyData} {us : List V} : ∀ (n : Nat), RpL K μ H ds us → RpL K μ H (ds.drop n) (us.drop n)
  | 0, r => r
  | _ + 1, .nil => by simp; exact .nil
  | n + 1, .cons _ t => RpL.drop n t
theorem RpL.reverse {ds : List PyData} {us : List V} : RpL K μ H ds us → RpL K μ H ds.reverse us.reverse
  | .nil => .nil
  | .cons r t => by rw [List.reverse_cons, List.reverse_cons]; exact (RpL.reverse t).append (.cons r .nil)
theorem RpL.set {ds : List PyData} {us : List V} {d : PyData} {u : V} (q : Rp K μ H d u) : ∀ (i : Nat), RpL K μ H ds us → RpL K μ H (ds.set i d) (us.set i u)
  | _, .nil => .nil
  | 0, .cons _ t => .cons q t
  | i + 1, .cons r t => .cons r (RpL.set q i t)
theorem atI_rp {ds : List PyData} {us : List V} {i : Int} {d : PyData} (r : RpL K μ H ds us) (h : atI ds i = some d) : ∃ u, atI us i = some u ∧ Rp K μ H d u := by
  unfold atI at h ⊢
  rw [← r.length]
  cases q : ixN ds.length i with
  | none => rw [q] at h; cases h
  | some j =>
    rw [q] at h
    exact r.get h
abbrev DK := D → Mu → Prop
abbrev DTE := Rho → Mu → DK → Prop
abbrev DTT := Rho → Mu → (Bool → Mu → Prop) → Prop
abbrev DTA := Rho → Mu → (List D → Mu → Prop) → Prop
structure DEnds where
  nx : Rho → Mu → Prop
  rt : DK
  bk : Rho → Mu → Prop := fun _ _ => False
  ct : Rho → Mu → Prop := fun _ _ => False
abbrev DTS := DEnds → Rho → Mu → Prop
inductive RpDs (K : PySem.W.Frag) (μ : Mu) (H : Hp) : List D → List V → Prop
  | nil : RpDs K μ H [] []
  | cons {d : D} {u : V} {ds : List D} {us : List V} : RpD K μ H d u → RpDs K μ H ds us → RpDs K μ H (d :: ds) (u :: us)
theorem RpDs.ext {ds : List D} {us : List V} (ok : MuOk K μ H) (e : Ext K μ H μ1 H1) : RpDs K μ H ds us → RpDs K μ1 H1 ds us
  | .nil => .nil
  | .cons h r => .cons (h.ext ok e) (RpDs.ext ok e r)
theorem RpDs.length {ds : List D} {us : List V} : RpDs K μ H ds us → ds.length = us.length
  | .nil => rfl
  | .cons _ r => congrArg (· + 1) (RpDs.length r)
end
def LiftE (K : PySem.W.Frag) (t : TE) (td : DTE) : Prop := ∀ (σ : St) (H : Hp) (ρ : Rho) (μ : Mu) (Qd : DK) (Q : VK), St0 K H ρ μ σ → td ρ μ Qd →
  (∀ d u μ' H', Ext K μ H μ' H' → St0 K H' ρ μ' σ → RpD K μ' H' d u → Qd d μ' → Q u H') → t σ H Q
def LiftT (K : PySem.W.Frag) (t : TT) (td : DTT) : Prop := ∀ (σ : St) (H : Hp) (ρ : Rho) (μ : Mu) (Qd : Bool → Mu → Prop) (Q : Bool → Hp → Prop), St0 K H ρ μ σ → td ρ μ Qd →
  (∀ b μ' H', Ext K μ H μ' H' → St0 K H' ρ μ' σ → Qd b μ' → Q b H') → t σ H Q
def LiftA (K : PySem.W.Frag) (n : Nat) (t : TA) (td : DTA) : Prop := ∀ (σ : St) (H : Hp) (ρ : Rho) (μ : Mu) (Qd : List D → Mu → Prop) (Q : List V → Hp → Prop), St0 K H ρ μ σ → td ρ μ Qd →
  (∀ ds us μ' H', Ext K μ H μ' H' → St0 K H' ρ μ' σ → RpDs K μ' H' ds us → ds.length = n → Qd ds μ' → Q us H') → t σ H Q
def LiftS (K : PySem.W.Frag) (t : TS) (td : DTS) : Prop := ∀ (σ : St) (H : Hp) (ρ : Rho) (μ : Mu) (Dd : DEnds) (De : Ends), St0 K H ρ μ σ → td Dd ρ μ →
  (∀ σ' ρ' μ' H', Ext K μ H μ' H' → St0 K H' ρ' μ' σ' → Dd.nx ρ' μ' → De.nx σ' H') →
  (∀ d u μ' H', Ext K μ H μ' H' → MuOk K μ' H' → RpD K μ' H' d u → Dd.rt d μ' → De.rt u H') →
  (∀ σ' ρ' μ' H', Ext K μ H μ' H' → St0 K H' ρ' μ' σ' → Dd.bk ρ' μ' → De.bk σ' H') →
  (∀ σ' ρ' μ' H', Ext K μ H μ' H' → St0 K H' ρ' μ' σ' → Dd.ct ρ' μ' → De.ct σ' H') → t De σ H
def DE (X : Cx) (e : Expr) (td : DTE) : Prop := ∃ t, PE X e t ∧ LiftE X.K t td
def DT (X : Cx) (e : Expr) (td : DTT) : Prop := ∃ t, PT X e t ∧ LiftT X.K t td
def DA (X : Cx) (es : List Expr) (td : DTA) : Prop := ∃ t, PA X es t ∧ LiftA X.K es.length t td
def DS (X : Cx) (st : Stmt) (td : DTS) : Prop := ∃ t, PS X st t ∧ LiftS X.K t td
def DSs (X : Cx) (st : List Stmt) (td : DTS) : Prop := ∃ t, PSs X st t ∧ LiftS X.K t td
section
variable {X : Cx} {a b c : Expr} {ta tb tc : DTE} {pos : Pos}
def dVar (i : Nat) : DTE := fun ρ μ Q => match ρ[i]? with
  | some (some d) => Q d μ
  | _ => False
def dC (x : PyData) : DTE := fun _ μ Q => Q (.v x) μ
theorem lift_var {K : PySem.W.Frag} (i : Nat) : LiftE K (tVar i) (dVar i) := by
  intro σ H ρ μ Qd Q S h k
  unfold dVar at h
  split at h
  · rename_i d e
    obtain ⟨u, h1, h2⟩ := S.rho.2 i d e
    exact ⟨u, h1, k d u μ H .refl S h2 h⟩
  · exact h.elim
theorem dv (i : Nat) {x : Str} {pos : Pos} (hN : X.N[i]? = some x := by rfl) (hv : Vis X.env.scope x := by first | exact Or.inl rfl | exact Or.inr (Or.inl rfl) | exact Or.inr (Or.inr rfl)) (hd : (x == ("__debug__" : Str)) = false := by decide)
    (hcd : (x == ("__classdict__" : Str)) = false := by decide) : DE X (.Name x pos) (dVar i) := ⟨_, pe_var hN hv hd hcd, lift_var i⟩
theorem lift_c {K : PySem.W.Frag} {x : PyData} {u : V} (h : ∀ μ H, MuOk K μ H → Rp K μ H x u) : LiftE K (tC u) (dC x) := fun σ H ρ μ Qd Q S q k => k (.v x) u μ H .refl S (h μ H S.mu) q
theorem de_int {i j pos} : DE X (.Constant (.int i) j pos) (dC (.int i)) := ⟨_, pe_int, lift_c fun _ _ _ => .int i⟩
theorem de_bl {i j pos} : DE X (.Constant (.bool i) j pos) (dC (.bool i)) := ⟨_, pe_bl, lift_c fun _ _ _ => .bool i⟩
theorem de_str {x j pos} : DE X (.Constant (.str x) j pos) (dC (.str x)) := ⟨_, pe_str, lift_c fun _ _ _ => .str x⟩
theorem de_glob {x : Str} {d : PyData} {u : V} {w : Value} {pos : Pos} (hg : Gl X x) (hm : X.mg x = some w) (r : RelV u w) (h : ∀ μ H, MuOk X.K μ H → Rp X.K μ H d u) (hd : (x == ("__debug__" : Str)) = false := by decide) : DE X (.Name x pos) (dC d) :=
  ⟨_, pe_glob hg hm r hd, lift_c h⟩
def LiftO (K : PySem.W.Frag) (rr : R2) (r : D → D → Mu → DK → Prop) : Prop := ∀ (x y : D) (ux uy : V) (H : Hp) (μ : Mu) (Qd : DK) (Q : VK), MuOk K μ H → RpD K μ H x ux → RpD K μ H y uy → r x y μ Qd →
  (∀ d u μ' H', Ext K μ H μ' H' → MuOk K μ' H' → RpD K μ' H' d u → Qd d μ' → Q u H') → rr ux uy H Q
def dOp (r : D → D → Mu → DK → Prop) (ta tb : DTE) : DTE := fun ρ μ Q => ta ρ μ fun x μ1 => tb ρ μ1 fun y μ2 => r x y μ2 Q
theorem lift_op {K : PySem.W.Frag} {rr : R2} {r} {t1 t2 : TE} (lo : LiftO K rr r) (la : LiftE K t1 ta) (lb : LiftE K t2 tb) : LiftE K (tOp rr t1 t2) (dOp r ta tb) := by
  intro σ H ρ μ Qd Q S h k
  refine la σ H ρ μ _ _ S h fun x ux μ1 H1 e1 S1 rx h1 => ?_
  refine lb σ H1 ρ μ1 _ _ S1 h1 fun y uy μ2 H2 e2 S2 ry h2 => ?_
  exact lo x y ux uy H2 μ2 _ _ S2.mu (rx.ext S1.mu e2) ry h2 fun d u μ' H' e3 ok r q => k d u μ' H' (e1.trans (e2.trans e3)) ⟨ok, S2.rho.ext S2.mu e3⟩ r q
theorem de_op {op : Operator} {rr : R2} {r} (ho : OpR X (binaryOp op) rr) (lo : LiftO X.K rr r) (ha : DE X a ta) (hb : DE X b tb) : DE X (.BinOp a op b pos) (dOp r ta tb) := by
  obtain ⟨t1, p1, l1⟩ := ha
  obtain ⟨t2, p2, l2⟩ := hb
  exact ⟨_, pe_op ho p1 p2, lift_op lo l1 l2⟩
theorem de_cmp {op : CmpOp} {rr : R2} {r} (ho : OpR X (compareOp op) rr) (lo : LiftO X.K rr r) (ha : DE X a ta) (hb : DE X b tb) (hm : behindInMarks op b = false) : DE X (.Compare a [op] [b] pos) (dOp r ta tb) := by
  obtain ⟨t1, p1, l1⟩ := ha
  obtain ⟨t2, p2, l2⟩ := hb
  exact ⟨_, pe_cmpR ho p1 p2 hm, lift_op lo l1 l2⟩
def dB (t : DTE) : DTT := fun ρ μ Q => t ρ μ fun d μ1 => match d with
  | .v (.bool k) => Q k μ1
  | _ => False
theorem lift_test {K : PySem.W.Frag} {t : TE} {td : DTE} (l : LiftE K t td) : LiftT K (tTest t) (dB td) := by
  intro σ H ρ μ Qd Q S h k
  refine l σ H ρ μ _ _ S h fun d u μ1 H1 e1 S1 r q => ?_
  split at q
  · rename_i b
    cases r
    exact ⟨b, rfl, k b μ1 H1 e1 S1 q⟩
  · exact q.elim
theorem dt_cmp {op : CmpOp} {rr : R2} {r} (ho : OpR X (compareOp op) rr) (lo : LiftO X.K rr r) (ha : DE X a ta) (hb : DE X b tb) (hm : behindInMarks op b = false) : DT X (.Compare a [op] [b] pos) (dB (dOp r ta tb)) := by
  obtain ⟨t1, p1, l1⟩ := ha
  obtain ⟨t2, p2, l2⟩ := hb
  exact ⟨_, pt_cmpR ho p1 p2 hm, lift_test (lift_op lo l1 l2)⟩
theorem dt_val {e : Expr} {td : DTE} (h : DE X e td) (he : ∀ whole, isTrue e X.env whole = (do let v ← whole; standAt e.pos; holding [v] (truthy v)) := by intro _; rfl) : DT X e (dB td) := by
  obtain ⟨t, p, l⟩ := h
  exact ⟨_, pt_val p he, lift_test l⟩
def rII (C : Int → Int → Prop) (g : Int → Int → PyData) : D → D → Mu → DK → Prop := fun x y μ Q => match x, y with
  | .v (.int i), .v (.int j) => C i j ∧ Q (.v (g i j)) μ
  | _, _ => False
theorem lo_I {K : PySem.W.Frag} {C : Int → Int → Prop} {g : Int → Int → V} {gd : Int → Int → PyData} (hg : ∀ μ H i j, Rp K μ H (gd i j) (g i j)) : LiftO K (rI C g) (rII C gd) := by
  intro x y ux uy H μ Qd Q ok rx ry h k
  unfold rII at h
  split at h
  · rename_i i j
    cases rx; cases ry
    exact ⟨i, j, rfl, rfl, h.1, k (.v _) _ μ H .refl ok (hg μ H i j) h.2⟩
  · exact h.elim
def rI00 (g : Int → Int → PyData) : D → D → Mu → DK → Prop := fun x y μ Q => match x, y with
  | .v (.int i), .v (.int j) => Q (.v (g i j)) μ
  | _, _ => False
theorem lo_I0 {K : PySem.W.Frag} {g : Int → Int → V} {gd : Int → Int → PyData} (hg : ∀ μ H i j, Rp K μ H (gd i j) (g i j)) : LiftO K (rI0 g) (rI00 gd) := by
  intro x y ux uy H μ Qd Q ok rx ry h k
  unfold rI00 at h
  split at h
  · rename_i i j
    cases rx; cases ry
    exact ⟨i, j, rfl, rfl, k (.v _) _ μ H .refl ok (hg μ H i j) h⟩
  · exact h.elim
abbrev dAdd (ta tb : DTE) : DTE := dOp (rI00 fun i j => .int (i + j)) ta tb
abbrev dSub (ta tb : DTE) : DTE := dOp (rI00 fun i j => .int (i - j)) ta tb
abbrev MulOk (i j : Int) : Prop := IntMulOk i j
abbrev dMul (ta tb : DTE) : DTE := dOp (rII MulOk fun i j => .int (i * j)) ta tb
abbrev dMod (ta tb : DTE) : DTE := dOp (rII (fun _ j => j ≠ 0) fun i j => .int (i.fmod j)) ta tb
abbrev DivOk (i j : Int) : Prop := j ≠ 0 ∧ Builtin.divisionGoesByPylong i j = false
abbrev dDiv (ta tb : DTE) : DTE := dOp (rII DivOk fun i j => .int (i.fdiv j)) ta tb
abbrev dPow (ta tb : DTE) : DTE := dOp (rII CPow fun i j => .int (i ^ j.toNat)) ta tb
theorem op_mulB : OpR X (binaryOp .Mult) (rI MulOk fun i j => .int (i * j)) := opI fun _ _ _ _ _ _ _ hc q => mul_int q hc
theorem op_divB : OpR X (binaryOp .FloorDiv) (rI DivOk fun i j => .int (i.fdiv j)) := opI fun _ _ _ _ _ _ _ hc q => floordiv_int hc.1 q (.inl hc.2)
theorem de_add (ha : DE X a ta) (hb : DE X b tb) : DE X (.BinOp a .Add b pos) (dAdd ta tb) := de_op op_add (lo_I0 fun _ _ _ _ => .int _) ha hb
theorem de_sub (ha : DE X a ta) (hb : DE X b tb) : DE X (.BinOp a .Sub b pos) (dSub ta tb) := de_op op_sub (lo_I0 fun _ _ _ _ => .int _) ha hb
theorem de_mul (ha : DE X a ta) (hb : DE X b tb) : DE X (.BinOp a .Mult b pos) (dMul ta tb) := de_op op_mulB (lo_I fun _ _ _ _ => .int _) ha hb
theorem de_mod (ha : DE X a ta) (hb : DE X b tb) : DE X (.BinOp a .Mod b pos) (dMod ta tb) := de_op op_modN (lo_I fun _ _ _ _ => .int _) ha hb
theorem de_div (ha : DE X a ta) (hb : DE X b tb) : DE X (.BinOp a .FloorDiv b pos) (dDiv ta tb) := de_op op_divB (lo_I fun _ _ _ _ => .int _) ha hb
theorem de_pow (ha : DE X a ta) (hb : DE X b tb) : DE X (.BinOp a .Pow b pos) (dPow ta tb) := de_op op_pow (lo_I fun _ _ _ _ => .int _) ha hb
abbrev rLt := rI00 fun i j => .bool (decide (i < j))
abbrev rLe := rI00 fun i j => .bool (decide (i ≤ j))
abbrev rGt := rI00 fun i j => .bool (decide (j < i))
abbrev rGe := rI00 fun i j => .bool (decide (j ≤ i))
theorem lo_B {K : PySem.W.Frag} {p : Int → Int → Bool} : LiftO K (rI0 fun i j => .bl (p i j)) (rI00 fun i j => .bool (p i j)) := lo_I0 fun _ _ _ _ => .bool _
def dNeg (ta : DTE) : DTE := fun ρ μ Q => ta ρ μ fun x μ1 => match x with
  | .v (.int i) => Q (.v (.int (-i))) μ1
  | _ => False
theorem de_neg (ha : DE X a ta) : DE X (.UnaryOp .USub a pos) (dNeg ta) := by
  obtain ⟨t1, p1, l1⟩ := ha
  refine ⟨_, pe_un un_neg p1, fun σ H ρ μ Qd Q S h k => ?_⟩
  refine l1 σ H ρ μ _ _ S h fun x ux μ1 H1 e1 S1 rx h1 => ?_
  split at h1
  · rename_i i
    cases rx
    exact ⟨i, rfl, k (.v _) _ μ1 H1 e1 S1 (Rp.int _) h1⟩
  · exact h1.elim
def dAndT (t u : DTT) : DTT := fun ρ μ Q => t ρ μ fun c μ1 => if c = true then u ρ μ1 Q else Q false μ1
def dOrT (t u : DTT) : DTT := fun ρ μ Q => t ρ μ fun c μ1 => if c = true then Q true μ1 else u ρ μ1 Q
def dNotT (t : DTT) : DTT := fun ρ μ Q => t ρ μ fun c μ1 => Q (!c) μ1
def DW (X : Cx) (e : Expr) (td : DTT) : Prop := ∃ t, PW X e t ∧ LiftT X.K t td
theorem DW.dt {e : Expr} {td : DTT} (h : DW X e td) : DT X e td := let ⟨t, p, l⟩ := h; ⟨t, p.pt, l⟩
variable {tA tB' : DTT} {rest : List Expr}
theorem dw_and1 (ha : DT X a tA) : DW X (.BoolOp .And [a] pos) tA := let ⟨t, p, l⟩ := ha; ⟨t, pw_and1 p, l⟩
theorem dw_or1 (ha : DT X a tA) : DW X (.BoolOp .Or [a] pos) tA := let ⟨t, p, l⟩ := ha; ⟨t, pw_or1 p, l⟩
theorem dw_and (ha : DT X a tA) (hb : DW X (.BoolOp .And (b :: rest) pos) tB') : DW X (.BoolOp .And (a :: b :: rest) pos) (dAndT tA tB') := by
  obtain ⟨t1, p1, l1⟩ := ha
  obtain ⟨t2, p2, l2⟩ := hb
  refine ⟨_, pw_and p1 p2, fun σ H ρ μ Qd Q S h k => ?_⟩
  refine l1 σ H ρ μ _ _ S h fun c μ1 H1 e1 S1 h1 => ?_
  cases c with
  | true =>
    refine iteT (l2 σ H1 ρ μ1 _ _ S1 (by simpa using h1) fun c μ2 H2 e2 S2 h2 => k c μ2 H2 (e1.trans e2) S2 h2)
  | false => exact iteF (k false μ1 H1 e1 S1 (by simpa using h1))
theorem dw_or (ha : DT X a tA) (hb : DW X (.BoolOp .Or (b :: rest) pos) tB') : DW X (.BoolOp .Or (a :: b :: rest) pos) (dOrT tA tB') := by
  obtain ⟨t1, p1, l1⟩ := ha
  obtain ⟨t2, p2, l2⟩ := hb
  refine ⟨_, pw_or p1 p2, fun σ H ρ μ Qd Q S h k => ?_⟩
  refine l1 σ H ρ μ _ _ S h fun c μ1 H1 e1 S1 h1 => ?_
  cases c with
  | true => exact iteT (k true μ1 H1 e1 S1 (by simpa using h1))
  | false =>
    refine iteF (l2 σ H1 ρ μ1 _ _ S1 (by simpa using h1) fun c μ2 H2 e2 S2 h2 => k c μ2 H2 (e1.trans e2) S2 h2)
theorem dt_not (ha : DT X a tA) : DT X (.UnaryOp .Not a pos) (dNotT tA) := by
  obtain ⟨t1, p1, l1⟩ := ha
  refine ⟨_, pt_not p1, fun σ H ρ μ Qd Q S h k => ?_⟩
  exact l1 σ H ρ μ _ _ S h fun c μ1 H1 e1 S1 h1 => k _ μ1 H1 e1 S1 h1
def dAndV (ta tb : DTE) : DTE := fun ρ μ Q => ta ρ μ fun x μ1 => match x with
  | .v (.bool c) => if c = true then tb ρ μ1 Q else Q (.v (.bool false)) μ1
  | _ => False
def dOrV (ta tb : DTE) : DTE := fun ρ μ Q => ta ρ μ fun x μ1 => match x with
  | .v (.bool c) => if c = true then Q (.v (.bool true)) μ1 else tb ρ μ1 Q
  | _ => False
def dNotV (ta : DTE) : DTE := fun ρ μ Q => ta ρ μ fun x μ1 => match x with
  | .v (.bool c) => Q (.v (.bool (!c))) μ1
  | _ => False
theorem de_one {op} (h : DE X a ta) : DE X (.BoolOp op [a] pos) ta := let ⟨t, p, l⟩ := h; ⟨t, pe_one p, l⟩
theorem de_and (ha : DE X a ta) (hb : DE X (.BoolOp .And (b :: rest) pos) tb) : DE X (.BoolOp .And (a :: b :: rest) pos) (dAndV ta tb) := by
  obtain ⟨t1, p1, l1⟩ := ha
  obtain ⟨t2, p2, l2⟩ := hb
  refine ⟨_, pe_and p1 p2, fun σ H ρ μ Qd Q S h k => ?_⟩
  refine l1 σ H ρ μ _ _ S h fun x ux μ1 H1 e1 S1 rx h1 => ?_
  split at h1
  · rename_i c
    cases rx
    refine ⟨c, rfl, ?_⟩
    cases c with
    | true => exact iteT (l2 σ H1 ρ μ1 _ _ S1 (by simpa using h1) fun d u μ2 H2 e2 S2 r2 h2 => k d u μ2 H2 (e1.trans e2) S2 r2 h2)
    | false => exact iteF (k (.v _) _ μ1 H1 e1 S1 (Rp.bool false) (by simpa using h1))
  · exact h1.elim
theorem de_not (ha : DE X a ta) : DE X (.UnaryOp .Not a pos) (dNotV ta) := by
  obtain ⟨t1, p1, l1⟩ := ha
  refine ⟨_, pe_not p1, fun σ H ρ μ Qd Q S h k => ?_⟩
  refine l1 σ H ρ μ _ _ S h fun x ux μ1 H1 e1 S1 rx h1 => ?_
  split at h1
  · rename_i c
    cases rx
    exact ⟨c, rfl, k (.v _) _ μ1 H1 e1 S1 (Rp.bool _) h1⟩
  · exact h1.elim
def dIf (t : DTT) (ta tb : DTE) : DTE := fun ρ μ Q => t ρ μ fun c μ1 => if c = true then ta ρ μ1 Q else tb ρ μ1 Q
theorem de_if {c : Expr} (hc : DT X c tA) (ha : DE X a ta) (hb : DE X b tb) : DE X (.IfExp c a b pos) (dIf tA ta tb) := by
  obtain ⟨t0, p0, l0⟩ := hc
  obtain ⟨t1, p1, l1⟩ := ha
  obtain ⟨t2, p2, l2⟩ := hb
  refine ⟨_, pe_ifExp p0 p1 p2, fun σ H ρ μ Qd Q S h k => ?_⟩
  refine l0 σ H ρ μ _ _ S h fun c μ1 H1 e1 S1 h1 => ?_
  cases c with
  | true => exact iteT (l1 σ H1 ρ μ1 _ _ S1 (by simpa using h1) fun d u μ2 H2 e2 S2 r2 h2 => k d u μ2 H2 (e1.trans e2) S2 r2 h2)
  | false => exact iteF (l2 σ H1 ρ μ1 _ _ S1 (by simpa using h1) fun d u μ2 H2 e2 S2 r2 h2 => k d u μ2 H2 (e1.trans e2) S2 r2 h2)
end
open PySem PySem.Spec PyProof.Rows
section
variable {K : PySem.W.Frag} {μ μ1 : Mu} {H H1 : Hp} {p : Addr}
theorem ext_new {o : HO} (h : H p = none) : Ext K μ H μ (upd H p o) :=
  ⟨fun b u e _ => by rw [upd_ne (ne_of_none e h)]; exact e, fun _ ds q => ⟨ds, q⟩, fun _ q _ => q⟩
theorem MuOk.ext0 (ok : MuOk K μ H) (e : Ext K μ H μ H1) (s : Same H H1) : MuOk K μ H1 := fun a ds q => by
  obtain ⟨xs, h1, h2⟩ := ok a ds q
  exact ⟨xs, s _ _ h1, h2.ext ok e⟩
theorem same_upd {o : HO} (h : H p = none) : Same H (upd H p o) := fun b u q => by rw [upd_ne (ne_of_none q h)]; exact q
theorem MuOk.new {o : HO} (ok : MuOk K μ H) (h : H p = none) : MuOk K μ (upd H p o) := ok.ext0 (ext_new h) (same_upd h)
theorem St0.new {o : HO} {ρ : Rho} {σ : St} (S : St0 K H ρ μ σ) (h : H p = none) : St0 K (upd H p o) ρ μ σ := ⟨S.mu.new h, S.rho.ext S.mu (ext_new h)⟩
theorem rp_tup_new {us : List V} {ds : List PyData} (ok : MuOk K μ H) (r : RpL K μ H ds us) (h : H p = none) : Rp K μ (upd H p (.tup us)) (.tuple ds) (.ref p) :=
  .tuple (SqT.of upd_same) (r.ext ok (ext_new h))
theorem rp_lst_new {us : List V} {ds : List PyData} (ok : MuOk K μ H) (r : RpL K μ H ds us) (h : H p = none) : Rp K μ (upd H p (.lst us)) (.list ds) (.ref p) :=
  .list upd_same (ok.free h) (r.ext ok (ext_new h))
theorem ext_mut {o : HO} {ds : List PyData} (ok : MuOk K μ H) (h : H p = none) (hk : K.lookup p = none) : Ext K μ H (muSet μ p ds) (upd H p o) where
  keep := fun b u e _ => by rw [upd_ne (ne_of_none e h)]; exact e
  dom := fun b es q => by
    have : b ≠ p := fun z => by rw [z, ok.free h] at q; cases q
    exact ⟨es, by rw [muSet_ne this]; exact q⟩
  fresh := fun b n q => by
    have : b ≠ p := fun z => by
      rcases q with q | q
      · exact q (by rw [z]; exact h)
      · exact q (by rw [z]; exact hk)
    rw [muSet_ne this]; exact n
theorem MuOk.mut {us : List V} {ds : List PyData} (ok : MuOk K μ H) (r : RpL K μ H ds us) (h : H p = none) (hk : K.lookup p = none) : MuOk K (muSet μ p ds) (upd H p (.lst us)) := fun a es q => by
  have e := ext_mut (o := .lst us) (ds := ds) ok h hk
  by_cases ha : a = p
  · subst ha
    rw [muSet_same] at q
    cases q
    exact ⟨us, upd_same, r.ext ok e⟩
  · rw [muSet_ne ha] at q
    obtain ⟨xs, h1, h2⟩ := ok a es q
    exact ⟨xs, by rw [upd_ne ha]; exact h1, h2.ext ok e⟩
theorem ext_set {o : HO} {ds es : List PyData} (h : μ p = some ds) : Ext K μ H (muSet μ p es) (upd H p o) where
  keep := fun b u e n => by
    have : b ≠ p := fun z => by rw [z, h] at n; cases n
    rw [upd_ne this]; exact e
  dom := fun b fs q => by
    by_cases hb : b = p
    · subst hb; exact ⟨es, muSet_same⟩
    · exact ⟨fs, by rw [muSet_ne hb]; exact q⟩
  fresh := fun b n q => by
    have : b ≠ p := fun z => by rw [z, h] at n; cases n
    rw [muSet_ne this]; exact n
theorem MuOk.set {us : List V} {ds es : List PyData} (ok : MuOk K μ H) (h : μ p = some ds) (r : RpL K μ H es us) : MuOk K (muSet μ p es) (upd H p (.lst us)) := fun a fs q => by
  have e : Ext K μ H (muSet μ p es) (upd H p (.lst us)) := ext_set h
  by_cases ha : a = p
  · subst ha
    rw [muSet_same] at q
    cases q
    exact ⟨us, upd_same, r.ext ok e⟩
  · rw [muSet_ne ha] at q
    obtain ⟨xs, h1, h2⟩ := ok a fs q
    exact ⟨xs, by rw [upd_ne ha]; exact h1, h2.ext ok e⟩
end
def asData : List D → Option (List PyData)
  | [] => some []
  | .v x :: r => (asData r).map (x :: ·)
  | _ :: _ => none
theorem RpDs.data {K : PySem.W.Frag} {μ : Mu} {H : Hp} : ∀ {ds : List D} {us : List V} {xs : List PyData}, RpDs K μ H ds us → asData ds = some xs → RpL K μ H xs us
  | _, _, _, .nil, e => by cases e; exact .nil
  | .v x :: r, _, xs, .cons h t, e => by
    simp only [asData] at e
    cases q : asData r with
    | none => rw [q] at e; cases e
    | some ys => rw [q] at e; cases e; exact .cons h (RpDs.data t q)
  | .m _ :: _, _, _, .cons _ _, e => by simp [asData] at e
  | .s _ :: _, _, _, .cons _ _, e => by simp [asData] at e
section
variable {X : Cx} {e : Expr} {es : List Expr} {te : DTE} {t : DTA} {pos : Pos}
def dNil : DTA := fun _ μ Q => Q [] μ
def dCons (ta : DTE) (tr : DTA) : DTA := fun ρ μ Q => ta ρ μ fun x μ1 => tr ρ μ1 fun xs μ2 => Q (x :: xs) μ2
theorem da_nil : DA X [] dNil := ⟨_, pa_nil, fun σ H ρ μ Qd Q S h k => k [] [] μ H .refl S .nil rfl h⟩
theorem da_cons (ha : DE X e te) (hr : DA X es t) (hs : starEach (e :: es) X.env = (false, eval e X.env) :: starEach es X.env := by rfl) : DA X (e :: es) (dCons te t) := by
  obtain ⟨t1, p1, l1⟩ := ha
  obtain ⟨t2, p2, l2⟩ := hr
  refine ⟨_, pa_cons p1 p2 hs, fun σ H ρ μ Qd Q S h k => ?_⟩
  refine l1 σ H ρ μ _ _ S h fun x ux μ1 H1 e1 S1 rx h1 => ?_
  refine l2 σ H1 ρ μ1 _ _ S1 h1 fun xs us μ2 H2 e2 S2 rs len h2 => ?_
  exact k (x :: xs) (ux :: us) μ2 H2 (e1.trans e2) S2 (.cons (rx.ext S1.mu e2) rs) (by rw [List.length_cons, List.length_cons, len]) h2
def dTup (t : DTA) : DTE := fun ρ μ Q => t ρ μ fun ds μ1 => match asData ds with
  | some xs => Q (.v (.tuple xs)) μ1
  | none => False
def dLst (t : DTA) : DTE := fun ρ μ Q => t ρ μ fun ds μ1 => match asData ds with
  | some xs => Q (.v (.list xs)) μ1
  | none => False
def dLstM (t : DTA) : DTE := fun ρ μ Q => t ρ μ fun ds μ1 => match asData ds with
  | some xs => ∀ p, μ1 p = none → Q (.m p) (muSet μ1 p xs)
  | none => False
theorem de_tup {x1} (h : DA X es t) (hl : es.length ≤ 1000 := by decide) : DE X (.Tuple es x1 pos) (dTup t) := by
  obtain ⟨t1, p1, l1⟩ := h
  refine ⟨_, pe_tup p1, fun σ H ρ μ Qd Q S h k => ?_⟩
  refine l1 σ H ρ μ _ _ S h fun ds us μ1 H1 e1 S1 rs len h1 => ?_
  cases q : asData ds with
  | none => rw [q] at h1; exact h1.elim
  | some xs =>
    rw [q] at h1
    refine ⟨Nat.le_of_lt (small1000 (by rw [← rs.length, len]; exact hl)), fun p hp => ?_⟩
    exact k (.v (.tuple xs)) _ μ1 _ (e1.trans (ext_new hp)) (S1.new hp) (rp_tup_new S1.mu (rs.data q) hp) h1
theorem de_lst (h : DA X es t) (hl : es.length ≤ 1000 := by decide) : DE X (.List es pos) (dLst t) := by
  obtain ⟨t1, p1, l1⟩ := h
  refine ⟨_, pe_lst p1, fun σ H ρ μ Qd Q S h k => ?_⟩
  refine l1 σ H ρ μ _ _ S h fun ds us μ1 H1 e1 S1 rs len h1 => ?_
  cases q : asData ds with
  | none => rw [q] at h1; exact h1.elim
  | some xs =>
    rw [q] at h1
    refine ⟨Nat.le_of_lt (small1000 (by rw [← rs.length, len]; exact hl)), fun p hp => ?_⟩
    exact k (.v (.list xs)) _ μ1 _ (e1.trans (ext_new hp)) (S1.new hp) (rp_lst_new S1.mu (rs.data q) hp) h1
def tLstK (K : PySem.W.Frag) (t : TA) : TE := fun σ H Q => t σ H fun xs H1 => xs.length ≤ sizeLine ∧ ∀ p, H1 p = none → K.lookup p = none → Q (.ref p) (upd H1 p (.lst xs))
theorem pe_lstK {t : TA} (h : PA X es t) : PE X (.List es pos) (tLstK X.K t) := by
  intro pins s σ H Q I hq
  refine wpAny_List_spliced (thn (h pos pins s σ H _ I hq) fun us s1 ⟨xs, H1, I1, r, z, q⟩ => ⟨by rw [← r.length]; exact z, ?_⟩)
  have hf : H1 s1.heap.objs.size = none := I1.hok.fresh (Nat.le_refl _)
  have hk : X.K.lookup s1.heap.objs.size = none := by
    cases c : X.K.lookup s1.heap.objs.size with
    | none => rfl
    | some o => exact absurd (Heap.lt_size (I1.kIn _ _ c)) (Nat.lt_irrefl _)
  refine ⟨.ref s1.heap.objs.size, upd H1 s1.heap.objs.size (.lst xs), I1.laid (t' := s1.toks) (fun b u e => Heap.get?_push_of_some _ e) (Nat.le_refl _) ?_, rfl, q _ hf hk⟩
  exact ⟨z, us, 0, r, Heap.get?_push_size _ rfl⟩
theorem de_lstM (h : DA X es t) (hl : es.length ≤ 1000 := by decide) : DE X (.List es pos) (dLstM t) := by
  obtain ⟨t1, p1, l1⟩ := h
  refine ⟨_, pe_lstK p1, fun σ H ρ μ Qd Q S h k => ?_⟩
  refine l1 σ H ρ μ _ _ S h fun ds us μ1 H1 e1 S1 rs len h1 => ?_
  cases q : asData ds with
  | none => rw [q] at h1; exact h1.elim
  | some xs =>
    rw [q] at h1
    refine ⟨Nat.le_of_lt (small1000 (by rw [← rs.length, len]; exact hl)), fun p hp hk => ?_⟩
    have ex := ext_mut (o := .lst us) (ds := xs) S1.mu hp hk
    exact k (.m p) _ (muSet μ1 p xs) _ (e1.trans ex) ⟨S1.mu.mut (rs.data q) hp hk, S1.rho.ext S1.mu ex⟩ ⟨rfl, xs, muSet_same⟩ (h1 p (S1.mu.free hp))
end
section
variable {X : Cx} {pins : List (Addr × Obj)} {σ : St} {H : Hp} {s : Shared} {μ : Mu}
mutual
theorem reads_of (I : Inv X pins σ H s) : ∀ {d : PyData} {x : V} {u : Value}, Rp X.K μ H d x → RelV x u → ∃ as, Reads s.heap u d as
  | _, _, _, .none, r => by cases r; exact ⟨_, .none⟩
  | _, _, _, .bool b, r => by cases r; exact ⟨_, .bool b⟩
  | _, _, _, .int i, r => by obtain ⟨t, rfl⟩ := r; exact ⟨_, .int i t⟩
  | _, _, _, .str y, r => by obtain ⟨t, rfl⟩ := r; exact ⟨_, .str y t⟩
  | _, _, _, .list h _ q, r => by
    cases r
    obtain ⟨its, rv, ⟨o, n, ho, hc, _, hd⟩, _⟩ := I.list (SqL.of h)
    obtain ⟨as, ra⟩ := readsAll_of I q rv
    exact ⟨_, .list ho hc hd (by simpa using ra)⟩
  | _, _, _, .tuple h q, r => by
    cases r
    obtain ⟨its, rv, ⟨o, ho, hc, n, hd⟩, _⟩ := I.tuple h
    obtain ⟨as, ra⟩ := readsAll_of I q rv
    exact ⟨_, .tuple ho hc hd (by simpa using ra)⟩
theorem readsAll_of (I : Inv X pins σ H s) : ∀ {ds : List PyData} {xs : List V} {us : List Value}, RpL X.K μ H ds xs → Vals xs us → ∃ as, ReadsAll s.heap us ds as
  | _, _, _, .nil, .nil => ⟨_, .nil⟩
  | _, _, _, .cons h t, .cons r q => by
    obtain ⟨as, ra⟩ := reads_of I h r
    obtain ⟨bs, rb⟩ := readsAll_of I t q
    exact ⟨_, .cons ra rb⟩
end
end
section
variable {X : Cx}
def rEqV (K : PySem.W.Frag) (neg : Bool) : R2 := fun x y H Q => ∃ μ a b, Rp K μ H a x ∧ Rp K μ H b y ∧ SeqAt.shaped a = true ∧ SeqAt.shaped b = true ∧ Q (.bl (neg ^^ PyData.eqv a b)) H
theorem op_eqD (hu : X.A.units + 64 < cLine) : OpR X (compareOp .Eq) (rEqV X.K false) := by
  intro pins s σ H x y v u Q I rx ry h
  obtain ⟨μ, a, b, ha, hb, sa, sb, q⟩ := h
  obtain ⟨as, ra⟩ := reads_of I ha rx
  obtain ⟨bs, rb⟩ := reads_of I hb ry
  exact eq_dataH ra rb sa sb hu ⟨.bl (PyData.eqv a b), H, I, rfl, by simpa using q⟩
theorem op_neD (hu : X.A.units + 64 < cLine) : OpR X (compareOp .NotEq) (rEqV X.K true) := by
  intro pins s σ H x y v u Q I rx ry h
  obtain ⟨μ, a, b, ha, hb, sa, sb, q⟩ := h
  obtain ⟨as, ra⟩ := reads_of I ha rx
  obtain ⟨bs, rb⟩ := reads_of I hb ry
  exact ne_dataH ra rb sa sb hu ⟨.bl (!PyData.eqv a b), H, I, rfl, by simpa using q⟩
def rEqD (neg : Bool) : D → D → Mu → DK → Prop := fun x y μ Q => match x, y with
  | .v a, .v b => SeqAt.shaped a = true ∧ SeqAt.shaped b = true ∧ Q (.v (.bool (neg ^^ PyData.eqv a b))) μ
  | _, _ => False
theorem lo_eqD {K : PySem.W.Frag} {neg : Bool} : LiftO K (rEqV K neg) (rEqD neg) := by
  intro x y ux uy H μ Qd Q ok rx ry h k
  unfold rEqD at h
  split at h
  · rename_i a b
    exact ⟨μ, a, b, rx, ry, h.1, h.2.1, k (.v _) _ μ H .refl ok (Rp.bool _) h.2.2⟩
  · exact h.elim
def rInV (K : PySem.W.Frag) (neg : Bool) : R2 := fun x y H Q => ∃ μ a bs, Rp K μ H a x ∧ Rp K μ H (.list bs) y ∧ PyData.canLayAll0 bs = true ∧ a.canLay0 = true ∧ PyData.depth a ≤ 60 ∧ Q (.bl (neg ^^ bs.any fun b => PyData.eqv b a)) H
theorem op_inD (hu : X.A.units + 64 < cLine) : OpR X (compareOp .In) (rInV X.K false) := by
  intro pins s σ H x y v u Q I rx ry h
  obtain ⟨μ, a, b, ha, hb, sb, sa, dp, q⟩ := h
  obtain ⟨as, ra⟩ := reads_of I ha rx
  obtain ⟨bs, rb⟩ := reads_of I hb ry
  refine SeqAt.in_list_reads rb ra sb sa (by omega) ⟨.bl (b.any fun z => PyData.eqv z a), H, I, rfl, by simpa using q⟩
theorem op_notInD (hu : X.A.units + 64 < cLine) : OpR X (compareOp .NotIn) (rInV X.K true) := by
  intro pins s σ H x y v u Q I rx ry h
  obtain ⟨μ, a, b, ha, hb, sb, sa, dp, q⟩ := h
  obtain ⟨as, ra⟩ := reads_of I ha rx
  obtain ⟨bs, rb⟩ := reads_of I hb ry
  refine SeqAt.notIn_list_reads rb ra sb sa (by omega) ⟨.bl (!b.any fun z => PyData.eqv z a), H, I, rfl, by simpa using q⟩
def rInD (neg : Bool) : D → D → Mu → DK → Prop := fun x y μ Q => match x, y with
  | .v a, .v (.list bs) => PyData.canLayAll0 bs = true ∧ a.canLay0 = true ∧ PyData.depth a ≤ 60 ∧ Q (.v (.bool (neg ^^ bs.any fun b => PyData.eqv b a))) μ
  | _, _ => False
theorem lo_inD {K : PySem.W.Frag} {neg : Bool} : LiftO K (rInV K neg) (rInD neg) := by
  intro x y ux uy H μ Qd Q ok rx ry h k
  unfold rInD at h
  split at h
  · rename_i a b
    exact ⟨μ, a, b, rx, ry, h.1, h.2.1, h.2.2.1, k (.v _) _ μ H .refl ok (Rp.bool _) h.2.2.2⟩
  · exact h.elim
end
open PySem PySem.Spec PyProof.Rows
section
variable {X : Cx} {a b e : Expr} {es : List Expr} {ta tb te : DTE} {t : DTA} {p pos : Pos}
def rIxD : D → D → Mu → DK → Prop := fun x y μ Q => match x, y with
  | .v (.list xs), .v (.int i) => (match atI xs i with | some d => Q (.v d) μ | none => False)
  | .v (.tuple xs), .v (.int i) => (match atI xs i with | some d => Q (.v d) μ | none => False)
  | .m l, .v (.int i) => (match μ l with
    | some xs => (match atI xs i with | some d => Q (.v d) μ | none => False)
    | none => False)
  | .s ns, .v (.int i) => (match atI ns i with | some d => Q (.v (.int d)) μ | none => False)
  | _, _ => False
theorem lo_ix {K : PySem.W.Frag} : LiftO K (rIx K) rIxD := by
  intro x y ux uy H μ Qd Q ok rx ry h k
  unfold rIxD at h
  split at h
  · rename_i xs i
    cases ry
    cases q : atI xs i with
    | none => rw [q] at h; exact h.elim
    | some d =>
      rw [q] at h
      cases rx with
      | list hs hn r =>
        obtain ⟨u, e1, e2⟩ := atI_rp r q
        exact .inl ⟨_, _, i, u, rfl, rfl, SqL.of hs, e1, k (.v d) u μ H .refl ok e2 h⟩
  · rename_i xs i
    cases ry
    cases q : atI xs i with
    | none => rw [q] at h; exact h.elim
    | some d =>
      rw [q] at h
      cases rx with
      | tuple hs r =>
        obtain ⟨u, e1, e2⟩ := atI_rp r q
        exact .inr (.inl ⟨_, _, i, u, rfl, rfl, hs, e1, k (.v d) u μ H .refl ok e2 h⟩)
  · rename_i l i
    cases ry
    obtain ⟨rfl, ds, hm⟩ := rx
    rw [hm] at h
    simp only at h
    cases q : atI ds i with
    | none => rw [q] at h; exact h.elim
    | some d =>
      rw [q] at h
      obtain ⟨us, hl, r⟩ := ok l ds hm
      obtain ⟨u, e1, e2⟩ := atI_rp r q
      exact .inl ⟨_, _, i, u, rfl, rfl, SqL.of hl, e1, k (.v d) u μ H .refl ok e2 h⟩
  · rename_i ns i
    cases ry
    obtain ⟨a, rfl, hs, hn⟩ := rx
    cases q : atI ns i with
    | none => rw [q] at h; exact h.elim
    | some d =>
      rw [q] at h
      have e1 : atI (ns.map V.int) i = some (.int d) := by
        unfold atI at q ⊢
        rw [List.length_map]
        cases z : ixN ns.length i with
        | none => rw [z] at q; cases q
        | some j =>
          rw [z] at q
          simp only [Option.bind_some, List.getElem?_map] at q ⊢
          rw [q] <;> rfl
      exact .inl ⟨_, _, i, _, rfl, rfl, hs, e1, k (.v (.int d)) _ μ H .refl ok (Rp.int d) h⟩
  · exact h.elim
theorem de_ix (ha : DE X a ta) (hb : DE X b tb) (hs : PlainIx b) : DE X (.Subscript a b pos) (dOp rIxD ta tb) := by
  obtain ⟨t1, p1, l1⟩ := ha
  obtain ⟨t2, p2, l2⟩ := hb
  exact ⟨_, pe_ix ix_seq p1 p2 hs, lift_op lo_ix l1 l2⟩
theorem cat_tup0 {prog : Program} {w : World} {A : Around} {E : Value → Shared → Prop} {s : Shared} {t b : Addr} {ws : List Value} {Q : Value → Shared → Prop} (ht : IsTup s.heap t #[]) (hb : IsTup s.heap b ws.toArray)
    (h1 : Q (.ref b) s) : wpAny (model prog w) A (binaryOp .Add (.ref t) (.ref b)) Q E s := by
  obtain ⟨⟨cls, dd, data, sl⟩, ho, hc, n, hd⟩ := id ht
  obtain ⟨⟨cls2, dd2, data2, sl2⟩, ho2, hc2, n2, hd2⟩ := id hb
  simp only at hc hd hc2 hd2
  subst hc hd hc2 hd2
  exact concat_meets ⟨_, ho, rfl⟩ ⟨_, ho2, rfl⟩ noFill_tuple_add seq_tuple_add PySem.F.slot_tuple_add PySem.F.entry_tuple_add (PySem.F.args_tuple_add_2 _ _)
    (tuple_addW0 t b #[] ws.toArray n n2 dd dd2 sl sl2 rfl) ⟨ho, ho2, h1⟩
def lstOf (μ : Mu) : D → Option (List PyData)
  | .v (.list xs) => some xs
  | .m l => μ l
  | _ => none
theorem lstOf_rp {K : PySem.W.Frag} {μ : Mu} {H : Hp} {x : D} {u : V} {xs : List PyData} (ok : MuOk K μ H) (r : RpD K μ H x u) (h : lstOf μ x = some xs) : ∃ a us, u = .ref a ∧ H a = some (.lst us) ∧ RpL K μ H xs us := by
  cases x with
  | v d =>
    cases d <;> simp only [lstOf] at h <;> try cases h
    cases r with
    | list hs _ q => exact ⟨_, _, rfl, hs, q⟩
  | m l =>
    obtain ⟨rfl, ds, hm⟩ := r
    obtain ⟨us, hl, q⟩ := ok l xs h
    exact ⟨l, us, rfl, hl, q⟩
  | s ns => cases h
def rCatD : D → D → Mu → DK → Prop := fun x y μ Q => match lstOf μ x, lstOf μ y with
  | some xs, some ys => xs.length + ys.length ≤ 1000 ∧ Q (.v (.list (xs ++ ys))) μ
  | _, _ => False
theorem le_line {n : Nat} (h : n ≤ 1000) : n ≤ sizeLine := Nat.le_of_lt (small1000 h)
theorem lo_cat {K : PySem.W.Frag} : LiftO K rCat rCatD := by
  intro x y ux uy H μ Qd Q ok rx ry h k
  unfold rCatD at h
  split at h
  · rename_i xs ys hx hy
    obtain ⟨a, us, rfl, ha, ra⟩ := lstOf_rp ok rx hx
    obtain ⟨b, ws, rfl, hb, rb⟩ := lstOf_rp ok ry hy
    refine ⟨a, b, us, ws, rfl, rfl, ha, hb, le_line (by rw [← ra.length, ← rb.length]; exact h.1), fun p hp => ?_⟩
    exact k (.v _) _ μ _ (ext_new hp) (ok.new hp) (rp_lst_new ok (ra.append rb) hp) h.2
  · exact h.elim
def rCatTT (K : PySem.W.Frag) : R2 := fun x y H Q => ∃ a b xs ys, x = .ref a ∧ y = .ref b ∧ SqT K H a xs ∧ SqT K H b ys ∧ xs.length + ys.length ≤ sizeLine ∧
  (xs = [] → Q (.ref b) H) ∧ (ys = [] → Q (.ref a) H) ∧ (∀ p, H p = none → Q (.ref p) (upd H p (.tup (xs ++ ys))))
theorem op_catTT : OpR X (binaryOp .Add) (rCatTT X.K) := by
  intro pins s σ H x y v u Q I rx ry h
  obtain ⟨a, b, xs, ys, rfl, rfl, ha, hb, hz, q0, q1, q2⟩ := h
  by_cases hx : xs = []
  · subst hx
    cases rx
    cases ry
    obtain ⟨its, r1, p1, _⟩ := I.tuple ha
    obtain ⟨its2, r2, p2, _⟩ := I.tuple hb
    cases r1
    exact cat_tup0 p1 p2 ⟨.ref b, H, I, rfl, q0 rfl⟩
  · exact op_catT pins s σ H _ _ v u Q I rx ry ⟨a, b, xs, ys, rfl, rfl, ha, hb, hx, hz, q1, fun _ => q2⟩
def rCatTD : D → D → Mu → DK → Prop := fun x y μ Q => match x, y with
  | .v (.tuple xs), .v (.tuple ys) => xs.length + ys.length ≤ 1000 ∧ Q (.v (.tuple (xs ++ ys))) μ
  | _, _ => False
theorem lo_catT {K : PySem.W.Frag} : LiftO K (rCatTT K) rCatTD := by
  intro x y ux uy H μ Qd Q ok rx ry h k
  unfold rCatTD at h
  split at h
  · rename_i xs ys
    cases id rx with
    | @tuple a us _ ha ra =>
      cases id ry with
      | @tuple b ws _ hb rb =>
        refine ⟨a, b, us, ws, rfl, rfl, ha, hb, le_line (by rw [← ra.length, ← rb.length]; exact h.1), fun z => ?_, fun z => ?_, fun p hp => ?_⟩
        · subst z
          cases ra
          exact k (.v _) _ μ H .refl ok ry (by simpa using h.2)
        · subst z
          cases rb
          exact k (.v _) _ μ H .refl ok rx (by simpa using h.2)
        · exact k (.v _) _ μ _ (ext_new hp) (ok.new hp) (rp_tup_new ok (ra.append rb) hp) h.2
  · exact h.elim
end
end L2.DL
set_option Elab.async false
set_option linter.all false
set_option maxRecDepth 100000
set_option maxHeartbeats 4000000
namespace HT
open PySem PyProof.Rows
section
variable {prog : Program} {w : World} {A : Around} {E : Value → Shared → Prop} {s : Shared}
theorem getItem_tuple_all {t sl : Addr} {items : Array Value} {vl vu : Value} {lo hi : Option Int} {Q : Value → Shared → Prop} (ht : IsTup s.heap t items) (hs : s.heap.IsSliceOf sl vl vu .none) (pl : IsPart vl lo) (pu : IsPart vu hi)
    (hw : sIx items.size 0 lo = 0 ∧ sIx items.size items.size hi = items.size) (h : Q (.ref t) s) : wpAny (model prog w) A (getItem (.ref t) (.ref sl)) Q E s := by
  obtain ⟨os, hos, hcs, hds⟩ := id hs
  have hTs : s.TypeIs (.ref sl) "slice" := ⟨os, hos, hcs⟩
  unfold getItem
  try with_reducible refine wpAny_holding ?_
  first | refine wpAny_bind (wpAny_pure ?_) | skip
  refine wpAny_bind (wpAny_sequenceKey ht.typeIs (by decide) ?_)
  refine wpAny_bind (wpAny_callSpecial?_slot (name := Str.ofString "__getitem__") ht.typeIs PyProof.Rows.slot_tuple_getitem
    (wpAny_call_entry PyProof.Rows.slot_tuple_getitem ht.typeIs entry_tuple_getitem ?_ (args_tuple_getitem _ _)))
  show wpAny _ _ (Builtin.Tuple.tupleItemsOf (.ref t) >>= _) _ _ s
  refine wpAny_bind (tupleItemsOf_ ht ?_)
  refine wpAny_bind (wpAny_typeOf hTs ?_)
  rw [if_pos (by decide)]
  refine wpAny_bind (sliceApplied_gen hs pl pu ?_)
  have hno : ((((sIx items.size 0 lo : Nat) : Int) == 0 && (1 : Int) == 1 && (sIx items.size items.size hi - sIx items.size 0 lo) == items.size) = true) := by
    rw [hw.1, hw.2]
    simp
  show wpAny _ _ (if (((sIx items.size 0 lo : Nat) : Int) == 0 && (1 : Int) == 1 && (sIx items.size items.size hi - sIx items.size 0 lo) == items.size) = true then _ else _) _ _ s
  rw [if_pos hno]
  refine wpAny_bind ?_
  unfold Builtin.Tuple.tupleIsExact
  refine wpAny_bind (wpAny_typeOf ht.typeIs (wpAny_pure ?_))
  rw [if_pos (by decide)]
  refine wpAny_bind (wpAny_rule ?_)
  exact wpAny_pure ⟨_, rfl, wpAny_pure h⟩
theorem adjust_rev (n : Nat) : Builtin.Slice.sliceAdjust none none (-1) (n : Int) = ((n : Int) - 1, -1) := by
  unfold Builtin.Slice.sliceAdjust
  simp
theorem places_rev (n : Nat) : Builtin.Slice.slicePlaces ((n : Int) - 1) (-1) (-1) = n := by
  unfold Builtin.Slice.slicePlaces
  simp
  omega
theorem sliceApplied_rev {sl : Addr} {t : Tok} {n : Nat} {Q : Int × Int × Nat → Shared → Prop} (hs : s.heap.IsSliceOf sl .none .none (.int (-1) t))
    (h : Q ((n : Int) - 1, -1, n) s) : wpAny (model prog w) A (Builtin.Slice.sliceApplied (.ref sl) (pure (n : Int))) Q E s := by
  obtain ⟨os, hos, hcs, hds⟩ := id hs
  unfold Builtin.Slice.sliceApplied Builtin.Slice.sliceFields
  refine wpAny_bind (wpAny_bind (wpAny_field hos hds (x := .none) rfl (wpAny_bind (wpAny_field hos hds (x := .none) rfl (wpAny_bind (wpAny_field hos hds (x := .int (-1) t) rfl (wpAny_pure ?_)))))))
  refine wpAny_bind (slicePart_int ?_)
  show wpAny _ _ (if ((-1 : Int) == 0) = true then _ else _) _ _ s
  rw [if_neg (by decide)]
  refine wpAny_bind (slicePart_none (wpAny_bind (slicePart_none (wpAny_bind (wpAny_pure ?_)))))
  show wpAny _ _ (match Builtin.Slice.sliceAdjust none none (-1) (n : Int) with | (lo, hi) => pure (lo, (-1 : Int), Builtin.Slice.slicePlaces lo hi (-1))) _ _ s
  rw [adjust_rev]
  show wpAny _ _ (pure ((n : Int) - 1, (-1 : Int), Builtin.Slice.slicePlaces ((n : Int) - 1) (-1) (-1))) _ _ s
  rw [places_rev]
  exact wpAny_pure h
theorem fm_congr {α β : Type} {f g : α → Option β} : ∀ {l : List α}, (∀ x ∈ l, f x = g x) → l.filterMap f = l.filterMap g
  | [], _ => rfl
  | x :: r, h => by rw [List.filterMap_cons, List.filterMap_cons, h x List.mem_cons_self, fm_congr fun y hy => h y (List.mem_cons_of_mem _ hy)]
theorem pick_rev (xs : Array Value) : ((List.range xs.size).filterMap fun (m : Nat) => xs[(((xs.size : Int) - 1) + (m : Int) * (-1)).toNat]?).toArray = xs.toList.reverse.toArray := by
  have h := PySem.W.krv_pick xs
  unfold slicePick at h
  rw [PySem.W.krv_bounds] at h
  have h' : ((sliceRange ((xs.size : Int) - 1) (-1) (-1)).filterMap (xs[·]?)).toArray = xs.toList.reverse.toArray := h
  rw [PySem.W.krv_sliceRange, List.filterMap_map] at h'
  rw [← h']
  congr 1
  refine fm_congr fun k hk => ?_
  have := List.mem_range.mp hk
  simp only [Function.comp]
  congr 1
  omega
theorem getItem_tuple_rev {t sl : Addr} {items : Array Value} {tk : Tok} {Q : Value → Shared → Prop} (ht : IsTup s.heap t items) (hs : s.heap.IsSliceOf sl .none .none (.int (-1) tk))
    (h : Q (.ref s.heap.objs.size) { s with heap := s.heap.push { cls := .type "tuple", data := .seq items.toList.reverse.toArray } })
    (hsz : items.size ≤ sizeLine) : wpAny (model prog w) A (getItem (.ref t) (.ref sl)) Q E s := by
  have htake : sizeOk (.seq items.toList.reverse.toArray) := by
    show items.toList.reverse.toArray.size ≤ sizeLine
    rw [List.size_toArray, List.length_reverse, Array.length_toList]
    omega
  obtain ⟨os, hos, hcs, hds⟩ := id hs
  have hTs : s.TypeIs (.ref sl) "slice" := ⟨os, hos, hcs⟩
  unfold getItem
  try with_reducible refine wpAny_holding ?_
  first | refine wpAny_bind (wpAny_pure ?_) | skip
  refine wpAny_bind (wpAny_sequenceKey ht.typeIs (by decide) ?_)
  refine wpAny_bind (wpAny_callSpecial?_slot (name := Str.ofString "__getitem__") ht.typeIs PyProof.Rows.slot_tuple_getitem
    (wpAny_call_entry PyProof.Rows.slot_tuple_getitem ht.typeIs entry_tuple_getitem ?_ (args_tuple_getitem _ _)))
  show wpAny _ _ (Builtin.Tuple.tupleItemsOf (.ref t) >>= _) _ _ s
  refine wpAny_bind (tupleItemsOf_ ht ?_)
  refine wpAny_bind (wpAny_typeOf hTs ?_)
  rw [if_pos (by decide)]
  refine wpAny_bind (sliceApplied_rev hs ?_)
  have hno : ¬ ((((items.size : Int) - 1) == 0 && (-1 : Int) == 1 && items.size == items.size) = true) := by simp
  show wpAny _ _ (if (((items.size : Int) - 1) == 0 && (-1 : Int) == 1 && items.size == items.size) = true then _ else _) _ _ s
  rw [if_neg hno, pick_rev]
  first
    | exact wpAny_bind (m := Builtin.Tuple.tupleExact _) (wpAny_newObj_type (wpAny_pure ⟨_, rfl, wpAny_pure h⟩) htake)
    | exact wpAny_bind (m := Builtin.Tuple.tupleExact _) (wpAny_newObj_type (wpAny_bind (wpAny_pure (wpAny_pure ⟨_, rfl, wpAny_pure h⟩))) htake)
    | exact wpAny_bind (wpAny_bind (m := Builtin.Tuple.tupleExact _) (wpAny_newObj_type (wpAny_pure (wpAny_pure ⟨_, rfl, wpAny_pure h⟩)) htake))
    | exact wpAny_bind (wpAny_bind (m := Builtin.Tuple.tupleExact _) (wpAny_newObj_type (wpAny_pure ⟨_, rfl, wpAny_pure h⟩) htake))
end
end HT
namespace L2.DL
open PySem PySem.Spec PyProof.Rows
section
variable {X : Cx} {a b e : Expr} {lo hi : Option Expr} {ta tb te : DTE} {pos p2 : Pos}
def cutP {α : Type} (xs : List α) (lo hi : Option Int) : List α := (xs.drop (HT.sIx xs.length 0 lo)).take (HT.sIx xs.length xs.length hi - HT.sIx xs.length 0 lo)
theorem RpL.cut {K : PySem.W.Frag} {μ : Mu} {H : Hp} {ds : List PyData} {us : List V} {lo hi : Option Int} (r : RpL K μ H ds us) : RpL K μ H (cutP ds lo hi) (cutV us lo hi) := by
  unfold cutP cutV
  rw [r.length]
  exact (r.drop _).take _
theorem cut_all {α : Type} {xs : List α} {lo hi : Option Int} (h : HT.sIx xs.length 0 lo = 0 ∧ HT.sIx xs.length xs.length hi = xs.length) : cutP xs lo hi = xs := by
  unfold cutP
  rw [h.1, h.2]
  simp
def rSlTW (K : PySem.W.Frag) : V → Option Int → Option Int → Hp → VK → Prop := fun x lo hi H Q => ∃ a xs, x = .ref a ∧ SqT K H a xs ∧
  (HT.sIx xs.length 0 lo = 0 ∧ HT.sIx xs.length xs.length hi = xs.length → Q (.ref a) H) ∧ ∀ p, H p = none → Q (.ref p) (upd H p (.tup (cutV xs lo hi)))
theorem sl_tupW : SlR X (rSlTW X.K) := by
  intro pins s σ H x v vl vu lo hi sl Q I rx hs pl pu h
  obtain ⟨a, xs, rfl, hx, q1, q⟩ := h
  by_cases hw : HT.sIx xs.length 0 lo = 0 ∧ HT.sIx xs.length xs.length hi = xs.length
  · cases rx
    obtain ⟨its, r, ht, hz⟩ := I.tuple hx
    have hlen : its.toArray.size = xs.length := by rw [List.size_toArray]; exact r.length.symm
    refine ⟨"tuple", _, PyProof.Rows.slot_tuple_getitem.lookup, ht.typeIs, ?_⟩
    exact HT.getItem_tuple_all ht hs pl pu (by rw [hlen]; exact hw) ⟨.ref a, H, I, rfl, q1 hw⟩
  · exact sl_tup pins s σ H _ v vl vu lo hi sl Q I rx hs pl pu ⟨a, xs, rfl, hx, hw, q⟩
abbrev DTO := Rho → Mu → (Option Int → Mu → Prop) → Prop
def LiftP (K : PySem.W.Frag) (t : TO) (td : DTO) : Prop := ∀ (σ : St) (H : Hp) (ρ : Rho) (μ : Mu) (Qd : Option Int → Mu → Prop) (Q : Option Int → Hp → Prop), St0 K H ρ μ σ → td ρ μ Qd →
  (∀ o μ' H', Ext K μ H μ' H' → St0 K H' ρ μ' σ → Qd o μ' → Q o H') → t σ H Q
def DO (X : Cx) (e : Option Expr) (td : DTO) : Prop := ∃ t, PO X e t ∧ LiftP X.K t td
def dNoPart : DTO := fun _ μ Q => Q none μ
def dPart (t : DTE) : DTO := fun ρ μ Q => t ρ μ fun x μ1 => match x with
  | .v (.int i) => Q (some i) μ1
  | _ => False
theorem do_some (h : DE X e te) : DO X (some e) (dPart te) := by
  obtain ⟨t1, p1, l1⟩ := h
  refine ⟨_, po_some p1, fun σ H ρ μ Qd Q S h k => ?_⟩
  refine l1 σ H ρ μ _ _ S h fun x ux μ1 H1 e1 S1 rx h1 => ?_
  split at h1
  · cases rx
    exact ⟨_, rfl, k _ μ1 H1 e1 S1 h1⟩
  · exact h1.elim
def rSlD (x : D) (lo hi : Option Int) (μ : Mu) (Q : DK) : Prop := match x with
  | .v (.tuple xs) => Q (.v (.tuple (cutP xs lo hi))) μ
  | .v (.list xs) => Q (.v (.list (cutP xs lo hi))) μ
  | .m l => (match μ l with | some xs => Q (.v (.list (cutP xs lo hi))) μ | none => False)
  | _ => False
def dSl (te : DTE) (tl th : DTO) : DTE := fun ρ μ Q => te ρ μ fun x μ1 => tl ρ μ1 fun l μ2 => th ρ μ2 fun u μ3 => rSlD x l u μ3 Q
theorem de_slice {tl th : DTO} (he : DE X e te) (hl : DO X lo tl) (hu : DO X hi th) : DE X (.Subscript e (.Slice lo hi none p2) pos) (dSl te tl th) := by
  obtain ⟨t1, p1, l1⟩ := he
  obtain ⟨t2, p2, l2⟩ := hl
  obtain ⟨t3, p3, l3⟩ := hu
  refine ⟨_, pe_slice (sl_list.or sl_tupW) p1 p2 p3, fun σ H ρ μ Qd Q S h k => ?_⟩
  refine l1 σ H ρ μ _ _ S h fun x ux μ1 H1 e1 S1 rx h1 => ?_
  refine l2 σ H1 ρ μ1 _ _ S1 h1 fun l μ2 H2 e2 S2 h2 => ?_
  refine l3 σ H2 ρ μ2 _ _ S2 h2 fun u μ3 H3 e3 S3 h3 => ?_
  have rx3 := (rx.ext S1.mu e2).ext S2.mu e3
  have ee := e1.trans (e2.trans e3)
  unfold rSlD at h3
  split at h3
  · rename_i xs
    cases id rx3 with
    | @tuple a us _ ha ra =>
      refine .inr ⟨a, us, rfl, ha, fun hw => ?_, fun p hp => ?_⟩
      · refine k (.v _) _ μ3 H3 ee S3 (show Rp _ _ _ (.tuple (cutP xs l u)) _ from ?_) h3
        rw [cut_all (by rw [ra.length]; exact hw)]
        exact rx3
      · exact k (.v _) _ μ3 _ (ee.trans (ext_new hp)) (S3.new hp) (rp_tup_new S3.mu ra.cut hp) h3
  · rename_i xs
    cases id rx3 with
    | @list a us _ ha hn ra => exact .inl ⟨a, us, rfl, SqL.of ha, fun p hp => k (.v _) _ μ3 _ (ee.trans (ext_new hp)) (S3.new hp) (rp_lst_new S3.mu ra.cut hp) h3⟩
  · rename_i a
    obtain ⟨rfl, ds, hm⟩ := rx3
    rw [hm] at h3
    obtain ⟨us, ha, ra⟩ := S3.mu a ds hm
    exact .inl ⟨a, us, rfl, SqL.of ha, fun p hp => k (.v _) _ μ3 _ (ee.trans (ext_new hp)) (S3.new hp) (rp_lst_new S3.mu ra.cut hp) h3⟩
  · exact h3.elim
def tRev (K : PySem.W.Frag) (te : TE) : TE := fun σ H Q => te σ H fun x H1 => ∃ a xs, x = .ref a ∧ ((SqL K H1 a xs ∧ ∀ p, H1 p = none → Q (.ref p) (upd H1 p (.lst xs.reverse))) ∨ (SqT K H1 a xs ∧ ∀ p, H1 p = none → Q (.ref p) (upd H1 p (.tup xs.reverse))))
theorem Vals.rev {xs : List V} {us : List Value} (h : Vals xs us) : Vals xs.reverse us.reverse := Vals.reverse h
theorem pe_rev {te : TE} {j : Nat} {pz q2 : Pos} (he : PE X e te) : PE X (.Subscript e (.Slice none none (some (.UnaryOp .USub (.Constant (.int 1) j pz) q2)) p2) pos) (tRev X.K te) := by
  intro pins s σ H Q I h
  refine Subscript_ (thn (he pins s σ H _ I h) fun v s1 ⟨x, H1, I1, r1, q1⟩ => ?_)
  refine wpAny_Slice ?_
  rw [evalPart_none, evalPart_some]
  refine wpAny_pure (wpAny_pure ?_)
  refine thn ((pe_un un_neg (pe_int (X := X) (i := 1) (j := j) (pos := pz))) pins s1 σ H1 (fun u H2 => u = .int (-1) ∧ H2 = H1) I1 ⟨1, rfl, rfl, rfl⟩) fun st s2 ⟨z, H2, I2, r2, e2, e3⟩ => ?_
  subst e2 e3
  obtain ⟨tk, rfl⟩ := r2
  have I4 : Inv X pins σ H2 { s2 with heap := s2.heap.push { cls := .type "slice", data := .fields #[.none, .none, .int (-1) tk] } } := I2.kept (t' := s2.toks) fun b ob q => Heap.get?_push_of_some _ q
  obtain ⟨a, xs, rfl, q1⟩ := q1
  cases r1
  have hsl : ({ s2 with heap := s2.heap.push { cls := .type "slice", data := .fields #[.none, .none, .int (-1) tk] } } : Shared).heap.IsSliceOf s2.heap.objs.size .none .none (.int (-1) tk) := Heap.IsSliceOf.new ..
  rcases q1 with ⟨hx, q⟩ | ⟨hx, q⟩
  · obtain ⟨its, r, ht, hz⟩ := I4.list hx
    have hlen := r.length
    refine tail_any (ops := [.ref a, .ref s2.heap.objs.size]) ht.isList.typeIs slot_list_getitem.lookup ?_ (by with_unfolding_all rfl)
    refine wpAny_getItem_list_slice ht.isList hsl .none .none (.int (-1) tk) (by decide) ?_ (by rw [List.size_toArray] <;> omega)
    rw [PySem.W.krv_pick]
    refine ⟨.ref _, _, I4.laid (t' := s2.toks) (o := .lst xs.reverse) (fun b ob q => Heap.get?_push_of_some _ q) (Nat.le_refl _) ?_, rfl, q _ (I4.hok.fresh (Nat.le_refl _))⟩
    exact ⟨by rw [List.length_reverse]; exact hz, _, 0, Vals.rev r, Heap.get?_push_size _ rfl⟩
  · obtain ⟨its, r, ht, hz⟩ := I4.tuple hx
    have hlen := r.length
    refine tail_any (ops := [.ref a, .ref s2.heap.objs.size]) ht.typeIs PyProof.Rows.slot_tuple_getitem.lookup ?_ (by with_unfolding_all rfl)
    refine HT.getItem_tuple_rev ht hsl ?_ (by rw [List.size_toArray] <;> omega)
    refine ⟨.ref _, _, I4.laid (t' := s2.toks) (o := .tup xs.reverse) (fun b ob q => Heap.get?_push_of_some _ q) (Nat.le_refl _) ?_, rfl, q _ (I4.hok.fresh (Nat.le_refl _))⟩
    exact ⟨by rw [List.length_reverse]; exact hz, _, Vals.rev r, IsTup.new _ _⟩
def dRev (te : DTE) : DTE := fun ρ μ Q => te ρ μ fun x μ1 => match x with
  | .v (.tuple xs) => Q (.v (.tuple xs.reverse)) μ1
  | .v (.list xs) => Q (.v (.list xs.reverse)) μ1
  | .m l => (match μ1 l with | some xs => Q (.v (.list xs.reverse)) μ1 | none => False)
  | _ => False
theorem de_rev {j : Nat} {pz q2 : Pos} (he : DE X e te) : DE X (.Subscript e (.Slice none none (some (.UnaryOp .USub (.Constant (.int 1) j pz) q2)) p2) pos) (dRev te) := by
  obtain ⟨t1, p1, l1⟩ := he
  refine ⟨_, pe_rev p1, fun σ H ρ μ Qd Q S h k => ?_⟩
  refine l1 σ H ρ μ _ _ S h fun x ux μ1 H1 e1 S1 rx h1 => ?_
  split at h1
  · cases rx with
    | @tuple a us _ ha ra => exact ⟨a, us, rfl, .inr ⟨ha, fun p hp => k (.v _) _ μ1 _ (e1.trans (ext_new hp)) (S1.new hp) (rp_tup_new S1.mu ra.reverse hp) h1⟩⟩
  · cases rx with
    | @list a us _ ha hn ra => exact ⟨a, us, rfl, .inl ⟨SqL.of ha, fun p hp => k (.v _) _ μ1 _ (e1.trans (ext_new hp)) (S1.new hp) (rp_lst_new S1.mu ra.reverse hp) h1⟩⟩
  · rename_i a
    obtain ⟨rfl, ds, hm⟩ := rx
    rw [hm] at h1
    obtain ⟨us, ha, ra⟩ := S1.mu a ds hm
    exact ⟨a, us, rfl, .inl ⟨SqL.of ha, fun p hp => k (.v _) _ μ1 _ (e1.trans (ext_new hp)) (S1.new hp) (rp_lst_new S1.mu ra.reverse hp) h1⟩⟩
  · exact h1.elim
end
open PySem PySem.Spec PyProof.Rows
section
variable {X : Cx} {a b e : Expr} {es : List Expr} {ta tb te : DTE} {t : DTA} {p pos : Pos} {x : Str} {bid T : String}
def LiftC (K : PySem.W.Frag) (r : List V → Hp → VK → Prop) (rd : List D → Mu → DK → Prop) : Prop := ∀ (xs : List D) (us : List V) (H : Hp) (μ : Mu) (Qd : DK) (Q : VK), MuOk K μ H → RpDs K μ H xs us → rd xs μ Qd →
  (∀ d u μ' H', Ext K μ H μ' H' → MuOk K μ' H' → RpD K μ' H' d u → Qd d μ' → Q u H') → r us H Q
def dCB (rd : List D → Mu → DK → Prop) (t : DTA) : DTE := fun ρ μ Q => t ρ μ fun ds μ1 => rd ds μ1 Q
theorem lift_cb {K : PySem.W.Frag} {n : Nat} {r : List V → Hp → VK → Prop} {rd : List D → Mu → DK → Prop} {t1 : TA} (lc : LiftC K r rd) (l1 : LiftA K n t1 t) : LiftE K (tCB r t1) (dCB rd t) := by
  intro σ H ρ μ Qd Q S h k
  refine l1 σ H ρ μ _ _ S h fun xs us μ1 H1 e1 S1 rs len h1 => ?_
  exact lc xs us H1 μ1 _ _ S1.mu rs h1 fun d u μ' H' e2 ok r q => k d u μ' H' (e1.trans e2) ⟨ok, S1.rho.ext S1.mu e2⟩ r q
theorem de_callB {r : List V → Hp → VK → Prop} {rd : List D → Mu → DK → Prop} (hc : CallR X (.builtin bid) r) (lc : LiftC X.K r rd) (hg : Gl X x) (hm : X.mg x = none) (hv : bootBuiltins x = some (.builtin bid)) (ha : DA X (e :: es) t) (hn : x ≠ "__name__" := by decide) (hdb : (x == ("__debug__" : Str)) = false := by decide)
    (he : starEach (e :: es) X.env = (false, eval e X.env) :: starEach es X.env := by rfl) (hpl : (backTo pos (starEach es X.env)).any (·.1) = false := by rfl) : DE X (.Call (.Name x p) (e :: es) [] pos) (dCB rd t) := by
  obtain ⟨t1, p1, l1⟩ := ha
  exact ⟨_, pe_callB hc hg hm hv p1 hn hdb he hpl, lift_cb lc l1⟩
theorem de_callTy {r : List V → Hp → VK → Prop} {rd : List D → Mu → DK → Prop} (hc : CallR X (.type T) r) (lc : LiftC X.K r rd) (hg : Gl X x) (hm : X.mg x = none) (hv : bootBuiltins x = some (.type T)) (ha : DA X (e :: es) t) (hn : x ≠ "__name__" := by decide) (hdb : (x == ("__debug__" : Str)) = false := by decide)
    (he : starEach (e :: es) X.env = (false, eval e X.env) :: starEach es X.env := by rfl) (hpl : (backTo pos (starEach es X.env)).any (·.1) = false := by rfl) : DE X (.Call (.Name x p) (e :: es) [] pos) (dCB rd t) := by
  obtain ⟨t1, p1, l1⟩ := ha
  exact ⟨_, pe_callTy hc hg hm hv p1 hn hdb he hpl, lift_cb lc l1⟩
def rLenD : List D → Mu → DK → Prop := fun xs μ Q => match xs with
  | [.v (.list ys)] => Q (.v (.int (ys.length : Nat))) μ
  | [.v (.tuple ys)] => Q (.v (.int (ys.length : Nat))) μ
  | [.m l] => (match μ l with | some ys => Q (.v (.int (ys.length : Nat))) μ | none => False)
  | [.s ns] => Q (.v (.int (ns.length : Nat))) μ
  | _ => False
theorem lc_len {K : PySem.W.Frag} : LiftC K (fun xs H Q => ∃ p ys, xs = [.ref p] ∧ (SqL K H p ys ∨ SqT K H p ys) ∧ Q (.int ys.length) H) rLenD := by
  intro xs us H μ Qd Q ok rs h k
  unfold rLenD at h
  split at h
  · cases rs with
    | cons r1 r2 =>
      cases r2
      cases r1 with
      | list hs hn r => exact ⟨_, _, rfl, .inl (SqL.of hs), k (.v _) _ μ H .refl ok (by rw [← r.length]; exact Rp.int _) h⟩
  · cases rs with
    | cons r1 r2 =>
      cases r2
      cases r1 with
      | tuple hs r => exact ⟨_, _, rfl, .inr hs, k (.v _) _ μ H .refl ok (by rw [← r.length]; exact Rp.int _) h⟩
  · cases rs with
    | cons r1 r2 =>
      cases r2
      obtain ⟨rfl, ds, hm⟩ := r1
      rw [hm] at h
      obtain ⟨us, hl, r⟩ := ok _ ds hm
      exact ⟨_, _, rfl, .inl (SqL.of hl), k (.v _) _ μ H .refl ok (by rw [← r.length]; exact Rp.int _) h⟩
  · cases rs with
    | cons r1 r2 =>
      cases r2
      obtain ⟨a, rfl, hs, hn⟩ := r1
      exact ⟨_, _, rfl, .inl hs, k (.v _) _ μ H .refl ok (by rw [List.length_map]; exact Rp.int _) h⟩
  · exact h.elim
theorem de_len (hg : Gl X "len") (hm : X.mg "len" = none) (ha : DA X (e :: es) t)
    (he : starEach (e :: es) X.env = (false, eval e X.env) :: starEach es X.env := by rfl) (hpl : (backTo pos (starEach es X.env)).any (·.1) = false := by rfl) : DE X (.Call (.Name "len" p) (e :: es) [] pos) (dCB rLenD t) :=
  de_callB call_len_seq lc_len hg hm PySem.boot_len ha (by decide) (by decide) he hpl
def rAbsD : List D → Mu → DK → Prop := fun xs μ Q => match xs with
  | [.v (.int i)] => Q (.v (.int (i.natAbs : Nat))) μ
  | _ => False
theorem lc_abs {K : PySem.W.Frag} : LiftC K (fun xs H Q => ∃ i, xs = [.int i] ∧ Q (.int (if i < 0 then -i else i)) H) rAbsD := by
  intro xs us H μ Qd Q ok rs h k
  unfold rAbsD at h
  split at h
  · rename_i i
    cases rs with
    | cons r1 r2 =>
      cases r2
      cases r1
      refine ⟨i, rfl, k (.v (.int (i.natAbs : Nat))) _ μ H .refl ok ?_ h⟩
      have : (if i < 0 then -i else i) = ((i.natAbs : Nat) : Int) := by split <;> omega
      rw [this]
      exact Rp.int _
  · exact h.elim
theorem de_abs (hg : Gl X "abs") (hm : X.mg "abs" = none) (ha : DA X (e :: es) t)
    (he : starEach (e :: es) X.env = (false, eval e X.env) :: starEach es X.env := by rfl) (hpl : (backTo pos (starEach es X.env)).any (·.1) = false := by rfl) : DE X (.Call (.Name "abs" p) (e :: es) [] pos) (dCB rAbsD t) :=
  de_callB call_abs lc_abs hg hm PyProof.Rows.Boot.«abs» ha (by decide) (by decide) he hpl
def r2ID (g : Int → Int → Int) : List D → Mu → DK → Prop := fun xs μ Q => match xs with
  | [.v (.int i), .v (.int j)] => Q (.v (.int (g i j))) μ
  | _ => False
theorem lc_2I {K : PySem.W.Frag} {g g' : Int → Int → Int} (hg : ∀ i j, g i j = g' i j) : LiftC K (fun xs H Q => ∃ i j, xs = [.int i, .int j] ∧ Q (.int (g i j)) H) (r2ID g') := by
  intro xs us H μ Qd Q ok rs h k
  unfold r2ID at h
  split at h
  · rename_i i j
    cases rs with
    | cons r1 r2 =>
      cases r2 with
      | cons r2 r3 =>
        cases r3
        cases r1
        cases r2
        exact ⟨i, j, rfl, k (.v _) _ μ H .refl ok (by rw [hg]; exact Rp.int _) h⟩
  · exact h.elim
theorem de_max (hc : X.calm = true) (hg : Gl X "max") (hm : X.mg "max" = none) (ha : DA X (e :: es) t)
    (he : starEach (e :: es) X.env = (false, eval e X.env) :: starEach es X.env := by rfl) (hpl : (backTo pos (starEach es X.env)).any (·.1) = false := by rfl) : DE X (.Call (.Name "max" p) (e :: es) [] pos) (dCB (r2ID max) t) :=
  de_callB (call_max2 hc) (lc_2I (fun i j => by show (if j > i then j else i) = max i j; simp only [Int.max_def]; split <;> split <;> omega)) hg hm PyProof.Rows.Boot.«max» ha (by decide) (by decide) he hpl
theorem de_min (hc : X.calm = true) (hg : Gl X "min") (hm : X.mg "min" = none) (ha : DA X (e :: es) t)
    (he : starEach (e :: es) X.env = (false, eval e X.env) :: starEach es X.env := by rfl) (hpl : (backTo pos (starEach es X.env)).any (·.1) = false := by rfl) : DE X (.Call (.Name "min" p) (e :: es) [] pos) (dCB (r2ID min) t) :=
  de_callB (call_min2 hc) (lc_2I (fun i j => by show (if j < i then j else i) = min i j; simp only [Int.min_def]; split <;> split <;> omega)) hg hm PyProof.Rows.Boot.«min» ha (by decide) (by decide) he hpl
def rIntD : List D → Mu → DK → Prop := fun xs μ Q => match xs with
  | [.v (.int i)] => Q (.v (.int i)) μ
  | [.v (.bool k)] => Q (.v (.int (if k then 1 else 0))) μ
  | _ => False
theorem lc_int {K : PySem.W.Frag} : LiftC K (fun xs H Q => (∃ i, xs = [.int i] ∧ Q (.int i) H) ∨ ∃ k, xs = [.bl k] ∧ Q (.int (if k then 1 else 0)) H) rIntD := by
  intro xs us H μ Qd Q ok rs h k
  unfold rIntD at h
  split at h
  · rename_i i
    cases rs with
    | cons r1 r2 => cases r2; cases r1; exact .inl ⟨i, rfl, k (.v _) _ μ H .refl ok (Rp.int _) h⟩
  · rename_i b
    cases rs with
    | cons r1 r2 => cases r2; cases r1; exact .inr ⟨b, rfl, k (.v _) _ μ H .refl ok (Rp.int _) h⟩
  · exact h.elim
theorem de_intOf (hg : Gl X "int") (hm : X.mg "int" = none) (ha : DA X (e :: es) t)
    (he : starEach (e :: es) X.env = (false, eval e X.env) :: starEach es X.env := by rfl) (hpl : (backTo pos (starEach es X.env)).any (·.1) = false := by rfl) : DE X (.Call (.Name "int" p) (e :: es) [] pos) (dCB rIntD t) :=
  de_callTy call_int1 lc_int hg hm PyProof.Rows.Boot.«int» ha (by decide) (by decide) he hpl
def rListD : List D → Mu → DK → Prop := fun xs μ Q => match xs with
  | [.v (.list ys)] => Q (.v (.list ys)) μ
  | [.v (.tuple ys)] => Q (.v (.list ys)) μ
  | _ => False
theorem lc_list {K : PySem.W.Frag} : LiftC K (fun xs H Q => ∃ p ys, xs = [.ref p] ∧ (SqL K H p ys ∨ SqT K H p ys) ∧ ∀ l, H l = none → Q (.ref l) (upd H l (.lst ys))) rListD := by
  intro xs us H μ Qd Q ok rs h k
  unfold rListD at h
  split at h
  · cases rs with
    | cons r1 r2 =>
      cases r2
      cases r1 with
      | list hs hn r => exact ⟨_, _, rfl, .inl (SqL.of hs), fun p hp => k (.v _) _ μ _ (ext_new hp) (ok.new hp) (rp_lst_new ok r hp) h⟩
  · cases rs with
    | cons r1 r2 =>
      cases r2
      cases r1 with
      | tuple hs r => exact ⟨_, _, rfl, .inr hs, fun p hp => k (.v _) _ μ _ (ext_new hp) (ok.new hp) (rp_lst_new ok r hp) h⟩
  · exact h.elim
theorem de_list (hg : Gl X "list") (hm : X.mg "list" = none) (ha : DA X (e :: es) t)
    (he : starEach (e :: es) X.env = (false, eval e X.env) :: starEach es X.env := by rfl) (hpl : (backTo pos (starEach es X.env)).any (·.1) = false := by rfl) : DE X (.Call (.Name "list" p) (e :: es) [] pos) (dCB rListD t) :=
  de_callTy call_list_of lc_list hg hm PyProof.Rows.Boot.«list» ha (by decide) (by decide) he hpl
theorem bools_of : ∀ {bs : List Bool} {us : List Value}, Vals (bs.map V.bl) us → us = bs.map Value.bool
  | [], _, .nil => rfl
  | b :: r, _, .cons h t => by cases h; rw [bools_of t]; rfl
theorem call_allL (hc : X.calm = true) : CallR X (.builtin "all") (fun xs H Q => ∃ (p : Addr) (bs : List Bool), xs = [.ref p] ∧ H p = some (.lst (bs.map V.bl)) ∧ Q (.bl (bs.all id)) H) := by
  intro pins s σ H xs us Q I r h
  obtain ⟨l, bs, rfl, hl, q⟩ := h
  obtain ⟨u, rfl, rx⟩ := vals1 r
  cases rx
  obtain ⟨its, rv, pl, _⟩ := I.list (SqL.of hl)
  have eb := bools_of rv
  subst eb
  have hL := pl.isList
  have hlt := pl.lt
  refine call_all_walk (wpAny_pyIter_list hL ?_)
  refine ⟨s.heap.objs.size, [s.heap.objs.size, l], [s.heap.objs.size], (bs.map Value.bool).toArray.size, _, _, fun i => (bs[i]?).getD true, rfl, Walks.list (A := X.A.in1) (by exact I.ok.hd hc) _ l (Nat.ne_of_lt hlt) (bs.map Value.bool).toArray,
    ⟨⟨_, Heap.get?_push_size _ rfl, rfl, rfl⟩, hL.push _⟩, fun i v s' Q' E' hP hQ => ?_, fun h' tk hk => ?_⟩
  · have hP' : (bs.map Value.bool)[i]? = some v := by simpa using hP
    rw [List.getElem?_map] at hP'
    cases z : bs[i]? with
    | none => rw [z] at hP'; cases hP'
    | some b =>
      rw [z] at hP'
      cases hP'
      simp only [z, Option.getD_some] at hQ
      exact wpAny_truthy_bool hQ
  · have e : ((List.range (bs.map Value.bool).toArray.size).all fun i => (bs[i]?).getD true) = bs.all id := by
      rw [List.size_toArray, List.length_map]; exact PyProof.Rows.LSm.range_all bs
    rw [e]
    exact ⟨.bl (bs.all id), H, I.kept (PyProof.Rows.LSm.kept_iter hk), rfl, q⟩
def asBools : List PyData → Option (List Bool)
  | [] => some []
  | .bool b :: r => (asBools r).map (b :: ·)
  | _ :: _ => none
theorem asBools_rp {K : PySem.W.Frag} {μ : Mu} {H : Hp} : ∀ {xs : List PyData} {us : List V} {bs : List Bool}, RpL K μ H xs us → asBools xs = some bs → us = bs.map V.bl
  | _, _, _, .nil, e => by cases e; rfl
  | .bool b :: r, _, bs, .cons h t, e => by
    simp only [asBools] at e
    cases q : asBools r with
    | none => rw [q] at e; cases e
    | some cs => rw [q] at e; cases e; cases h; rw [asBools_rp t q]; rfl
  | .none :: r, _, bs, .cons h t, e => by simp [asBools] at e
  | .int _ :: r, _, bs, .cons h t, e => by simp [asBools] at e
  | .str _ :: r, _, bs, .cons h t, e => by simp [asBools] at e
  | .list _ :: r, _, bs, .cons h t, e => by simp [asBools] at e
  | .tuple _ :: r, _, bs, .cons h t, e => by simp [asBools] at e
  | .dict _ :: r, _, bs, .cons h t, e => by simp [asBools] at e
def rAllD : List D → Mu → DK → Prop := fun xs μ Q => match xs with
  | [.v (.list ys)] => (match asBools ys with | some bs => Q (.v (.bool (bs.all id))) μ | none => False)
  | _ => False
theorem lc_all {K : PySem.W.Frag} : LiftC K (fun xs H Q => ∃ (p : Addr) (bs : List Bool), xs = [.ref p] ∧ H p = some (.lst (bs.map V.bl)) ∧ Q (.bl (bs.all id)) H) rAllD := by
  intro xs us H μ Qd Q ok rs h k
  unfold rAllD at h
  split at h
  · rename_i ys
    cases q : asBools ys with
    | none => rw [q] at h; exact h.elim
    | some bs =>
      rw [q] at h
      cases rs with
      | cons r1 r2 =>
        cases r2
        cases r1 with
        | list hs hn r => exact ⟨_, bs, rfl, by rw [hs, asBools_rp r q], k (.v _) _ μ H .refl ok (Rp.bool _) h⟩
  · exact h.elim
theorem de_all (hc : X.calm = true) (hg : Gl X "all") (hm : X.mg "all" = none) (ha : DA X (e :: es) t)
    (he : starEach (e :: es) X.env = (false, eval e X.env) :: starEach es X.env := by rfl) (hpl : (backTo pos (starEach es X.env)).any (·.1) = false := by rfl) : DE X (.Call (.Name "all" p) (e :: es) [] pos) (dCB rAllD t) :=
  de_callB (call_allL hc) lc_all hg hm PyProof.Rows.Boot.«all» ha (by decide) (by decide) he hpl
def tyD : PyData → String
  | .none => "NoneType"
  | .bool _ => "bool"
  | .int _ => "int"
  | .str _ => "str"
  | .list _ => "list"
  | .tuple _ => "tuple"
  | .dict _ => "dict"
def isT (T : String) (d : PyData) : Bool := tyD d == T || (T == "int" && tyD d == "bool")
theorem isinst_rp {pins : List (Addr × Obj)} {σ : St} {H : Hp} {s : Shared} {μ : Mu} {d : PyData} {u : V} {v : Value} {k : Bool} {A : Around} {E : Value → Shared → Prop} {Q : Value → Shared → Prop} (I : Inv X pins σ H s) (r : Rp X.K μ H d u) (rx : RelV u v)
    (ek : PySem.W.kitOne X.K (.type (tyD d)) (.type T) = some k) (h : ∀ tk, Q (.bool k) { s with toks := tk }) : wpAny (model X.prog X.w) A (call (.builtin "isinstance") [v, .type T]) Q E s := by
  cases r with
  | none => cases rx; exact PySem.W.kia_one PySem.W.kitx_none I.kIn True.intro ek (fun z => nomatch z) h
  | bool b => cases rx; exact PySem.W.kia_one PySem.W.kitx_bool I.kIn True.intro ek (fun z => nomatch z) h
  | int i => obtain ⟨t, rfl⟩ := rx; exact PySem.W.kia_one PySem.W.kitx_int I.kIn True.intro ek (fun z => nomatch z) h
  | str y => obtain ⟨t, rfl⟩ := rx; exact PySem.W.kia_one PySem.W.kitx_str I.kIn True.intro ek (fun z => nomatch z) h
  | list hs hn q =>
    cases rx
    obtain ⟨its, rv, ⟨o, n, h1, h2, _⟩, _⟩ := I.list (SqL.of hs)
    exact PySem.W.kia_one PySem.W.kitx_list I.kIn ⟨o, h1, h2⟩ ek (fun z => nomatch z) h
  | tuple hs q =>
    cases rx
    obtain ⟨its, rv, ⟨o, h1, h2, _⟩, _⟩ := I.tuple hs
    exact PySem.W.kia_one PySem.W.kitx_tuple I.kIn ⟨o, h1, h2⟩ ek (fun z => nomatch z) h
theorem kit_int (K : PySem.W.Frag) (d : PyData) : PySem.W.kitOne K (.type (tyD d)) (.type "int") = some (isT "int" d) := by cases d <;> rfl
theorem kit_bool (K : PySem.W.Frag) (d : PyData) : PySem.W.kitOne K (.type (tyD d)) (.type "bool") = some (isT "bool" d) := by cases d <;> rfl
theorem kit_tuple (K : PySem.W.Frag) (d : PyData) : PySem.W.kitOne K (.type (tyD d)) (.type "tuple") = some (isT "tuple" d) := by cases d <;> rfl
theorem call_isinst (kt : ∀ d, PySem.W.kitOne X.K (.type (tyD d)) (.type T) = some (isT T d)) : CallR X (.builtin "isinstance") (fun xs H Q => ∃ μ d u, xs = [u, .ty T] ∧ Rp X.K μ H d u ∧ Q (.bl (isT T d)) H) := by
  intro pins s σ H xs us Q I r h
  obtain ⟨μ, d, u, rfl, rd, q⟩ := h
  obtain ⟨v, w', rfl, r1, r2⟩ := vals2 r
  cases r2
  exact isinst_rp I rd r1 (kt d) fun tk => ⟨.bl (isT T d), H, I.tok _, rfl, q⟩
def dIsi (T : String) (te : DTE) : DTE := fun ρ μ Q => te ρ μ fun x μ1 => match x with
  | .v d => Q (.v (.bool (isT T d))) μ1
  | _ => False
theorem de_isi {y : Str} {py : Pos} (kt : ∀ d, PySem.W.kitOne X.K (.type (tyD d)) (.type T) = some (isT T d)) (hg : Gl X "isinstance") (hm : X.mg "isinstance" = none) (hgy : Gl X y) (hmy : X.mg y = none) (hvy : bootBuiltins y = some (.type T)) (ha : DE X e te)
    (hny : y ≠ "__name__" := by decide) (hdy : (y == ("__debug__" : Str)) = false := by decide)
    (he : starEach [e, .Name y py] X.env = (false, eval e X.env) :: starEach [.Name y py] X.env := by rfl) (he2 : starEach [.Name y py] X.env = [(false, eval (.Name y py) X.env)] := by rfl) (hpl : (backTo pos (starEach [.Name y py] X.env)).any (·.1) = false := by rfl) : DE X (.Call (.Name "isinstance" p) [e, .Name y py] [] pos) (dIsi T te) := by
  obtain ⟨t1, p1, l1⟩ := ha
  refine ⟨_, pe_callB (call_isinst kt) hg hm PyProof.Rows.Boot.«isinstance» (pa_cons p1 (pa_cons (pe_bltn (v := .ty T) hgy hmy hvy rfl hny hdy) pa_nil he2) he) (by decide) (by decide) he hpl, fun σ H ρ μ Qd Q S h k => ?_⟩
  refine l1 σ H ρ μ _ _ S h fun x ux μ1 H1 e1 S1 rx h1 => ?_
  split at h1
  · exact ⟨μ1, _, ux, rfl, rx, k (.v _) _ μ1 H1 e1 S1 (Rp.bool _) h1⟩
  · exact h1.elim
def rIsD : D → D → Mu → DK → Prop := fun x y μ Q => match x, y with
  | .v (.bool i), .v (.bool j) => Q (.v (.bool (i == j))) μ
  | .v .none, .v .none => Q (.v (.bool true)) μ
  | _, _ => False
end
open PySem PySem.Spec PyProof.Rows
section
variable {X : Cx} {a b e : Expr} {es : List Expr} {ta tb te : DTE} {t : DTA} {p pos : Pos} {st : Stmt} {rest sts : List Stmt} {td ud : DTS} {tc : DTT}
def dNext : DTS := fun Dd ρ μ => Dd.nx ρ μ
def dSeq (t u : DTS) : DTS := fun Dd ρ μ => t { Dd with nx := u Dd } ρ μ
def dRet (te : DTE) : DTS := fun Dd ρ μ => te ρ μ Dd.rt
def dDrop (te : DTE) : DTS := fun Dd ρ μ => te ρ μ fun _ μ1 => Dd.nx ρ μ1
def dIfS (c : DTT) (t u : DTS) : DTS := fun Dd ρ μ => c ρ μ fun b μ1 => if b = true then t Dd ρ μ1 else u Dd ρ μ1
theorem dss_nil : DSs X [] dNext := ⟨_, pss_nil, fun σ H ρ μ Dd De S h k1 k2 k3 k4 => k1 σ ρ μ H .refl S h⟩
theorem dss_one (h : DS X st td) : DSs X [st] td := let ⟨t, p, l⟩ := h; ⟨t, pss_one p, l⟩
theorem lift_seq {K : PySem.W.Frag} {t u : TS} (l1 : LiftS K t td) (l2 : LiftS K u ud) : LiftS K (tSeq t u) (dSeq td ud) := by
  intro σ H ρ μ Dd De S h k1 k2 k3 k4
  refine l1 σ H ρ μ _ _ S h (fun σ' ρ' μ' H' e' S' h' => ?_) k2 k3 k4
  exact l2 σ' H' ρ' μ' Dd De S' h' (fun a b c d e2 => k1 a b c d (e'.trans e2)) (fun a b c d e2 => k2 a b c d (e'.trans e2)) (fun a b c d e2 => k3 a b c d (e'.trans e2)) (fun a b c d e2 => k4 a b c d (e'.trans e2))
theorem dss_cons (h1 : DS X st td) (h2 : DSs X rest ud) : DSs X (st :: rest) (dSeq td ud) := by
  obtain ⟨t1, p1, l1⟩ := h1
  obtain ⟨t2, p2, l2⟩ := h2
  exact ⟨_, pss_cons p1 p2, lift_seq l1 l2⟩
theorem ds_ret (he : DE X e te) : DS X (.Return (some e) pos) (dRet te) := by
  obtain ⟨t1, p1, l1⟩ := he
  exact ⟨_, ps_ret p1, fun σ H ρ μ Dd De S h k1 k2 k3 k4 => l1 σ H ρ μ _ _ S h fun d u μ' H' e' S' r q => k2 d u μ' H' e' S'.mu r q⟩
theorem ds_expr (he : DE X e te) (hs : swapsWith e none pos.line X.env = pure false := by rfl) : DS X (.Expr e pos) (dDrop te) := by
  obtain ⟨t1, p1, l1⟩ := he
  exact ⟨_, ps_expr p1 hs, fun σ H ρ μ Dd De S h k1 k2 k3 k4 => l1 σ H ρ μ _ _ S h fun d u μ' H' e' S' r q => k1 σ ρ μ' H' e' S' q⟩
theorem ds_if {c : Expr} {x y : List Stmt} (hc : DT X c tc) (ha : DSs X x td) (hb : DSs X y ud) : DS X (.If c x y pos) (dIfS tc td ud) := by
  obtain ⟨t0, p0, l0⟩ := hc
  obtain ⟨t1, p1, l1⟩ := ha
  obtain ⟨t2, p2, l2⟩ := hb
  refine ⟨_, ps_if p0 p1 p2, fun σ H ρ μ Dd De S h k1 k2 k3 k4 => ?_⟩
  refine l0 σ H ρ μ _ _ S h fun c μ1 H1 e1 S1 h1 => ?_
  cases c with
  | true => exact iteT (l1 σ H1 ρ μ1 Dd De S1 (by simpa using h1) (fun a b c d e2 => k1 a b c d (e1.trans e2)) (fun a b c d e2 => k2 a b c d (e1.trans e2)) (fun a b c d e2 => k3 a b c d (e1.trans e2)) (fun a b c d e2 => k4 a b c d (e1.trans e2)))
  | false => exact iteF (l2 σ H1 ρ μ1 Dd De S1 (by simpa using h1) (fun a b c d e2 => k1 a b c d (e1.trans e2)) (fun a b c d e2 => k2 a b c d (e1.trans e2)) (fun a b c d e2 => k3 a b c d (e1.trans e2)) (fun a b c d e2 => k4 a b c d (e1.trans e2)))
abbrev DTG := D → Rho → Mu → (Rho → Mu → Prop) → Prop
abbrev DTGs := List PyData → Rho → Mu → (Rho → Mu → Prop) → Prop
def LiftG (K : PySem.W.Frag) (g : TG) (gd : DTG) : Prop := ∀ (σ : St) (H : Hp) (ρ : Rho) (μ : Mu) (d : D) (u : V) (Qd : Rho → Mu → Prop) (Q : St → Hp → Prop), St0 K H ρ μ σ → RpD K μ H d u → gd d ρ μ Qd →
  (∀ σ' ρ' μ' H', Ext K μ H μ' H' → St0 K H' ρ' μ' σ' → Qd ρ' μ' → Q σ' H') → g u σ H Q
def LiftGs (K : PySem.W.Frag) (g : TGs) (gd : DTGs) : Prop := ∀ (σ : St) (H : Hp) (ρ : Rho) (μ : Mu) (ds : List PyData) (us : List V) (Qd : Rho → Mu → Prop) (Q : St → Hp → Prop), St0 K H ρ μ σ → RpL K μ H ds us → gd ds ρ μ Qd →
  (∀ σ' ρ' μ' H', Ext K μ H μ' H' → St0 K H' ρ' μ' σ' → Qd ρ' μ' → Q σ' H') → g us σ H Q
def DG (X : Cx) (tg : Expr) (gd : DTG) : Prop := ∃ g, PG X tg g ∧ LiftG X.K g gd
def DGs (X : Cx) (tg : List Expr) (gd : DTGs) : Prop := ∃ g, PGs X tg g ∧ LiftGs X.K g gd
theorem RhoOk.set {K : PySem.W.Frag} {μ : Mu} {H : Hp} {ρ : Rho} {σ : St} {i : Nat} {d : D} {u : V} (r : RhoOk K μ H ρ σ) (h : RpD K μ H d u) : RhoOk K μ H (ρ.set i (some d)) (σ.set i (some u)) := by
  refine ⟨by rw [List.length_set, List.length_set]; exact r.1, fun j d' e => ?_⟩
  by_cases hj : i = j
  · subst hj
    have hl : i < ρ.length := by
      have := (List.getElem?_eq_some_iff.mp e).1
      rw [List.length_set] at this
      exact this
    rw [List.getElem?_set_self hl] at e
    cases e
    exact ⟨u, List.getElem?_set_self (by rw [← r.1]; exact hl), h⟩
  · rw [List.getElem?_set_ne hj] at e
    obtain ⟨w, e1, e2⟩ := r.2 j d' e
    exact ⟨w, by rw [List.getElem?_set_ne hj]; exact e1, e2⟩
def gdName (i : Nat) : DTG := fun d ρ μ Q => Q (ρ.set i (some d)) μ
theorem lift_gname {K : PySem.W.Frag} {i : Nat} : LiftG K (gName i) (gdName i) := fun σ H ρ μ d u Qd Q S r h k => k _ _ μ H .refl ⟨S.mu, S.rho.set r⟩ h
theorem dg_name {i : Nat} {x : Str} (hN : X.N.Nodup) (hi : X.N[i]? = some x) (hx : Loc X.env.scope x) (hf : X.fn x = true ∨ X.env.scope.names.lookup x = some .local := by first | exact .inl rfl | exact .inr rfl | assumption) : DG X (.Name x pos) (gdName i) := ⟨_, pg_name hN hi hx hf, lift_gname⟩
def gdNil : DTGs := fun ds ρ μ Q => match ds with
  | [] => Q ρ μ
  | _ => False
def gdCons (g : DTG) (gs : DTGs) : DTGs := fun ds ρ μ Q => match ds with
  | d :: r => g (.v d) ρ μ fun ρ1 μ1 => gs r ρ1 μ1 Q
  | _ => False
theorem dgs_nil : DGs X [] gdNil := ⟨_, pgs_nil, fun σ H ρ μ ds us Qd Q S r h k => by
  cases r with
  | nil => exact ⟨rfl, k σ ρ μ H .refl S h⟩
  | cons _ _ => exact h.elim⟩
theorem dgs_cons {g : DTG} {gs : DTGs} (h1 : DG X e g) (h2 : DGs X es gs) (hs : (assignEach (e :: es) X.env).map (·.2) = assign e X.env :: (assignEach es X.env).map (·.2) := by rfl) : DGs X (e :: es) (gdCons g gs) := by
  obtain ⟨t1, p1, l1⟩ := h1
  obtain ⟨t2, p2, l2⟩ := h2
  refine ⟨_, pgs_cons p1 p2 hs, fun σ H ρ μ ds us Qd Q S r h k => ?_⟩
  cases r with
  | nil => exact h.elim
  | @cons d u ds us r1 r2 =>
    refine ⟨u, us, rfl, l1 σ H ρ μ (.v d) u _ _ S r1 h fun σ' ρ' μ' H' e1 S' h1 => ?_⟩
    exact l2 σ' H' ρ' μ' ds us _ _ S' (r2.ext S.mu e1) h1 fun a b c d e2 => k a b c d (e1.trans e2)
def gdTup (n : Nat) (gs : DTGs) : DTG := fun d ρ μ Q => match d with
  | .v (.tuple xs) => xs.length = n ∧ gs xs ρ μ Q
  | _ => False
theorem dg_tup {k n : Nat} {gs : DTGs} (hc : X.calm = true) (h : DGs X es gs)
    (hn : (assignEach es X.env).length = n := by rfl) (hst : (assignEach es X.env).findIdx? (·.1) = none := by rfl) : DG X (.Tuple es k pos) (gdTup n gs) := by
  obtain ⟨t1, p1, l1⟩ := h
  refine ⟨_, pg_tup hc p1 hn hst, fun σ H ρ μ d u Qd Q S r h k => ?_⟩
  unfold gdTup at h
  split at h
  · cases r with
    | @tuple a us _ ha ra => exact ⟨a, us, rfl, ha, by rw [← ra.length]; exact h.1, l1 σ H ρ μ _ us _ _ S ra h.2 k⟩
  · exact h.elim
def gdSub (to ti : DTE) : DTG := fun d ρ μ Q => to ρ μ fun o μ1 => ti ρ μ1 fun i μ2 => match o, i, d with
  | .m l, .v (.int k), .v x => (match μ2 l with
    | some xs => (match ixN xs.length k with
      | some j => Q ρ (muSet μ2 l (xs.set j x))
      | none => False)
    | none => False)
  | _, _, _ => False
theorem dg_sub {o i : Expr} {to ti : DTE} (ho : DE X o to) (hi : DE X i ti)
    (ha : ∀ v, assign (.Subscript o i pos) X.env v = (do
      let ov ← holding [v] (eval o X.env)
      let iv ← holding [v, ov] (eval i X.env)
      standAt pos
      holding [v, ov, iv] (setItem ov iv v)
      release [v, ov, iv] []) := by intro _; rfl) : DG X (.Subscript o i pos) (gdSub to ti) := by
  obtain ⟨t1, p1, l1⟩ := ho
  obtain ⟨t2, p2, l2⟩ := hi
  refine ⟨_, pg_sub p1 p2 set_list ha, fun σ H ρ μ d u Qd Q S r h k => ?_⟩
  refine l1 σ H ρ μ _ _ S h fun x ux μ1 H1 e1 S1 rx h1 => ?_
  refine l2 σ H1 ρ μ1 _ _ S1 h1 fun y uy μ2 H2 e2 S2 ry h2 => ?_
  have r2 := (r.ext S.mu e1).ext S1.mu e2
  have rx2 := rx.ext S1.mu e2
  split at h2
  · rename_i l kk xv
    obtain ⟨rfl, ds, hm⟩ := rx2
    cases ry
    rw [hm] at h2
    obtain ⟨us, hl, rl⟩ := S2.mu l ds hm
    simp only at h2
    cases q : ixN ds.length kk with
    | none => rw [q] at h2; exact h2.elim
    | some j =>
      rw [q] at h2
      refine ⟨l, us, kk, j, rfl, rfl, hl, by rw [← rl.length]; exact q, ?_⟩
      have ex : Ext X.K μ2 H2 (muSet μ2 l (ds.set j xv)) (upd H2 l (.lst (us.set j u))) := ext_set hm
      exact k σ ρ _ _ (e1.trans (e2.trans ex)) ⟨S2.mu.set hm (rl.set r2 j), S2.rho.ext S2.mu ex⟩ h2
  · exact h2.elim
def dAsg (te : DTE) (g : DTG) : DTS := fun Dd ρ μ => te ρ μ fun d μ1 => g d ρ μ1 Dd.nx
theorem lift_asg {K : PySem.W.Frag} {t : TE} {g : TG} {gd : DTG} (l1 : LiftE K t te) (l2 : LiftG K g gd) : LiftS K (tAsg t g) (dAsg te gd) := by
  intro σ H ρ μ Dd De S h k1 k2 k3 k4
  refine l1 σ H ρ μ _ _ S h fun d u μ1 H1 e1 S1 r h1 => ?_
  exact l2 σ H1 ρ μ1 d u _ _ S1 r h1 fun a b c d e2 => k1 a b c d (e1.trans e2)
theorem ds_asg {tg : Expr} {g : DTG} (he : DE X e te) (hg : DG X tg g) (hs : swapsWithSole [tg] e pos.line X.env = pure false := by rfl) (hw : swappedStores [tg] e X.env = pure none := by rfl)
    (h1 : (assignEach [tg] X.env).map (·.2) = [assign tg X.env] := by rfl) : DS X (.Assign [tg] e pos) (dAsg te g) := by
  obtain ⟨t1, p1, l1⟩ := he
  obtain ⟨t2, p2, l2⟩ := hg
  exact ⟨_, ps_asg p1 p2 hs hw h1, lift_asg l1 l2⟩
theorem ds_set {i : Nat} {x : Str} {pos' : Pos} (hN : X.N.Nodup) (hi : X.N[i]? = some x) (hx : Loc X.env.scope x) (he : DE X e te) (hs : swapsWith e (some (.Name x pos')) pos.line X.env = pure false := by rfl) (hf : X.fn x = true ∨ X.env.scope.names.lookup x = some .local := by first | exact .inl rfl | exact .inr rfl | assumption) :
    DS X (.Assign [.Name x pos'] e pos) (dAsg te (gdName i)) := by
  obtain ⟨t1, p1, l1⟩ := he
  exact ⟨_, ps_set hN hi hx p1 hs hf, lift_asg l1 lift_gname⟩
def dPar (i j : Nat) (t : DTA) : DTS := fun Dd ρ μ => t ρ μ fun ds μ1 => match ds with
  | [v, w] => Dd.nx ((ρ.set i (some v)).set j (some w)) μ1
  | _ => False
theorem ds_par {i j : Nat} {x y : Str} {a b : Expr} {t : DTA} {px py pt : Pos} {kt k2 pt2} (hc : X.calm = true) (hN : X.N.Nodup) (hi : X.N[i]? = some x) (hj : X.N[j]? = some y) (hij : i ≠ j)
    (hx : X.env.scope.names.lookup x = some .local) (hy : X.env.scope.names.lookup y = some .local) (ha : DA X [a, b] t)
    (hw : swappedStores [.Tuple [.Name x px, .Name y py] kt pt] (.Tuple [a, b] k2 pt2) X.env = pure (some [x, y]))
    (hs : swapsWithSole [.Tuple [.Name x px, .Name y py] kt pt] (.Tuple [a, b] k2 pt2) pos.line X.env = pure false := by rfl) :
    DS X (.Assign [.Tuple [.Name x px, .Name y py] kt pt] (.Tuple [a, b] k2 pt2) pos) (dPar i j t) := by
  obtain ⟨t1, p1, l1⟩ := ha
  refine ⟨_, ps_par hc hN hi hj hij hx hy p1 hw hs, fun σ H ρ μ Dd De S h k1 k2 k3 k4 => ?_⟩
  refine l1 σ H ρ μ _ _ S h fun ds us μ1 H1 e1 S1 rs len h1 => ?_
  split at h1
  · cases rs with
    | cons r1 r2 =>
      cases r2 with
      | cons r2 r3 =>
        cases r3
        exact ⟨_, _, rfl, k1 _ _ μ1 H1 e1 ⟨S1.mu, (S1.rho.set r1).set r2⟩ h1⟩
  · exact h1.elim
def dWhile (c : DTT) (tb : DTS) : DTS := fun Dd ρ μ => ∃ W : Nat → Rho → Mu → Prop, (∃ m, W m ρ μ) ∧ ∀ m ρ μ, W m ρ μ →
  c ρ μ fun b μ1 => if b = true then tb { Dd with nx := fun ρ' μ' => ∃ m', m' < m ∧ W m' ρ' μ', ct := fun ρ' μ' => ∃ m', m' < m ∧ W m' ρ' μ', bk := Dd.nx } ρ μ1 else Dd.nx ρ μ1
theorem ds_while {c : Expr} {body : List Stmt} (hp : PassesOwn (model X.prog X.w) X.A X.env X.xe) (hc : DT X c tc) (hb : DSs X body td) : DS X (.While c body [] pos) (dWhile tc td) := by
  obtain ⟨t0, p0, l0⟩ := hc
  obtain ⟨t1, p1, l1⟩ := hb
  refine ⟨_, ps_while hp p0 p1, fun σ H ρ μ Dd De S h k1 k2 k3 k4 => ?_⟩
  obtain ⟨W, ⟨m, w0⟩, turn⟩ := h
  refine ⟨fun m σ' H' => ∃ ρ' μ', Ext X.K μ H μ' H' ∧ St0 X.K H' ρ' μ' σ' ∧ W m ρ' μ', ⟨m, ρ, μ, .refl, S, w0⟩, ?_⟩
  rintro m σ1 H1 ⟨ρ1, μ1, e1, S1, w1⟩
  refine l0 σ1 H1 ρ1 μ1 _ _ S1 (turn m ρ1 μ1 w1) fun b μ2 H2 e2 S2 h2 => ?_
  cases b with
  | true =>
    refine iteT ⟨fun σ' H' => ∃ m', m' < m ∧ ∃ ρ' μ', Ext X.K μ H μ' H' ∧ St0 X.K H' ρ' μ' σ' ∧ W m' ρ' μ', fun σ' H' ⟨m', hm, q⟩ => ⟨m', hm, q⟩, ?_⟩
    have nxt : ∀ σ' ρ' μ' H', Ext X.K μ2 H2 μ' H' → St0 X.K H' ρ' μ' σ' → (∃ m', m' < m ∧ W m' ρ' μ') → ∃ m', m' < m ∧ ∃ ρ' μ', Ext X.K μ H μ' H' ∧ St0 X.K H' ρ' μ' σ' ∧ W m' ρ' μ' :=
      fun σ' ρ' μ' H' e3 S3 ⟨m', hm, q⟩ => ⟨m', hm, ρ', μ', e1.trans (e2.trans e3), S3, q⟩
    rw [if_pos rfl] at h2
    exact l1 σ1 H2 ρ1 μ2 _ _ S2 h2 nxt (fun a b c d e3 => k2 a b c d (e1.trans (e2.trans e3))) (fun a b c d e3 => k1 a b c d (e1.trans (e2.trans e3))) nxt
  | false => exact iteF (k1 σ1 ρ1 μ2 H2 (e1.trans e2) S2 (by simpa using h2))
abbrev DTI := Rho → Mu → (List PyData → Mu → Prop) → Prop
def ItOk (K : PySem.W.Frag) (J : It) (xs : List PyData) (μ1 : Mu) (H1 : Hp) : Prop := ∀ μ2 H2, Ext K μ1 H1 μ2 H2 → MuOk K μ2 H2 → ∀ i, (i < xs.length → J.go i H2 ∧ ∀ x H', J.yld i H2 x H' → ∃ d, xs[i]? = some d ∧ Same H2 H' ∧ Rp K μ2 H' d x) ∧ (i = xs.length → J.stop i H2)
def LiftI (K : PySem.W.Frag) (wi : TI) (src : DTI) : Prop := ∀ (σ : St) (H : Hp) (ρ : Rho) (μ : Mu) (Qd : List PyData → Mu → Prop) (R : It → Hp → Prop), St0 K H ρ μ σ → src ρ μ Qd →
  (∀ xs μ1 H1 J, Ext K μ H μ1 H1 → St0 K H1 ρ μ1 σ → ItOk K J xs μ1 H1 → Qd xs μ1 → R J H1) → wi σ H R
def DI (X : Cx) (tg iter : Expr) (src : DTI) : Prop := ∃ wi, PI X tg iter wi ∧ LiftI X.K wi src
variable {tg : Expr}
def diList (te : DTE) : DTI := fun ρ μ Q => te ρ μ fun d μ1 => match d with
  | .v (.list xs) => Q xs μ1
  | _ => False
def diTup (te : DTE) : DTI := fun ρ μ Q => te ρ μ fun d μ1 => match d with
  | .v (.tuple xs) => Q xs μ1
  | _ => False
theorem di_list (h : DE X e te) : DI X tg e (diList te) := by
  obtain ⟨t1, p1, l1⟩ := h
  refine ⟨_, pi_list p1, fun σ H ρ μ Qd R S h k => ?_⟩
  refine l1 σ H ρ μ _ _ S h fun d u μ1 H1 e1 S1 r h1 => ?_
  split at h1
  · rename_i xs
    cases r with
    | @list a us _ ha hn ra =>
      refine ⟨a, rfl, ⟨us, SqL.of ha⟩, k xs μ1 H1 _ e1 S1 (fun μ2 H2 e2 ok2 i => ⟨fun hi => ?_, fun hi => ?_⟩) h1⟩
      · have ha2 := e2.keep _ _ ha hn
        have hiu : i < us.length := by rw [← ra.length]; exact hi
        refine ⟨⟨us, us[i], SqL.of ha2, by simp [hiu]⟩, fun x H' ⟨eH, hx⟩ => ?_⟩
        subst eH
        obtain ⟨u', h1', h2'⟩ := ra.get (i := i) (d := xs[i]) (by simp [hi])
        have := hx us (SqL.of ha2)
        rw [h1'] at this
        cases this
        exact ⟨xs[i], by simp [hi], Same.refl _, h2'.ext S1.mu e2⟩
      · exact ⟨us, SqL.of (e2.keep _ _ ha hn), by rw [← ra.length]; omega⟩
  · exact h1.elim
theorem di_tup (h : DE X e te) : DI X tg e (diTup te) := by
  obtain ⟨t1, p1, l1⟩ := h
  refine ⟨_, pi_tup p1, fun σ H ρ μ Qd R S h k => ?_⟩
  refine l1 σ H ρ μ _ _ S h fun d u μ1 H1 e1 S1 r h1 => ?_
  split at h1
  · rename_i xs
    cases r with
    | @tuple a us _ ha ra =>
      refine ⟨a, rfl, ⟨us, ha⟩, k xs μ1 H1 _ e1 S1 (fun μ2 H2 e2 ok2 i => ⟨fun hi => ?_, fun hi => ?_⟩) h1⟩
      · have ha2 := sqT_ext S1.mu e2 ha
        have hiu : i < us.length := by rw [← ra.length]; exact hi
        refine ⟨⟨us, us[i], ha2, by simp [hiu]⟩, fun x H' ⟨eH, hx⟩ => ?_⟩
        subst eH
        obtain ⟨u', h1', h2'⟩ := ra.get (i := i) (d := xs[i]) (by simp [hi])
        have := hx us ha2
        rw [h1'] at this
        cases this
        exact ⟨xs[i], by simp [hi], Same.refl _, h2'.ext S1.mu e2⟩
      · exact ⟨us, sqT_ext S1.mu e2 ha, by rw [← ra.length]; omega⟩
  · exact h1.elim
def rngD (lo : Int) (n : Nat) : List PyData := (List.range n).map fun (i : Nat) => PyData.int (lo + (i : Int))
theorem rng_ok {K : PySem.W.Frag} {lo : Int} {n : Nat} {μ : Mu} {H : Hp} : ItOk K (Itr lo n) (rngD lo n) μ H := fun μ2 H2 e2 ok2 i => by
  have hl : (rngD lo n).length = n := by unfold rngD; simp
  refine ⟨fun hi => ?_, fun hi => ?_⟩
  · rw [hl] at hi
    refine ⟨hi, fun x H' ⟨eH, hx⟩ => ?_⟩
    subst eH hx
    exact ⟨.int (lo + i), by unfold rngD; simp [hi], Same.refl _, .int _⟩
  · show n ≤ i
    omega
def diRng1 (t : DTA) : DTI := fun ρ μ Q => t ρ μ fun ds μ1 => match ds with
  | [.v (.int j)] => (-(2 ^ 62) ≤ j ∧ j < 2 ^ 62) ∧ Q (rngD 0 j.toNat) μ1
  | _ => False
def diRng2 (t : DTA) : DTI := fun ρ μ Q => t ρ μ fun ds μ1 => match ds with
  | [.v (.int i), .v (.int j)] => (-(2 ^ 62) ≤ i ∧ i < 2 ^ 62 ∧ -(2 ^ 62) ≤ j ∧ j < 2 ^ 62) ∧ Q (rngD i (j - i).toNat) μ1
  | _ => False
theorem di_rng1 {a : Expr} {t : DTA} {p pos : Pos} (hg : Gl X "range") (hm : X.mg "range" = none) (ha : DA X [a] t) (hs : starEach [a] X.env = [(false, eval a X.env)] := by rfl) : DI X tg (.Call (.Name "range" p) [a] [] pos) (diRng1 t) := by
  obtain ⟨t1, p1, l1⟩ := ha
  refine ⟨_, pi_range1 hg hm p1 hs, fun σ H ρ μ Qd R S h k => ?_⟩
  refine l1 σ H ρ μ _ _ S h fun ds us μ1 H1 e1 S1 rs len h1 => ?_
  split at h1
  · rename_i j
    cases rs with
    | cons r1 r2 => cases r2; cases r1; exact ⟨j, rfl, h1.1.1, h1.1.2, k _ μ1 H1 _ e1 S1 rng_ok h1.2⟩
  · exact h1.elim
theorem di_rng2 {a b : Expr} {t : DTA} {p pos : Pos} (hg : Gl X "range") (hm : X.mg "range" = none) (ha : DA X [a, b] t) (hs : starEach [a, b] X.env = [(false, eval a X.env), (false, eval b X.env)] := by rfl) (hs2 : starEach [b] X.env = [(false, eval b X.env)] := by rfl) : DI X tg (.Call (.Name "range" p) [a, b] [] pos) (diRng2 t) := by
  obtain ⟨t1, p1, l1⟩ := ha
  refine ⟨_, pi_range2 hg hm p1 hs hs2, fun σ H ρ μ Qd R S h k => ?_⟩
  refine l1 σ H ρ μ _ _ S h fun ds us μ1 H1 e1 S1 rs len h1 => ?_
  split at h1
  · rename_i i j
    cases rs with
    | cons r1 r2 =>
      cases r2 with
      | cons r2 r3 => cases r3; cases r1; cases r2; exact ⟨i, j, rfl, h1.1, k _ μ1 H1 _ e1 S1 rng_ok h1.2⟩
  · exact h1.elim
def dFor (src : DTI) (g : DTG) (tb : DTS) : DTS := fun Dd ρ μ => src ρ μ fun xs μ1 => ∃ Pv : Nat → Rho → Mu → Prop, Pv 0 ρ μ1 ∧
  (∀ i x ρ' μ', xs[i]? = some x → Pv i ρ' μ' → g (.v x) ρ' μ' fun ρ2 μ2 => tb { Dd with nx := Pv (i + 1), ct := Pv (i + 1), bk := Dd.nx } ρ2 μ2) ∧ (∀ ρ' μ', Pv xs.length ρ' μ' → Dd.nx ρ' μ')
theorem ds_for {iter : Expr} {body : List Stmt} {src : DTI} {g : DTG} (hp : PassesOwn (model X.prog X.w) X.A X.env X.xe) (hc : X.calm = true) (hi : DI X tg iter src) (hg : DG X tg g) (hb : DSs X body td)
    (hs : ∀ x, foldedSetIterable iter X.env x = pure x := by intro _; rfl) : DS X (.For tg iter body [] pos) (dFor src g td) := by
  obtain ⟨t0, p0, l0⟩ := hi
  obtain ⟨t1, p1, l1⟩ := hg
  obtain ⟨t2, p2, l2⟩ := hb
  refine ⟨_, ps_for hp hc p0 p1 p2 hs, fun σ H ρ μ Dd De S h k1 k2 k3 k4 => ?_⟩
  refine l0 σ H ρ μ _ _ S h fun xs μ1 H1 J e1 S1 it h1 => ?_
  obtain ⟨Pv, pv0, turn, fin⟩ := h1
  refine ⟨fun i m σ' H' => m = xs.length - i ∧ i ≤ xs.length ∧ ∃ ρ' μ', Ext X.K μ1 H1 μ' H' ∧ St0 X.K H' ρ' μ' σ' ∧ Pv i ρ' μ', ⟨xs.length, by simp, Nat.zero_le _, ρ, μ1, .refl, S1, pv0⟩, ?_⟩
  rintro i m σ' H' ⟨rfl, hi, ρ', μ', e2, S2, pv⟩
  obtain ⟨go, stop⟩ := it μ' H' e2 S2.mu i
  by_cases hlt : i < xs.length
  · obtain ⟨g1, y1⟩ := go hlt
    refine .inr ⟨g1, fun σ2 H2 => ∃ ρ2 μ2, Ext X.K μ1 H1 μ2 H2 ∧ St0 X.K H2 ρ2 μ2 σ2 ∧ Pv (i + 1) ρ2 μ2, fun σ2 H2 q => ⟨xs.length - (i + 1), by omega, rfl, hlt, q⟩, fun x H2 yl => ?_⟩
    obtain ⟨d, hd, sm, rd⟩ := y1 x H2 yl
    have e3 : Ext X.K μ' H' μ' H2 := .of_same sm
    have S3 : St0 X.K H2 ρ' μ' σ' := ⟨S2.mu.ext0 e3 sm, S2.rho.ext S2.mu e3⟩
    refine l1 σ' H2 ρ' μ' (.v d) x _ _ S3 rd (turn i d ρ' μ' hd pv) fun σ4 ρ4 μ4 H4 e4 S4 h4 => ?_
    have nxt : ∀ a b c dd, Ext X.K μ4 H4 c dd → St0 X.K dd b c a → Pv (i + 1) b c → ∃ ρ2 μ2, Ext X.K μ1 H1 μ2 dd ∧ St0 X.K dd ρ2 μ2 a ∧ Pv (i + 1) ρ2 μ2 := fun a b c dd e5 S5 q => ⟨b, c, e2.trans (e3.trans (e4.trans e5)), S5, q⟩
    have ee := e1.trans (e2.trans (e3.trans e4))
    exact l2 σ4 H4 ρ4 μ4 _ _ S4 h4 nxt (fun a b c d e5 => k2 a b c d (ee.trans e5)) (fun a b c d e5 => k1 a b c d (ee.trans e5)) nxt
  · have ei : i = xs.length := by omega
    subst ei
    exact .inl ⟨stop rfl, k1 σ' ρ' μ' H' (e1.trans e2) S2 (fin ρ' μ' pv)⟩
end
abbrev DSp := List D → Mu → DK → Prop
def spD (K : PySem.W.Frag) (dsp : DSp) : Sp := fun vs H Q _ => ∃ (ds : List D) (μ : Mu) (Qd : DK), MuOk K μ H ∧ RpDs K μ H ds vs ∧ dsp ds μ Qd ∧
  (∀ d u μ' H', Ext K μ H μ' H' → MuOk K μ' H' → RpD K μ' H' d u → Qd d μ' → Q u H')
def startD (N : List Str) (ds : List D) : Rho := ds.map some ++ List.replicate (N.length - ds.length) none
theorem RpDs.get {K : PySem.W.Frag} {μ : Mu} {H : Hp} {ds : List D} {us : List V} : ∀ {i : Nat} {d : D}, RpDs K μ H ds us → ds[i]? = some d → ∃ u, us[i]? = some u ∧ RpD K μ H d u
  | _, _, .nil, h => by simp at h
  | 0, _, .cons r _, h => by simp at h; subst h; exact ⟨_, rfl, r⟩
  | i + 1, d, .cons _ t, h => by
    obtain ⟨u, h1, h2⟩ := RpDs.get (i := i) (d := d) t (by simpa using h)
    exact ⟨u, by simpa using h1, h2⟩
theorem rho_start {K : PySem.W.Frag} {μ : Mu} {H : Hp} {N : List Str} {ds : List D} {vs : List V} (r : RpDs K μ H ds vs) : RhoOk K μ H (startD N ds) (start N vs) := by
  have hl := r.length
  refine ⟨by unfold startD start; simp [hl], fun i d e => ?_⟩
  unfold startD at e
  by_cases hi : i < ds.length
  · rw [List.getElem?_append_left (by simpa using hi), List.getElem?_map] at e
    unfold start
    rw [List.getElem?_append_left (by simpa [hl] using hi), List.getElem?_map]
    cases q : ds[i]? with
    | none => rw [q] at e; cases e
    | some d' =>
      rw [q] at e
      cases e
      obtain ⟨u, h1, h2⟩ := r.get q
      exact ⟨u, by rw [h1]; rfl, h2⟩
  · rw [List.getElem?_append_right (by simpa using hi), List.getElem?_replicate] at e
    split at e <;> cases e
section
variable {P : Program} {w : World} {K : PySem.W.Frag} {mg : Str → Option Value} {base : Heap}
theorem _root_.L2.Fun.okD {x qual : Str} {st : Stmt} {f : Addr} {fd : FuncData} {N ps : List Str} {k : Nat} {dsp : DSp} (F : Fun K x qual st f fd) (S : FnScope N ps (defScope st)) (len : ∀ ds μ Q, dsp ds μ Q → ds.length = ps.length)
    (hbody : ∀ (cdv : Value) (A : Around) (outer : List Env) (s : Shared) (H : Hp) (E : XK), Room k (A.deeper (envOfC qual (defScope st) s.heap.objs.size f cdv)) →
      ∃ td, DSs (cxOf CX0 P w K mg base N qual (defScope st) f cdv A outer s H E).nox (defBody st) td ∧ ∀ ds μ Qd, dsp ds μ Qd → td { nx := fun _ μ' => Qd (.v .none) μ', rt := Qd } (startD N ds) μ) : FnOk P w K mg base CX0 (k + 1) f fd ps (spD K dsp) := by
  refine F.ok S (fun vs H Q E h => ?_) (fun cdv A outer s H vs Q E hr h => ?_)
  · obtain ⟨ds, μ, Qd, _, r, h, _⟩ := h
    rw [← r.length]
    exact len ds μ Qd h
  · obtain ⟨ds, μ, Qd, ok, r, h, fin⟩ := h
    obtain ⟨td, ⟨t, p, l⟩, rd⟩ := hbody cdv A outer s H E hr
    refine ⟨t, p, ?_⟩
    exact l (start N vs) H (startD N ds) μ _ _ ⟨ok, rho_start r⟩ (rd ds μ Qd h) (fun σ' ρ' μ' H' e' S' q => fin (.v .none) .non μ' H' e' S'.mu Rp.none q) (fun d u μ' H' e' ok' r' q => fin d u μ' H' e' ok' r' q) (fun _ _ _ _ _ _ q => q) (fun _ _ _ _ _ _ q => q)
end
section
variable {X : Cx} {e : Expr} {es : List Expr} {t : DTA} {p pos : Pos} {x : Str} {k : Nat} {f : Addr} {fd : FuncData} {ps : List Str} {dsp : DSp}
def dCall (dsp : DSp) (t : DTA) : DTE := fun ρ μ Q => t ρ μ fun ds μ1 => dsp ds μ1 Q
theorem de_call (F : FnOk X.prog X.w X.K X.mg X.base CX0 k f fd ps (spD X.K dsp)) (hr : Room k X.A) (hg : Gl X x) (hm : X.mg x = some (.ref f)) (hk : PySem.W.keepIn X.K (.ref f) = true) (hb : Binds X.K fd ps [])
    (ha : DA X (e :: es) t) (hdb : (x == ("__debug__" : Str)) = false := by decide) (he : starEach (e :: es) X.env = (false, eval e X.env) :: starEach es X.env := by rfl) (hpl : (backTo pos (starEach es X.env)).any (·.1) = false := by rfl) :
    DE X (.Call (.Name x p) (e :: es) [] pos) (dCall dsp t) := by
  obtain ⟨t1, p1, l1⟩ := ha
  refine ⟨_, pe_call F hr hg hm hk hb .nil pass0 p1 hdb he hpl, fun σ H ρ μ Qd Q S h kk => ?_⟩
  refine l1 σ H ρ μ _ _ S h fun ds us μ1 H1 e1 S1 rs len h1 => ?_
  refine ⟨ds, μ1, Qd, S1.mu, by rw [List.append_nil]; exact rs, h1, fun d u μ' H' e2 ok r q => ?_⟩
  exact kk d u μ' H' (e1.trans e2) ⟨ok, S1.rho.ext S1.mu e2⟩ r q
end
section
variable {X : Cx} {o e : Expr} {to te : DTE} {apos cpos : Pos}
def dApp (to te : DTE) : DTE := fun ρ μ Q => to ρ μ fun x μ1 => match x with
  | .m l => te ρ μ1 fun y μ2 => (match y, μ2 l with
    | .v d, some xs => xs.length < 1000 ∧ Q (.v .none) (muSet μ2 l (xs ++ [d]))
    | _, _ => False)
  | _ => False
theorem de_append (ho : DE X o to) (ha : DE X e te) (hbase : attributeBase o "append" X.env (eval o X.env) = eval o X.env := by rfl)
    (hfew : ((backTo cpos (starEach [e] X.env)).all (fun x => !x.1) && (backToKw cpos (keywordEach [] X.env)).all (fun x => x.1.isSome)
      && decide ([e].length + ([] : List Keyword).length + (if ([] : List Keyword).isEmpty then 0 else 1) < 30)) = true := by rfl)
    (hline : (apos.endLine == cpos.line) = true := by rfl) (hs : starEach [e] X.env = (false, eval e X.env) :: starEach [] X.env := by rfl) (hplain : (backTo cpos (starEach [] X.env)).any (·.1) = false := by rfl) :
    DE X (.Call (.Attribute o "append" apos) [e] [] cpos) (dApp to te) := by
  obtain ⟨t1, p1, l1⟩ := ho
  obtain ⟨t2, p2, l2⟩ := ha
  refine ⟨_, pe_bm PySem.F.plainAttrs_list PySem.F.slot_list_append PySem.F.type_list_append mt_append p1 (pa_cons p2 pa_nil hs) hbase hfew hline hs hplain, fun σ H ρ μ Qd Q S h k => ?_⟩
  refine l1 σ H ρ μ _ _ S h fun x ux μ1 H1 e1 S1 rx h1 => ?_
  cases x with
  | m l =>
    obtain ⟨rfl, ds, hm⟩ := id rx
    obtain ⟨us, hl, rl⟩ := S1.mu l ds hm
    refine ⟨.inl ⟨rfl, us, SqL.of hl⟩, ?_⟩
    refine l2 σ H1 ρ μ1 _ _ S1 h1 fun y uy μ2 H2 e2 S2 ry h2 => ?_
    obtain ⟨_, ds2, hm2⟩ := rx.ext S1.mu e2
    obtain ⟨us2, hl2, rl2⟩ := S2.mu l ds2 hm2
    rw [hm2] at h2
    cases y with
    | v d =>
      have h3 : ds2.length < 1000 ∧ Qd (.v .none) (muSet μ2 l (ds2 ++ [d])) := h2
      refine ⟨l, us2, uy, rfl, rfl, hl2, by rw [← rl2.length]; exact small1000 (Nat.le_of_lt h3.1), ?_⟩
      have ex : Ext X.K μ2 H2 (muSet μ2 l (ds2 ++ [d])) (upd H2 l (.lst (us2 ++ [uy]))) := ext_set hm2
      exact k (.v .none) .non _ _ (e1.trans (e2.trans ex)) ⟨S2.mu.set hm2 (rl2.append (.cons ry .nil)), S2.rho.ext S2.mu ex⟩ Rp.none h3.2
    | m _ => exact h2.elim
    | s _ => exact h2.elim
  | v d => exact h1.elim
  | s ns => exact h1.elim
def dExt (to te : DTE) : DTE := fun ρ μ Q => to ρ μ fun x μ1 => match x with
  | .m l => te ρ μ1 fun y μ2 => (match y, μ2 l with
    | .v (.list ys), some xs => xs.length + ys.length ≤ 1000 ∧ Q (.v .none) (muSet μ2 l (xs ++ ys))
    | _, _ => False)
  | _ => False
def dBits (to : DTE) : DTE := fun ρ μ Q => to ρ μ fun x μ1 => match x with
  | .v (.int i) => Q (.v (.int (Builtin.Int.intBits i : Nat))) μ1
  | _ => False
end
open PySem PySem.Spec PyProof.Rows
theorem codeAny_compLoopG {prog : Program} {w : World} {A : Around} {R : Result → Shared → Prop} {s : Shared} {elt target iter : Expr} {ifs : List Expr} {scope : Scope} {pos : Pos} {it acc : Value} {env : Env} (I : Nat → Shared → Prop)
    (turn : ∀ n s, I n s → wpAny (model prog w) A (pyNext it) (fun r s₁ => match r with
      | none => R (.ok .next) s₁
      | some v => wpAny (model prog w) A (letOwnedTupleGo target it v) (fun _ s' => wpAny (model prog w) A (assign target env v) (fun _ s₂ =>
          wpAny (model prog w) A (forIn ifs true fun c r => if r = true then do let ok ← isTrue c env (eval c env); pure (ForInStep.yield ok) else pure (ForInStep.yield r)) (fun ok s₃ =>
            if ok = true then wpAny (model prog w) A (eval elt env) (fun x s₄ =>
              wpAny (model prog w) A (call (.builtin "list.append") [acc, x]) (fun _ s₅ => ∃ m, m < n ∧ I m s₅) (fun _ _ => False) s₄) (fun _ _ => False) s₃
            else ∃ m, m < n ∧ I m s₃) (fun _ _ => False) s₂) (fun _ _ => False) s') (fun _ _ => False) s₁) (fun _ _ => False) s)
    (n : Nat) (h : I n s) :
    codeAny (model prog w) A (.compLoop (.ListComp elt [⟨target, iter, ifs, 0⟩] scope pos) 0 it acc env) R s := by
  refine codeAny_loop rfl I (fun n s hI => ?_) n h
  show wpAny _ A ((compTurn (.ListComp elt [⟨target, iter, ifs, 0⟩] scope pos) 0 it acc env).onRaise (fun x => do noteFrame x env; theTreesLotGoes x)) _ _ s
  refine wpAny_noted ?_
  rw [compTurn_list]
  refine wpAny_bind (wpAny_standAt (wpAny_bind (wpAny_mono (turn n s hI) (fun r s₁ h₁ => ?_) fun _ _ h' => h'.elim)))
  cases r with
  | none => exact wpAny_pure h₁
  | some v =>
    refine wpAny_bind (wpAny_mono h₁ (fun _ s' h' => ?_) fun _ _ h' => h'.elim)
    refine wpAny_bind (wpAny_mono h' (fun _ s₂ h₂ => wpAny_bind (wpAny_mono h₂ (fun ok s₃ h₃ => ?_) fun _ _ h' => h'.elim)) fun _ _ h' => h'.elim)
    cases ok with
    | false => exact wpAny_pure ⟨rfl, h₃⟩
    | true =>
      exact wpAny_bind (wpAny_bind (wpAny_mono h₃ (fun x s₄ h₄ => wpAny_bind (wpAny_mono h₄ (fun _ s₅ h₅ => wpAny_pure (wpAny_pure ⟨rfl, h₅⟩)) fun _ _ h' => h'.elim)) fun _ _ h' => h'.elim))
section
variable {K : PySem.W.Frag} {μ μ' : Mu} {H : Hp}
mutual
theorem Rp.shrink {d : PyData} {u : V} (sub : ∀ a, μ' a = none → μ a = none) : Rp K μ' H d u → Rp K μ H d u
  | .none => .none
  | .bool b => .bool b
  | .int i => .int i
  | .str x => .str x
  | .list h n r => .list h (sub _ n) (RpL.shrink sub r)
  | .tuple h r => .tuple h (RpL.shrink sub r)
theorem RpL.shrink {ds : List PyData} {us : List V} (sub : ∀ a, μ' a = none → μ a = none) : RpL K μ' H ds us → RpL K μ H ds us
  | .nil => .nil
  | .cons h r => .cons (Rp.shrink sub h) (RpL.shrink sub r)
end
end
theorem de_of {X : Cx} {e : Expr} {td : DTE} (h : ∀ (pins : List (Addr × Obj)) (s : Shared) (σ : St) (H : Hp) (ρ : Rho) (μ : Mu) (Qd : DK) (Q : VK), Inv X pins σ H s → St0 X.K H ρ μ σ → td ρ μ Qd →
    (∀ d u μ' H', Ext X.K μ H μ' H' → St0 X.K H' ρ μ' σ → RpD X.K μ' H' d u → Qd d μ' → Q u H') → wpAny (model X.prog X.w) X.A (eval e X.env) (EP X pins σ Q) X.xe s) : DE X e td :=
  ⟨fun σ H Q => ∃ ρ μ Qd, St0 X.K H ρ μ σ ∧ td ρ μ Qd ∧ (∀ d u μ' H', Ext X.K μ H μ' H' → St0 X.K H' ρ μ' σ → RpD X.K μ' H' d u → Qd d μ' → Q u H'),
    fun pins s σ H Q I ⟨ρ, μ, Qd, S, q, k⟩ => h pins s σ H ρ μ Qd Q I S q k, fun σ H ρ μ Qd Q S q k => ⟨ρ, μ, Qd, S, q, k⟩⟩
def cxComp (X : Cx) (N' : List Str) (scope : Scope) (cl : List (Str × Addr)) (fp : List Addr) (s₃ : Shared) (H₃ : Hp) : Cx :=
  { X with N := N', s₀ := s₃, H₀ := H₃, env := compEnvC scope cl s₃.heap.objs.size X.env, outer := X.stack, stack := X.stack, ex := fp, fn := fun _ => false, pn := [], xe := fun _ _ => False }
def Le : Rho → Rho → Prop
  | [], [] => True
  | none :: r, _ :: r' => Le r r'
  | some d :: r, some d' :: r' => d = d' ∧ Le r r'
  | _, _ => False
theorem Le.get : ∀ {ρ ρ' : Rho}, Le ρ ρ' → ρ.length = ρ'.length ∧ ∀ (i : Nat) d, ρ[i]? = some (some d) → ρ'[i]? = some (some d)
  | [], [], _ => ⟨rfl, fun _ _ h => h⟩
  | none :: r, x :: r', h => by
    obtain ⟨h1, h2⟩ := Le.get (ρ := r) (ρ' := r') h
    refine ⟨congrArg (· + 1) h1, fun i d e => ?_⟩
    cases i with
    | zero => simp at e
    | succ j => exact h2 j d (by simpa using e)
  | some d :: r, some d' :: r', h => by
    obtain ⟨rfl, h⟩ := h
    obtain ⟨h1, h2⟩ := Le.get (ρ := r) (ρ' := r') h
    refine ⟨congrArg (· + 1) h1, fun i d e => ?_⟩
    cases i with
    | zero => simpa using e
    | succ j => exact h2 j d (by simpa using e)
  | some d :: r, none :: r', h => h.elim
  | [], _ :: _, h => h.elim
  | none :: _, [], h => h.elim
  | some _ :: _, [], h => h.elim
def capF {α : Type} (cap : List (Option Nat)) (ρ : List (Option α)) : List (Option α) := cap.map fun o => o.bind fun j => (ρ[j]?).join
def dComp (cap : List (Option Nat)) (src : DTI) (g : DTG) (c : DTT) (elt : DTE) : DTE := fun ρ μ Q => src ρ μ fun xs μ1 => xs.length ≤ 1000 ∧ ∃ f : PyData → Option PyData,
  (∀ x ∈ xs, ∀ μ' : Mu, (∀ a ds, μ1 a = some ds → μ' a = some ds) → g (.v x) (capF cap ρ) μ' fun ρ2 μ2 => Le (capF cap ρ) ρ2 ∧ c ρ2 μ2 fun b μ3 =>
    if b = true then elt ρ2 μ3 fun d μ4 => μ4 = μ' ∧ (match d with | .v y => f x = some y | _ => False) else μ3 = μ' ∧ f x = none) ∧ Q (.v (.list (xs.filterMap f))) μ1
def DIfs (X : Cx) (ifs : List Expr) (c : DTT) : Prop := ∀ (pins : List (Addr × Obj)) (s : Shared) (σ : St) (H : Hp) (ρ : Rho) (μ : Mu) (Qd : Bool → Mu → Prop) (Q : Bool → Hp → Prop), Inv X pins σ H s → St0 X.K H ρ μ σ → c ρ μ Qd →
  (∀ b μ' H', Ext X.K μ H μ' H' → St0 X.K H' ρ μ' σ → Qd b μ' → Q b H') →
  wpAny (model X.prog X.w) X.A (forIn ifs true fun c r => if r = true then do let ok ← isTrue c X.env (eval c X.env); pure (ForInStep.yield ok) else pure (ForInStep.yield r)) (TP X pins σ Q) X.xe s
def dTrue : DTT := fun _ μ Q => Q true μ
theorem difs_nil {X : Cx} : DIfs X [] dTrue := fun pins s σ H ρ μ Qd Q I S h k => wpAny_tests_nil ⟨H, I, k true μ H .refl S h⟩
theorem difs_one {X : Cx} {c : Expr} {tc : DTT} (h : DT X c tc) : DIfs X [c] tc := by
  obtain ⟨t, p, l⟩ := h
  exact fun pins s σ H ρ μ Qd Q I S h k => wpAny_tests_one (p pins s σ H _ I (l σ H ρ μ _ _ S h k))
theorem Un.after {fs ex : List Addr} {H H1 : Hp} {h h1 h' : Heap} (u : Un fs ex H H1 h h1) (k : ∀ b o, b < h.objs.size → h1.get? b = some o → h'.get? b = some o) : Un fs ex H H1 h h' :=
  ⟨fun b o e n hb hx => k b o (Heap.lt_size e) (u.keep b o e n hb hx), fun b o e n hb hx => let ⟨sl, q⟩ := u.slot b o e n hb hx; ⟨sl, k b _ (Heap.lt_size e) q⟩, u.free, fun b o e hx => let ⟨o', q⟩ := u.there b o e hx; ⟨o', k b _ (Heap.lt_size e) q⟩, u.tups, u.frzs, u.tbls⟩
theorem capF_get {α : Type} {cap : List (Option Nat)} {ρ : List (Option α)} {i : Nat} {d : α} (h : (capF cap ρ)[i]? = some (some d)) : ∃ j, cap[i]? = some (some j) ∧ ρ[j]? = some (some d) := by
  unfold capF at h
  rw [List.getElem?_map] at h
  cases q : cap[i]? with
  | none => rw [q] at h; cases h
  | some o =>
    rw [q] at h
    cases o with
    | none => cases h
    | some j =>
      refine ⟨j, rfl, ?_⟩
      simp only [Option.map_some, Option.bind_some, Option.some.injEq] at h
      cases z : ρ[j]? with
      | none => rw [z] at h; cases h
      | some y => rw [z] at h; simp only [Option.join_some] at h; rw [h]
theorem capF_put {α : Type} {cap : List (Option Nat)} {ρ : List (Option α)} {i j : Nat} {d : α} (h : cap[i]? = some (some j)) (e : ρ[j]? = some (some d)) : (capF cap ρ)[i]? = some (some d) := by
  unfold capF
  rw [List.getElem?_map, h]
  simp [e]
theorem RhoOk.cap {K : PySem.W.Frag} {μ : Mu} {H : Hp} {ρ : Rho} {σ : St} {cap : List (Option Nat)} (r : RhoOk K μ H ρ σ) : RhoOk K μ H (capF cap ρ) (capF cap σ) := by
  refine ⟨by unfold capF; simp, fun i d e => ?_⟩
  obtain ⟨j, h1, h2⟩ := capF_get e
  obtain ⟨u, h3, h4⟩ := r.2 j d h2
  exact ⟨u, capF_put h1 h3, h4⟩
theorem RhoOk.le {K : PySem.W.Frag} {μ : Mu} {H : Hp} {ρ ρ' : Rho} {σ : St} (r : RhoOk K μ H ρ' σ) (l : Le ρ ρ') : RhoOk K μ H ρ σ :=
  ⟨l.get.1.trans r.1, fun i d e => r.2 i d (l.get.2 i d e)⟩
theorem fm_take {xs : List PyData} {f : PyData → Option PyData} {i : Nat} {d : PyData} (h : xs[i]? = some d) : (xs.take (i + 1)).filterMap f = (xs.take i).filterMap f ++ (f d).toList := by
  obtain ⟨hi, e⟩ := List.getElem?_eq_some_iff.mp h
  rw [List.take_succ_eq_append_getElem hi, List.filterMap_append, e]
  cases q : f d <;> simp [q]
theorem de_comp {X : Cx} {N' : List Str} {scope : Scope} {cl : List (Str × Addr)} {elt iter tg : Expr} {ifs : List Expr} {pos : Pos} {cap : List (Option Nat)} {src : DTI} {g : DTG} {c : DTT} {te : DTE} (hc : X.calm = true)
    (hi : DI X tg iter src) (hg : ∀ fp s₃ H₃, DG (cxComp X N' scope cl fp s₃ H₃) tg g) (hif : ∀ fp s₃ H₃, DIfs (cxComp X N' scope cl fp s₃ H₃) ifs c) (he : ∀ fp s₃ H₃, DE (cxComp X N' scope cl fp s₃ H₃) elt te)
    (hclos : closureFor scope X.env = pure cl) (hcell : ∀ y ∈ scope.names, y.2 ≠ .cell) (hkind : scope.kind = .function) (hnames : ∀ y ∈ scope.names, y.2 = .local → scope.names.lookup y.1 = some .local)
    (hcl : ∀ x a, cl.lookup x = some a → X.env.cells.lookup x = some a) (hhas : ∀ x, (relabel scope X.env).names.lookup x = some .cell ∨ (relabel scope X.env).names.lookup x = some .free → ∃ a, cl.lookup x = some a)
    (hlen : cap.length = N'.length) (hcap : ∀ (i j : Nat) (x : Str), cap[i]? = some (some j) → N'[i]? = some x → X.N[j]? = some x ∧ Vis X.env.scope x ∧ X.env.kindOf x ≠ some .local ∧ ((relabel scope X.env).names.lookup x = some .cell ∨ (relabel scope X.env).names.lookup x = some .free))
    (hs : ∀ x, foldedSetIterable iter X.env x = pure x := by intro _; rfl) : DE X (.ListComp elt [⟨tg, iter, ifs, 0⟩] scope pos) (dComp cap src g c te) := by
  refine de_of fun pins s σ H ρ μ Qd Q I S h k => ?_
  obtain ⟨wi, pw, li⟩ := hi
  rw [eval_ListComp]
  refine wpAny_comprehension_free (use := none) rfl hs hclos hkind hnames (thn (pw pins s σ H _ I (li σ H ρ μ _ (fun J H1 => ∃ xs μ1, Ext X.K μ H μ1 H1 ∧ St0 X.K H1 ρ μ1 σ ∧ ItOk X.K J xs μ1 H1 ∧ xs.length ≤ 1000 ∧ ∃ f : PyData → Option PyData,
      (∀ x ∈ xs, ∀ μ' : Mu, (∀ a ds, μ1 a = some ds → μ' a = some ds) → g (.v x) (capF cap ρ) μ' fun ρ2 μ2 => Le (capF cap ρ) ρ2 ∧ c ρ2 μ2 fun b μ3 =>
        if b = true then te ρ2 μ3 fun d μ4 => μ4 = μ' ∧ (match d with | .v y => f x = some y | _ => False) else μ3 = μ' ∧ f x = none) ∧ Qd (.v (.list (xs.filterMap f))) μ1) S h (fun xs μ1 H1 J e1 S1 it q => ⟨xs, μ1, e1, S1, it, q⟩)))
    fun v s1 h1 => thn h1 fun itv s2 h2 => ?_)
  obtain ⟨it, fp, tn, J, H2, rfl, I2, T, st2, f2, xs, μ1, e1, S1, itok, hxs, f, body, fin⟩ := h2
  refine wpAny_newObj_type (wpAny_newFunctionEnv hcell (by intro y hy; simp at hy) (fun h₁ hns₁ hsb₁ => ?_) hkind)
  dsimp only at hns₁ hsb₁ ⊢
  have hfree2 : H2 s2.heap.objs.size = none := I2.hok.fresh (Nat.le_refl _)
  have hK2 : X.K.lookup s2.heap.objs.size = none := by
    cases z : X.K.lookup s2.heap.objs.size with
    | none => rfl
    | some o => exact absurd (Heap.lt_size (I2.kIn _ _ z)) (Nat.lt_irrefl _)
  have I3 : Inv X pins σ (upd H2 s2.heap.objs.size (.lst [])) { s2 with heap := s2.heap.push { cls := .type "list", dict := none, data := .seq ([] : List Value).toArray } } :=
    I2.laid (t' := s2.toks) (fun b u e => Heap.get?_push_of_some _ e) (Nat.le_refl _) ⟨Nat.zero_le _, [], 0, .nil, Heap.get?_push_size _ rfl⟩
  generalize hH : s2.heap.push { cls := .type "list", dict := none, data := .seq ([] : List Value).toArray } = hp3 at hns₁ hsb₁ I3 ⊢
  have hsz3 : hp3.objs.size = s2.heap.objs.size + 1 := by rw [← hH, Heap.size_push]
  have kept3 : ∀ b o, hp3.get? b = some o → h₁.get? b = some o := fun b o e => hsb₁.extBut b o (Nat.ne_of_lt (Heap.lt_size e)) (Heap.get?_push_of_some _ e)
  have old3 : ∀ b o, s2.heap.get? b = some o → hp3.get? b = some o := fun b o e => by rw [← hH]; exact Heap.get?_push_of_some _ e
  have fplt : ∀ b ∈ fp, b < s2.heap.objs.size := fun b hb => by obtain ⟨o, e, _⟩ := T.obj 0 _ st2 b hb; exact Heap.lt_size e
  have fpst : ∀ b ∈ fp, b ∉ frs X.stack := fun b hb hz => by
    rcases List.mem_cons.mp (I2.stkSub b hz) with e | e
    · exact (f2 b hb).2.1 e
    · exact (f2 b hb).2.2.1 e
  obtain ⟨s3, hs3⟩ : ∃ s3 : Shared, s3 = { s2 with heap := hp3 } := ⟨_, rfl⟩
  obtain ⟨H3, hH3⟩ : ∃ H3 : Hp, H3 = upd H2 s2.heap.objs.size (.lst []) := ⟨_, rfl⟩
  have heap3 : s3.heap = hp3 := by rw [hs3]
  rw [← hH3] at I3
  have I3' : Inv X pins σ H3 s3 := by rw [hs3]; exact I3
  have hloc : H3 hp3.objs.size = none := by have := I3'.hok.fresh (a := hp3.objs.size) (by rw [heap3]; exact Nat.le_refl _); exact this
  have okc : (cxComp X N' scope cl fp s3 H3).Ok := by
    refine ⟨I3.ok.mod, ?_, I3.ok.glob, I3.ok.blt, Nat.le_refl _, fun x y a h1 h2 => I3.ok.inj x y a (hcl x a h1) (hcl y a h2), fun x hx => hhas x hx, fun x a h => (nomatch h), I3.ok.hd, I3.ok.frames, .inl rfl, fun b hb => ⟨?_, fun x a h => (f2 b hb).2.2.2.2.1 x a (hcl x a h)⟩,
      I3'.bs, Nat.le_trans I3.ok.bsz I3'.sz, fun b o e hb => ?_, fun b hb => fpst b hb, I3'.stack, I3'.stkFree⟩
    · exact hkind
    · show b ≠ s3.heap.objs.size
      rw [heap3, hsz3]
      exact Nat.ne_of_lt (Nat.lt_succ_of_lt (fplt b hb))
    · rcases (f2 b hb).2.2.2.1 with z | z
      · exact I3.ok.noex b o e z
      · exact absurd (Nat.lt_of_lt_of_le (Heap.lt_size (I3.ok.bs b o e).1) z) (Nat.lt_irrefl _)
  have I4 : Inv (cxComp X N' scope cl fp s3 H3) [] (capF cap σ) H3 { s2 with heap := h₁, toks := s2.toks + ([] : List (Str × Value)).length } := by
    refine ⟨okc, by show s2.os = s3.os; rw [hs3], I3.bare, Un.kept (by show ∀ b o, s3.heap.get? b = some o → _; rw [heap3]; exact kept3), ⟨_, (by show h₁.Ns s3.heap.objs.size _; rw [heap3]; exact hns₁), fun i x v e1 e2 e3 => ?_⟩, fun x a h => ?_, (by show H3 s3.heap.objs.size = none; rw [heap3]; exact hloc), fun x a h => I3.freeC x a (hcl x a h), fun p hp => ?_, I3.hok.kept kept3, ?_⟩
    · obtain ⟨j, h1, h2⟩ := capF_get e2
      obtain ⟨hN, hv, hnl, hk⟩ := hcap i j x h1 e1
      obtain ⟨m, _, hl⟩ := I3.loc
      obtain ⟨u, r, lk⟩ := hl j x v hN h2 hv
      refine ⟨u, r, .inr ⟨hk, ?_⟩⟩
      obtain ⟨a, ha⟩ := hhas x hk
      rcases lk with ⟨z, _⟩ | ⟨_, a', z1, z2⟩
      · exact absurd z hnl
      · have : a' = a := by have q := hcl x a ha; rw [z1] at q; exact Option.some.inj q
        subst this
        obtain ⟨o, ho, hd⟩ := z2
        exact ⟨a', ha, o, kept3 _ _ ho, hd⟩
    · obtain ⟨v, o, ho, hd⟩ := I3.cell x a (hcl x a h)
      exact ⟨v, o, kept3 _ _ ho, hd⟩
    · exact absurd (show p ∈ ([] : List (Addr × Obj)) from hp) (by simp)
    · show (capF cap σ).length = N'.length
      unfold capF
      rw [List.length_map]
      exact hlen
  have hμ1 : μ1 s2.heap.objs.size = none := S1.mu.free hfree2
  have sub1 : ∀ ys a ds, μ1 a = some ds → muSet μ1 s2.heap.objs.size ys a = some ds := fun ys a ds e => by
    have : a ≠ s2.heap.objs.size := fun z => by rw [z, hμ1] at e; cases e
    rw [muSet_ne this]; exact e
  have loop : codeAny (model X.prog X.w) X.A (.compLoop (.ListComp elt [⟨tg, iter, ifs, 0⟩] scope pos) 0 (.ref it) (.ref s2.heap.objs.size) (cxComp X N' scope cl fp s3 H3).env)
      (compPost (model X.prog X.w) X.A X.xe none (EP X pins σ Q) (.ref s2.heap.objs.size) hp3.objs.size) { s2 with heap := h₁, toks := s2.toks + ([] : List (Str × Value)).length } := by
    refine codeAny_compLoopG (fun n s' => ∃ (i : Nat) (σc : St) (Hc : Hp), n = xs.length - i ∧ i ≤ xs.length ∧ Inv (cxComp X N' scope cl fp s3 H3) [] σc Hc s' ∧ tn i s'.heap ∧ (∀ b ∈ fp, Hc b = none) ∧
      St0 X.K Hc (capF cap ρ) (muSet μ1 s2.heap.objs.size ((xs.take i).filterMap f)) σc ∧ Ext X.K μ1 H2 (muSet μ1 s2.heap.objs.size ((xs.take i).filterMap f)) Hc) ?_ xs.length
      ⟨0, capF cap σ, H3, by simp, Nat.zero_le _, I4, T.keep 0 _ _ st2 (fun b hb o e => kept3 b o (old3 b o e)), fun b hb => ?_, ?_, ?_⟩
    · rintro n s' ⟨i, σc, Hc, rfl, hi, Ic, tc, frc, Sc, Ec⟩
      have stat : ∀ {Hd : Hp}, (∀ b ∈ fp, Hd b = none) → ∀ b ∈ fp, FpOk (cxComp X N' scope cl fp s3 H3) [] Hd b := fun hn b hb =>
        ⟨hn b hb, (okc.exf b hb).1, fpst b hb, .inl hb, fun x a h => (okc.exf b hb).2 x a h, fun p hp => absurd (show p ∈ ([] : List (Addr × Obj)) from hp) (by simp)⟩
      obtain ⟨go, stop⟩ := itok _ Hc Ec Sc.mu i
      by_cases hlt : i < xs.length
      · obtain ⟨g1, y1⟩ := go hlt
        refine thn (T.item (cxComp X N' scope cl fp s3 H3) rfl rfl rfl hc i [] s' σc Hc (fun _ _ => False) Ic (stat frc) tc g1) fun r s4 ⟨u, hr, h4⟩ => ?_
        subst hr
        refine thn h4 fun _ s5 ⟨x, H5, I5, r5, y5, st5, fr5⟩ => ?_
        obtain ⟨d, hd, sm, rd⟩ := y1 x H5 y5
        have I5' := I5.pinned (stat fr5) (T.obj _ _ st5)
        have e5 : Ext X.K _ Hc _ H5 := .of_same (μ := muSet μ1 s2.heap.objs.size ((xs.take i).filterMap f)) sm
        have S5 : St0 X.K H5 (capF cap ρ) (muSet μ1 s2.heap.objs.size ((xs.take i).filterMap f)) σc := ⟨Sc.mu.ext0 e5 sm, Sc.rho.ext Sc.mu e5⟩
        obtain ⟨gt, pg, lg⟩ := hg fp s3 H3
        have hmem : d ∈ xs := List.mem_of_getElem? hd
        refine thn (pg _ s5 σc H5 x u (fun σ' H' => ∃ ρ' μ', Ext X.K (muSet μ1 s2.heap.objs.size ((xs.take i).filterMap f)) H5 μ' H' ∧ St0 X.K H' ρ' μ' σ' ∧ Le (capF cap ρ) ρ' ∧ c ρ' μ' fun b μ3 =>
            if b = true then te ρ' μ3 fun d' μ4 => μ4 = muSet μ1 s2.heap.objs.size ((xs.take i).filterMap f) ∧ (match d' with | .v y => f d = some y | _ => False) else μ3 = muSet μ1 s2.heap.objs.size ((xs.take i).filterMap f) ∧ f d = none) I5' r5
          (lg σc H5 (capF cap ρ) _ (.v d) x _ _ S5 rd (body d hmem _ (sub1 _)) fun σ' ρ' μ' H' e' S' q => ⟨ρ', μ', e', S', q⟩)) fun _ s6 ⟨σ6, H6, I6, ρ6, μ6, e6, S6, le6, q6⟩ => ?_
        refine thn (hif fp s3 H3 _ s6 σ6 H6 ρ6 μ6 _ (fun b H' => ∃ μ', Ext X.K μ6 H6 μ' H' ∧ St0 X.K H' ρ6 μ' σ6 ∧ if b = true then te ρ6 μ' fun d' μ4 => μ4 = muSet μ1 s2.heap.objs.size ((xs.take i).filterMap f) ∧ (match d' with | .v y => f d = some y | _ => False) else μ' = muSet μ1 s2.heap.objs.size ((xs.take i).filterMap f) ∧ f d = none)
          I6 S6 q6 fun b μ' H' e' S' q => ⟨μ', e', S', q⟩) fun b s7 ⟨H7, I7, μ7, e7, S7, q7⟩ => ?_
        have again : ∀ {H9 : Hp} {s9 : Shared}, Inv (cxComp X N' scope cl fp s3 H3) ([] ++ pinsAt fp s5.heap) σ6 H9 s9 → MuOk X.K (muSet μ1 s2.heap.objs.size ((xs.take (i + 1)).filterMap f)) H9 → RhoOk X.K (muSet μ1 s2.heap.objs.size ((xs.take (i + 1)).filterMap f)) H9 (capF cap ρ) σ6 →
            Ext X.K μ1 H2 (muSet μ1 s2.heap.objs.size ((xs.take (i + 1)).filterMap f)) H9 → ∃ m, m < xs.length - i ∧ ∃ (i : Nat) (σc : St) (Hc : Hp), m = xs.length - i ∧ i ≤ xs.length ∧ Inv (cxComp X N' scope cl fp s3 H3) [] σc Hc s9 ∧ tn i s9.heap ∧ (∀ b ∈ fp, Hc b = none) ∧
              St0 X.K Hc (capF cap ρ) (muSet μ1 s2.heap.objs.size ((xs.take i).filterMap f)) σc ∧ Ext X.K μ1 H2 (muSet μ1 s2.heap.objs.size ((xs.take i).filterMap f)) Hc := fun {H9 s9} I9 m9 r9 e9 => by
          refine ⟨xs.length - (i + 1), by omega, i + 1, σ6, H9, rfl, hlt, I9.unpinned, T.keep _ _ _ st5 fun b hb o e => (I9.pin (b, o) (List.mem_append_right _ (List.mem_append_right _ (mem_pinsAt hb e)))).1, fun b hb => ?_, ⟨m9, r9⟩, e9⟩
          obtain ⟨o, e, _⟩ := T.obj _ _ st5 b hb
          exact (I9.pin (b, o) (List.mem_append_right _ (List.mem_append_right _ (mem_pinsAt hb e)))).2.1
        cases b with
        | false =>
          have q8 : μ7 = muSet μ1 s2.heap.objs.size ((xs.take i).filterMap f) ∧ f d = none := by simpa using q7
          refine iteF ?_
          have et : (xs.take (i + 1)).filterMap f = (xs.take i).filterMap f := by rw [fm_take hd, q8.2]; simp
          have eμ : muSet μ1 s2.heap.objs.size ((xs.take (i + 1)).filterMap f) = μ7 := by rw [et, q8.1]
          refine again I7 (by rw [eμ]; exact S7.mu) (by rw [eμ]; exact S7.rho.le le6) ?_
          rw [eμ]
          exact Ec.trans (e5.trans (e6.trans e7))
        | true =>
          refine iteT ?_
          obtain ⟨t8, p8, l8⟩ := he fp s3 H3
          refine thn (p8 _ s7 σ6 H7 (fun v H' => ∃ y, Ext X.K μ7 H7 (muSet μ1 s2.heap.objs.size ((xs.take i).filterMap f)) H' ∧ St0 X.K H' ρ6 (muSet μ1 s2.heap.objs.size ((xs.take i).filterMap f)) σ6 ∧ Rp X.K (muSet μ1 s2.heap.objs.size ((xs.take i).filterMap f)) H' y v ∧ f d = some y) I7
            (l8 σ6 H7 ρ6 μ7 _ _ S7 (by simpa using q7) fun d' v μ8 H8 e8 S8 r8 q8 => ?_)) fun v s8 ⟨v8, H8, I8, r8, y, e8, S8, ry, fy⟩ => ?_
          · obtain ⟨rfl, q8⟩ := q8
            cases d' with
            | v y => exact ⟨y, e8, S8, r8, q8⟩
            | m _ => exact q8.elim
            | s _ => exact q8.elim
          · obtain ⟨us, hacc, rus⟩ := S8.mu s2.heap.objs.size _ muSet_same
            have hle : ((xs.take i).filterMap f).length ≤ 1000 := Nat.le_trans (List.length_filterMap_le _ _) (Nat.le_trans (by rw [List.length_take]; exact Nat.min_le_right _ _) hxs)
            refine thn (mt_append (X := cxComp X N' scope cl fp s3 H3) _ s8 σ6 H8 (.ref s2.heap.objs.size) [v8] (.ref s2.heap.objs.size) [v] (fun _ H' => H' = upd H8 s2.heap.objs.size (.lst (us ++ [v8]))) I8 rfl (.cons r8 .nil) ⟨_, us, v8, rfl, rfl, hacc, by rw [← rus.length]; exact small1000 hle, rfl⟩) fun _ s9 ⟨_, H9, I9, _, e9⟩ => ?_
            subst e9
            have et : (xs.take (i + 1)).filterMap f = (xs.take i).filterMap f ++ [y] := by rw [fm_take hd, fy]; rfl
            have mset : muSet (muSet μ1 s2.heap.objs.size ((xs.take i).filterMap f)) s2.heap.objs.size ((xs.take (i + 1)).filterMap f) = muSet μ1 s2.heap.objs.size ((xs.take (i + 1)).filterMap f) := muSet_set
            have ex : Ext X.K (muSet μ1 s2.heap.objs.size ((xs.take i).filterMap f)) H8 (muSet μ1 s2.heap.objs.size ((xs.take (i + 1)).filterMap f)) (upd H8 s2.heap.objs.size (.lst (us ++ [v8]))) := by
              rw [← mset]
              exact ext_set muSet_same
            refine again I9 ?_ ((S8.rho.le le6).ext S8.mu ex) (Ec.trans (e5.trans (e6.trans (e7.trans (e8.trans ex)))))
            rw [← mset]
            refine S8.mu.set muSet_same ?_
            rw [et]
            exact rus.append (.cons ry .nil)
      · have ei : i = xs.length := by omega
        subst ei
        refine thn (T.done (cxComp X N' scope cl fp s3 H3) rfl rfl rfl hc _ [] s' σc Hc (fun _ _ => False) Ic (stat frc) tc (stop rfl)) fun r s4 ⟨hr, I5⟩ => ?_
        subst hr
        rw [List.take_length] at Sc Ec
        obtain ⟨m, hn, _⟩ := I5.loc
        refine ⟨m, (by have z : s4.heap.Ns s3.heap.objs.size m := hn; rw [heap3] at z; exact z), fun h' hs' => ?_⟩
        have kp : ∀ b o, b < s2.heap.objs.size → s4.heap.get? b = some o → h'.get? b = some o := fun b o hb e => hs'.extBut b o (by rw [hsz3]; exact Nat.ne_of_lt (Nat.lt_succ_of_lt hb)) e
        have hcC : Hc hp3.objs.size = none := by have z : Hc s3.heap.objs.size = none := I5.free; rw [heap3] at z; exact z
        have hok' : HOk X.prog X.w Hc h' := fun b ob e => by
          refine (I5.hok b ob e).stay (fun cc v hcc q => hs'.extBut cc v ?_ q) (fun _ q => q) fun _ _ q => q
          rintro rfl
          rcases hcc with z | z
          · rw [← z, hcC] at e; cases e
          · rw [hcC] at z; cases z
        have u1 : Un (frs X.stack) fp H2 H3 s2.heap s3.heap := by rw [heap3, hH3]; exact Un.laid old3 (Nat.le_refl _) hfree2
        have u2 : Un (frs X.stack) fp H3 Hc s3.heap s4.heap := I5.base
        have If : Inv X pins σ Hc { s4 with heap := h' } := I2.call' (ch := fp) (by show s4.os = s2.os; have z : s4.os = s3.os := I5.os; rw [z, hs3]) (Un.after (u1.trans u2) kp) hok' I5.bare fun b hb => ⟨(f2 b hb).2.2.2.1, (f2 b hb).2.1, (f2 b hb).2.2.2.2.1, (f2 b hb).2.2.2.2.2⟩
        obtain ⟨us, hacc, rus⟩ := Sc.mu s2.heap.objs.size _ muSet_same
        have shr : ∀ a, muSet μ1 s2.heap.objs.size (xs.filterMap f) a = none → μ1 a = none := fun a e => by
          by_cases ha : a = s2.heap.objs.size
          · rw [ha]; exact hμ1
          · rw [muSet_ne ha] at e; exact e
        have eF : Ext X.K μ1 H2 μ1 Hc := ⟨Ec.keep, fun _ ds q => ⟨ds, q⟩, fun _ q _ => q⟩
        have mF : MuOk X.K μ1 Hc := fun a ds q => by
          obtain ⟨ys, z1, z2⟩ := Sc.mu a ds (sub1 _ a ds q)
          exact ⟨ys, z1, z2.shrink shr⟩
        exact ⟨.ref s2.heap.objs.size, Hc, If, rfl, k (.v (.list (xs.filterMap f))) _ μ1 Hc (e1.trans eF) ⟨mF, S1.rho.ext S1.mu eF⟩ (Rp.list hacc hμ1 (rus.shrink shr)) fin⟩
    · have z : b ≠ s2.heap.objs.size := Nat.ne_of_lt (fplt b hb)
      rw [hH3, upd_ne z]
      exact (f2 b hb).1
    · have ex := ext_mut (o := .lst []) (ds := []) S1.mu hfree2 hK2
      rw [hH3]
      exact ⟨S1.mu.mut .nil hfree2 hK2, (S1.rho.ext S1.mu ex).cap⟩
    · rw [hH3]
      exact ext_mut (o := .lst []) (ds := []) S1.mu hfree2 hK2
  have envE : (cxComp X N' scope cl fp s3 H3).env = compEnvC scope cl hp3.objs.size X.env := by show compEnvC scope cl s3.heap.objs.size X.env = _; rw [heap3]
  rw [envE] at loop
  exact codeAny_compStart_list loop (T.self X.A 0 _ _ _ (T.keep 0 _ _ st2 (fun b hb o e => kept3 b o (old3 b o e))) loop)
open PySem PySem.Spec PyProof.Rows
section
variable {X : Cx} {a b c : Expr} {ta tb tc : DTE} {pos : Pos}
def dChain (r r' : D → D → Mu → DK → Prop) (ta tb tc : DTE) : DTE := fun ρ μ Q => ta ρ μ fun x μ1 => tb ρ μ1 fun y μ2 => r x y μ2 fun z μ3 => match z with
  | .v (.bool k) => if k = true then tc ρ μ3 fun w μ4 => r' y w μ4 Q else Q (.v (.bool false)) μ3
  | _ => False
theorem de_chain {op op' : CmpOp} {rr rr' : R2} {r r' : D → D → Mu → DK → Prop} (ho : OpR X (compareOp op) rr) (lo : LiftO X.K rr r) (ho' : OpR X (compareOp op') rr') (lo' : LiftO X.K rr' r') (ha : DE X a ta) (hb : DE X b tb) (hc : DE X c tc)
    (hm : lastMarks [op, op'] [b, c] = false := by with_unfolding_all rfl) : DE X (.Compare a [op, op'] [b, c] pos) (dChain r r' ta tb tc) := by
  obtain ⟨t1, p1, l1⟩ := ha
  obtain ⟨t2, p2, l2⟩ := hb
  obtain ⟨t3, p3, l3⟩ := hc
  refine ⟨_, pe_chain ho ho' p1 p2 p3 hm, fun σ H ρ μ Qd Q S h k => ?_⟩
  refine l1 σ H ρ μ _ _ S h fun x ux μ1 H1 e1 S1 rx h1 => ?_
  refine l2 σ H1 ρ μ1 _ _ S1 h1 fun y uy μ2 H2 e2 S2 ry h2 => ?_
  refine lo x y ux uy H2 μ2 _ _ S2.mu (rx.ext S1.mu e2) ry h2 fun z uz μ3 H3 e3 ok3 rz h3 => ?_
  have S3 : St0 X.K H3 ρ μ3 σ := ⟨ok3, S2.rho.ext S2.mu e3⟩
  split at h3
  · rename_i kk
    cases rz
    refine ⟨kk, rfl, ?_⟩
    cases kk with
    | true =>
      refine iteT ?_
      refine l3 σ H3 ρ μ3 _ _ S3 (by simpa using h3) fun w uw μ4 H4 e4 S4 rw' h4 => ?_
      exact lo' y w uy uw H4 μ4 _ _ S4.mu ((ry.ext S2.mu e3).ext S3.mu e4) rw' h4 fun d u μ' H' e5 ok r q => k d u μ' H' (e1.trans (e2.trans (e3.trans (e4.trans e5)))) ⟨ok, S4.rho.ext S4.mu e5⟩ r q
    | false => exact iteF (k (.v (.bool false)) _ μ3 H3 (e1.trans (e2.trans e3)) S3 (Rp.bool false) (by simpa using h3))
  · exact h3.elim
end
open PySem PySem.Spec PyProof.Rows
theorem atI_0 {α : Type} {x : α} {xs : List α} : atI (x :: xs) 0 = some x := by unfold atI ixN; simp
theorem atI_1 {α : Type} {x y : α} {xs : List α} : atI (x :: y :: xs) 1 = some y := by
  have h := atI_nat (xs := x :: y :: xs) (j := 1) (v := y) rfl
  exact h
theorem atI_2 {α : Type} {x y z : α} {xs : List α} : atI (x :: y :: z :: xs) 2 = some z := by
  have h := atI_nat (xs := x :: y :: z :: xs) (j := 2) (v := z) rfl
  exact h
theorem atI_3 {α : Type} {x y z u : α} {xs : List α} : atI (x :: y :: z :: u :: xs) 3 = some u := by
  have h := atI_nat (xs := x :: y :: z :: u :: xs) (j := 3) (v := u) rfl
  exact h
def rAddD : D → D → Mu → DK → Prop := fun x y μ Q => match x, y with
  | .v (.int i), .v (.int j) => Q (.v (.int (i + j))) μ
  | .v (.tuple xs), .v (.tuple ys) => xs.length + ys.length ≤ 1000 ∧ Q (.v (.tuple (xs ++ ys))) μ
  | _, _ => rCatD x y μ Q
theorem OpR.or {X : Cx} {f} {r1 r2 : R2} (h1 : OpR X f r1) (h2 : OpR X f r2) : OpR X f (fun x y H Q => r1 x y H Q ∨ r2 x y H Q) := by
  intro pins s σ H x y v u Q I rx ry h
  rcases h with h | h
  · exact h1 pins s σ H x y v u Q I rx ry h
  · exact h2 pins s σ H x y v u Q I rx ry h
theorem lo_add {K : PySem.W.Frag} : LiftO K (fun x y H Q => (rI0 fun i j => .int (i + j)) x y H Q ∨ ((rCatTT K) x y H Q ∨ rCat x y H Q)) rAddD := by
  intro x y ux uy H μ Qd Q ok rx ry h k
  unfold rAddD at h
  split at h
  · exact .inl (lo_I0 (K := K) (gd := fun i j => .int (i + j)) (fun _ _ _ _ => .int _) _ _ ux uy H μ Qd Q ok rx ry h k)
  · exact .inr (.inl (lo_catT _ _ ux uy H μ Qd Q ok rx ry h k))
  · exact .inr (.inr (lo_cat _ _ ux uy H μ Qd Q ok rx ry h k))
theorem de_plus {X : Cx} {a b : Expr} {ta tb : DTE} {pos : Pos} (ha : DE X a ta) (hb : DE X b tb) : DE X (.BinOp a .Add b pos) (dOp rAddD ta tb) := de_op (op_add.or (op_catTT.or op_cat)) lo_add ha hb
section
variable {ρ : Rho} {μ : Mu} {Q : DK} {QT : Bool → Mu → Prop} {QA : List D → Mu → Prop} {QG : Rho → Mu → Prop} {QI : List PyData → Mu → Prop} {QO : Option Int → Mu → Prop} {Dd : DEnds} {ta tb tc : DTE} {t u : DTT} {tA : DTA} {s1 s2 : DTS} {i j : Int} {x y : PyData} {xs ys : List PyData} {d e : D}
def dNever : DTS := fun _ _ _ => False
theorem ds_never {X : Cx} {st : Stmt} : DS X st dNever := ⟨fun _ _ _ => False, fun _ _ _ _ _ _ h => h.elim, fun _ _ _ _ _ _ _ h => h.elim⟩
theorem q_var0 {o : Rho} : dVar 0 (some d :: o) μ Q = Q d μ := propext Iff.rfl
theorem q_var1 {a} {o : Rho} : dVar 1 (a :: some d :: o) μ Q = Q d μ := propext Iff.rfl
theorem q_var2 {a b} {o : Rho} : dVar 2 (a :: b :: some d :: o) μ Q = Q d μ := propext Iff.rfl
theorem q_var3 {a b c} {o : Rho} : dVar 3 (a :: b :: c :: some d :: o) μ Q = Q d μ := propext Iff.rfl
theorem q_var4 {a b c f} {o : Rho} : dVar 4 (a :: b :: c :: f :: some d :: o) μ Q = Q d μ := propext Iff.rfl
theorem q_var5 {a b c f g} {o : Rho} : dVar 5 (a :: b :: c :: f :: g :: some d :: o) μ Q = Q d μ := propext Iff.rfl
theorem q_var6 {a b c f g h} {o : Rho} : dVar 6 (a :: b :: c :: f :: g :: h :: some d :: o) μ Q = Q d μ := propext Iff.rfl
theorem q_var7 {a b c f g h k} {o : Rho} : dVar 7 (a :: b :: c :: f :: g :: h :: k :: some d :: o) μ Q = Q d μ := propext Iff.rfl
theorem q_var8 {a b c f g h k l} {o : Rho} : dVar 8 (a :: b :: c :: f :: g :: h :: k :: l :: some d :: o) μ Q = Q d μ := propext Iff.rfl
theorem q_var9 {a b c f g h k l m} {o : Rho} : dVar 9 (a :: b :: c :: f :: g :: h :: k :: l :: m :: some d :: o) μ Q = Q d μ := propext Iff.rfl
theorem q_var10 {a b c f g h k l m n} {o : Rho} : dVar 10 (a :: b :: c :: f :: g :: h :: k :: l :: m :: n :: some d :: o) μ Q = Q d μ := propext Iff.rfl
theorem q_c : dC x ρ μ Q = Q (.v x) μ := propext Iff.rfl
theorem q_op {r} : dOp r ta tb ρ μ Q = ta ρ μ fun x μ1 => tb ρ μ1 fun y μ2 => r x y μ2 Q := propext Iff.rfl
theorem q_B : dB ta ρ μ QT = ta ρ μ fun d μ1 => match d with | .v (.bool k) => QT k μ1 | _ => False := propext Iff.rfl
theorem q_II {C : Int → Int → Prop} {g : Int → Int → PyData} : rII C g (.v (.int i)) (.v (.int j)) μ Q = (C i j ∧ Q (.v (g i j)) μ) := propext Iff.rfl
theorem q_I00 {g : Int → Int → PyData} : rI00 g (.v (.int i)) (.v (.int j)) μ Q = Q (.v (g i j)) μ := propext Iff.rfl
theorem q_neg : dNeg ta ρ μ Q = ta ρ μ fun x μ1 => match x with | .v (.int i) => Q (.v (.int (-i))) μ1 | _ => False := propext Iff.rfl
theorem q_andT : dAndT t u ρ μ QT = t ρ μ fun c μ1 => if c = true then u ρ μ1 QT else QT false μ1 := propext Iff.rfl
theorem q_orT : dOrT t u ρ μ QT = t ρ μ fun c μ1 => if c = true then QT true μ1 else u ρ μ1 QT := propext Iff.rfl
theorem q_notT : dNotT t ρ μ QT = t ρ μ fun c μ1 => QT (!c) μ1 := propext Iff.rfl
theorem q_andV : dAndV ta tb ρ μ Q = ta ρ μ fun x μ1 => match x with | .v (.bool c) => if c = true then tb ρ μ1 Q else Q (.v (.bool false)) μ1 | _ => False := propext Iff.rfl
theorem q_orV : dOrV ta tb ρ μ Q = ta ρ μ fun x μ1 => match x with | .v (.bool c) => if c = true then Q (.v (.bool true)) μ1 else tb ρ μ1 Q | _ => False := propext Iff.rfl
theorem q_notV : dNotV ta ρ μ Q = ta ρ μ fun x μ1 => match x with | .v (.bool c) => Q (.v (.bool (!c))) μ1 | _ => False := propext Iff.rfl
theorem q_if : dIf t ta tb ρ μ Q = t ρ μ fun c μ1 => if c = true then ta ρ μ1 Q else tb ρ μ1 Q := propext Iff.rfl
theorem q_nil : dNil ρ μ QA = QA [] μ := propext Iff.rfl
theorem q_cons : dCons ta tA ρ μ QA = ta ρ μ fun x μ1 => tA ρ μ1 fun xs μ2 => QA (x :: xs) μ2 := propext Iff.rfl
theorem q_tup : dTup tA ρ μ Q = tA ρ μ fun ds μ1 => match asData ds with | some xs => Q (.v (.tuple xs)) μ1 | none => False := propext Iff.rfl
theorem q_lst : dLst tA ρ μ Q = tA ρ μ fun ds μ1 => match asData ds with | some xs => Q (.v (.list xs)) μ1 | none => False := propext Iff.rfl
theorem q_lstM : dLstM tA ρ μ Q = tA ρ μ fun ds μ1 => match asData ds with | some xs => ∀ p, μ1 p = none → Q (.m p) (muSet μ1 p xs) | none => False := propext Iff.rfl
theorem q_asN : asData [] = some [] := by rw [asData]
theorem q_asC {r : List D} : asData (.v x :: r) = (asData r).map (x :: ·) := by rw [asData]
theorem q_eqD {neg : Bool} : rEqD neg (.v x) (.v y) μ Q = (SeqAt.shaped x = true ∧ SeqAt.shaped y = true ∧ Q (.v (.bool (neg ^^ PyData.eqv x y))) μ) := propext Iff.rfl
theorem q_eqI {neg : Bool} : rEqD neg (.v (.int i)) (.v (.int j)) μ Q = Q (.v (.bool (neg ^^ decide (i = j)))) μ := by
  have e : PyData.eqv (.int i) (.int j) = decide (i = j) := by simp [PyData.eqv]; rfl
  rw [q_eqD, e]
  exact propext ⟨fun h => h.2.2, fun h => ⟨rfl, rfl, h⟩⟩
theorem q_eqT {neg : Bool} : rEqD neg (.v (.tuple xs)) (.v (.tuple ys)) μ Q = (SeqAt.shaped (.tuple xs) = true ∧ SeqAt.shaped (.tuple ys) = true ∧ Q (.v (.bool (neg ^^ PyData.eqv (.tuple xs) (.tuple ys)))) μ) := propext Iff.rfl
theorem q_eqL {neg : Bool} : rEqD neg (.v (.list xs)) (.v (.list ys)) μ Q = (SeqAt.shaped (.list xs) = true ∧ SeqAt.shaped (.list ys) = true ∧ Q (.v (.bool (neg ^^ PyData.eqv (.list xs) (.list ys)))) μ) := propext Iff.rfl
theorem q_eqB {neg a b : Bool} : rEqD neg (.v (.bool a)) (.v (.bool b)) μ Q = Q (.v (.bool (neg ^^ (a == b)))) μ := by
  have e : PyData.eqv (.bool a) (.bool b) = (a == b) := by cases a <;> cases b <;> simp [PyData.eqv] <;> rfl
  rw [q_eqD, e]
  exact propext ⟨fun h => h.2.2, fun h => ⟨rfl, rfl, h⟩⟩
theorem q_inD {neg : Bool} : rInD neg (.v x) (.v (.list ys)) μ Q = (PyData.canLayAll0 ys = true ∧ x.canLay0 = true ∧ PyData.depth x ≤ 60 ∧ Q (.v (.bool (neg ^^ ys.any fun b => PyData.eqv b x))) μ) := propext Iff.rfl
theorem q_ixL : rIxD (.v (.list xs)) (.v (.int i)) μ Q = (match atI xs i with | some d => Q (.v d) μ | none => False) := propext Iff.rfl
theorem q_ixT : rIxD (.v (.tuple xs)) (.v (.int i)) μ Q = (match atI xs i with | some d => Q (.v d) μ | none => False) := propext Iff.rfl
theorem q_ixM {l : Addr} : rIxD (.m l) (.v (.int i)) μ Q = (match μ l with | some xs => (match atI xs i with | some d => Q (.v d) μ | none => False) | none => False) := propext Iff.rfl
theorem q_ixS {ns : List Int} : rIxD (.s ns) (.v (.int i)) μ Q = (match atI ns i with | some d => Q (.v (.int d)) μ | none => False) := propext Iff.rfl
theorem q_ixL0 : rIxD (.v (.list (x :: xs))) (.v (.int 0)) μ Q = Q (.v x) μ := by rw [q_ixL, atI_0]
theorem q_ixT0 : rIxD (.v (.tuple (x :: xs))) (.v (.int 0)) μ Q = Q (.v x) μ := by rw [q_ixT, atI_0]
theorem q_ixL1 {z} : rIxD (.v (.list (z :: x :: xs))) (.v (.int 1)) μ Q = Q (.v x) μ := by rw [q_ixL, atI_1]
theorem q_ixT1 {z} : rIxD (.v (.tuple (z :: x :: xs))) (.v (.int 1)) μ Q = Q (.v x) μ := by rw [q_ixT, atI_1]
theorem q_ixL2 {z w} : rIxD (.v (.list (z :: w :: x :: xs))) (.v (.int 2)) μ Q = Q (.v x) μ := by rw [q_ixL, atI_2]
theorem q_ixT2 {z w} : rIxD (.v (.tuple (z :: w :: x :: xs))) (.v (.int 2)) μ Q = Q (.v x) μ := by rw [q_ixT, atI_2]
theorem q_ixT3 {z w v} : rIxD (.v (.tuple (z :: w :: v :: x :: xs))) (.v (.int 3)) μ Q = Q (.v x) μ := by rw [q_ixT, atI_3]
theorem q_cat : rCatD d e μ Q = (match lstOf μ d, lstOf μ e with | some xs, some ys => xs.length + ys.length ≤ 1000 ∧ Q (.v (.list (xs ++ ys))) μ | _, _ => False) := propext Iff.rfl
theorem q_catT : rCatTD (.v (.tuple xs)) (.v (.tuple ys)) μ Q = (xs.length + ys.length ≤ 1000 ∧ Q (.v (.tuple (xs ++ ys))) μ) := propext Iff.rfl
theorem q_addI : rAddD (.v (.int i)) (.v (.int j)) μ Q = Q (.v (.int (i + j))) μ := propext Iff.rfl
theorem q_addT : rAddD (.v (.tuple xs)) (.v (.tuple ys)) μ Q = (xs.length + ys.length ≤ 1000 ∧ Q (.v (.tuple (xs ++ ys))) μ) := propext Iff.rfl
theorem q_addL : rAddD (.v (.list xs)) (.v (.list ys)) μ Q = (xs.length + ys.length ≤ 1000 ∧ Q (.v (.list (xs ++ ys))) μ) := propext Iff.rfl
theorem q_addM {a : Addr} : rAddD (.m a) e μ Q = rCatD (.m a) e μ Q := propext Iff.rfl
theorem q_sl {tl th : DTO} : dSl ta tl th ρ μ Q = ta ρ μ fun x μ1 => tl ρ μ1 fun l μ2 => th ρ μ2 fun u μ3 => rSlD x l u μ3 Q := propext Iff.rfl
theorem q_noPart : dNoPart ρ μ QO = QO none μ := propext Iff.rfl
theorem q_part : dPart ta ρ μ QO = ta ρ μ fun x μ1 => match x with | .v (.int i) => QO (some i) μ1 | _ => False := propext Iff.rfl
theorem q_slT {lo hi : Option Int} : rSlD (.v (.tuple xs)) lo hi μ Q = Q (.v (.tuple (cutP xs lo hi))) μ := propext Iff.rfl
theorem q_slL {lo hi : Option Int} : rSlD (.v (.list xs)) lo hi μ Q = Q (.v (.list (cutP xs lo hi))) μ := propext Iff.rfl
theorem q_rev : dRev ta ρ μ Q = ta ρ μ fun x μ1 => match x with | .v (.tuple xs) => Q (.v (.tuple xs.reverse)) μ1 | .v (.list xs) => Q (.v (.list xs.reverse)) μ1 | .m l => (match μ1 l with | some xs => Q (.v (.list xs.reverse)) μ1 | none => False) | _ => False := propext Iff.rfl
theorem q_cb {rd} : dCB rd tA ρ μ Q = tA ρ μ fun ds μ1 => rd ds μ1 Q := propext Iff.rfl
theorem q_lenL : rLenD [.v (.list ys)] μ Q = Q (.v (.int (ys.length : Nat))) μ := propext Iff.rfl
theorem q_lenT : rLenD [.v (.tuple ys)] μ Q = Q (.v (.int (ys.length : Nat))) μ := propext Iff.rfl
theorem q_lenS {ns : List Int} : rLenD [.s ns] μ Q = Q (.v (.int (ns.length : Nat))) μ := propext Iff.rfl
theorem q_lenM {l : Addr} : rLenD [.m l] μ Q = (match μ l with | some ys => Q (.v (.int (ys.length : Nat))) μ | none => False) := propext Iff.rfl
theorem q_abs : rAbsD [.v (.int i)] μ Q = Q (.v (.int (i.natAbs : Nat))) μ := propext Iff.rfl
theorem q_2I {g : Int → Int → Int} : r2ID g [.v (.int i), .v (.int j)] μ Q = Q (.v (.int (g i j))) μ := propext Iff.rfl
theorem q_intB {k : Bool} : rIntD [.v (.bool k)] μ Q = Q (.v (.int (if k then 1 else 0))) μ := propext Iff.rfl
theorem q_intI : rIntD [.v (.int i)] μ Q = Q (.v (.int i)) μ := propext Iff.rfl
theorem q_listL : rListD [.v (.list ys)] μ Q = Q (.v (.list ys)) μ := propext Iff.rfl
theorem q_listT : rListD [.v (.tuple ys)] μ Q = Q (.v (.list ys)) μ := propext Iff.rfl
theorem q_all : rAllD [.v (.list ys)] μ Q = (match asBools ys with | some bs => Q (.v (.bool (bs.all id))) μ | none => False) := propext Iff.rfl
theorem q_isi {T : String} : dIsi T ta ρ μ Q = ta ρ μ fun x μ1 => match x with | .v d => Q (.v (.bool (isT T d))) μ1 | _ => False := propext Iff.rfl
theorem q_isB {a b : Bool} : rIsD (.v (.bool a)) (.v (.bool b)) μ Q = Q (.v (.bool (a == b))) μ := propext Iff.rfl
theorem q_isN : rIsD (.v .none) (.v .none) μ Q = Q (.v (.bool true)) μ := propext Iff.rfl
theorem q_gName {n : Nat} : gdName n d ρ μ QG = QG (ρ.set n (some d)) μ := propext Iff.rfl
theorem q_gNil : gdNil [] ρ μ QG = QG ρ μ := propext Iff.rfl
theorem q_gCons {g : DTG} {gs : DTGs} : gdCons g gs (x :: xs) ρ μ QG = g (.v x) ρ μ fun ρ1 μ1 => gs xs ρ1 μ1 QG := propext Iff.rfl
theorem q_gTup {n : Nat} {gs : DTGs} : gdTup n gs (.v (.tuple xs)) ρ μ QG = (xs.length = n ∧ gs xs ρ μ QG) := propext Iff.rfl
theorem q_gSub : gdSub ta tb d ρ μ QG = ta ρ μ fun o μ1 => tb ρ μ1 fun i μ2 => match o, i, d with
  | .m l, .v (.int k), .v x => (match μ2 l with
    | some xs => (match ixN xs.length k with
      | some j => QG ρ (muSet μ2 l (xs.set j x))
      | none => False)
    | none => False)
  | _, _, _ => False := propext Iff.rfl
theorem q_asg {g : DTG} : dAsg ta g Dd ρ μ = ta ρ μ fun d μ1 => g d ρ μ1 Dd.nx := propext Iff.rfl
theorem q_par {i j : Nat} : dPar i j tA Dd ρ μ = tA ρ μ fun ds μ1 => match ds with | [v, w] => Dd.nx ((ρ.set i (some v)).set j (some w)) μ1 | _ => False := propext Iff.rfl
theorem q_next : dNext Dd ρ μ = Dd.nx ρ μ := propext Iff.rfl
theorem q_seq : dSeq s1 s2 Dd ρ μ = s1 { Dd with nx := s2 Dd } ρ μ := propext Iff.rfl
theorem q_ret : dRet ta Dd ρ μ = ta ρ μ Dd.rt := propext Iff.rfl
theorem q_drop : dDrop ta Dd ρ μ = ta ρ μ fun _ μ1 => Dd.nx ρ μ1 := propext Iff.rfl
theorem q_ifS : dIfS t s1 s2 Dd ρ μ = t ρ μ fun b μ1 => if b = true then s1 Dd ρ μ1 else s2 Dd ρ μ1 := propext Iff.rfl
theorem q_never : dNever Dd ρ μ = False := propext Iff.rfl
theorem q_call {dsp : DSp} : dCall dsp tA ρ μ Q = tA ρ μ fun ds μ1 => dsp ds μ1 Q := propext Iff.rfl
theorem q_app : dApp ta tb ρ μ Q = ta ρ μ fun x μ1 => match x with
  | .m l => tb ρ μ1 fun y μ2 => (match y, μ2 l with
    | .v d, some xs => xs.length < 1000 ∧ Q (.v .none) (muSet μ2 l (xs ++ [d]))
    | _, _ => False)
  | _ => False := propext Iff.rfl
theorem q_ext : dExt ta tb ρ μ Q = ta ρ μ fun x μ1 => match x with
  | .m l => tb ρ μ1 fun y μ2 => (match y, μ2 l with
    | .v (.list ys), some xs => xs.length + ys.length ≤ 1000 ∧ Q (.v .none) (muSet μ2 l (xs ++ ys))
    | _, _ => False)
  | _ => False := propext Iff.rfl
theorem q_bits : dBits ta ρ μ Q = ta ρ μ fun x μ1 => match x with | .v (.int i) => Q (.v (.int (Builtin.Int.intBits i : Nat))) μ1 | _ => False := propext Iff.rfl
theorem q_chain {r r'} : dChain r r' ta tb tc ρ μ Q = ta ρ μ fun x μ1 => tb ρ μ1 fun y μ2 => r x y μ2 fun z μ3 => match z with
  | .v (.bool k) => if k = true then tc ρ μ3 fun w μ4 => r' y w μ4 Q else Q (.v (.bool false)) μ3
  | _ => False := propext Iff.rfl
theorem q_true : dTrue ρ μ QT = QT true μ := propext Iff.rfl
theorem q_diList : diList ta ρ μ QI = ta ρ μ fun d μ1 => match d with | .v (.list xs) => QI xs μ1 | _ => False := propext Iff.rfl
theorem q_diTup : diTup ta ρ μ QI = ta ρ μ fun d μ1 => match d with | .v (.tuple xs) => QI xs μ1 | _ => False := propext Iff.rfl
theorem q_diRng1 : diRng1 tA ρ μ QI = tA ρ μ fun ds μ1 => match ds with | [.v (.int j)] => (-(2 ^ 62) ≤ j ∧ j < 2 ^ 62) ∧ QI (rngD 0 j.toNat) μ1 | _ => False := propext Iff.rfl
theorem q_diRng2 : diRng2 tA ρ μ QI = tA ρ μ fun ds μ1 => match ds with | [.v (.int i), .v (.int j)] => (-(2 ^ 62) ≤ i ∧ i < 2 ^ 62 ∧ -(2 ^ 62) ≤ j ∧ j < 2 ^ 62) ∧ QI (rngD i (j - i).toNat) μ1 | _ => False := propext Iff.rfl
theorem q_for {src : DTI} {g : DTG} : dFor src g s1 Dd ρ μ = src ρ μ fun xs μ1 => ∃ Pv : Nat → Rho → Mu → Prop, Pv 0 ρ μ1 ∧
  (∀ i x ρ' μ', xs[i]? = some x → Pv i ρ' μ' → g (.v x) ρ' μ' fun ρ2 μ2 => s1 { Dd with nx := Pv (i + 1), ct := Pv (i + 1), bk := Dd.nx } ρ2 μ2) ∧ (∀ ρ' μ', Pv xs.length ρ' μ' → Dd.nx ρ' μ') := propext Iff.rfl
theorem q_comp {cap : List (Option Nat)} {src : DTI} {g : DTG} : dComp cap src g t ta ρ μ Q = src ρ μ fun xs μ1 => xs.length ≤ 1000 ∧ ∃ f : PyData → Option PyData,
  (∀ x ∈ xs, ∀ μ' : Mu, (∀ a ds, μ1 a = some ds → μ' a = some ds) → g (.v x) (capF cap ρ) μ' fun ρ2 μ2 => Le (capF cap ρ) ρ2 ∧ t ρ2 μ2 fun b μ3 =>
    if b = true then ta ρ2 μ3 fun d μ4 => μ4 = μ' ∧ (match d with | .v y => f x = some y | _ => False) else μ3 = μ' ∧ f x = none) ∧ Q (.v (.list (xs.filterMap f))) μ1 := propext Iff.rfl
theorem q_capN {α : Type} {r : List (Option α)} : capF [] r = [] := rfl
theorem q_capC {α : Type} {o : Option Nat} {c : List (Option Nat)} {r : List (Option α)} : capF (o :: c) r = (o.bind fun j => (r[j]?).join) :: capF c r := rfl
theorem q_leN : Le [] [] = True := propext ⟨fun _ => trivial, fun h => h⟩
theorem q_le0 {r r' : Rho} {o : Option D} : Le (none :: r) (o :: r') = Le r r' := propext Iff.rfl
theorem q_le1 {r r' : Rho} {d d' : D} : Le (some d :: r) (some d' :: r') = (d = d' ∧ Le r r') := propext Iff.rfl
theorem asBools_map {α : Type} (p : α → Bool) : ∀ xs : List α, asBools (xs.map fun x => PyData.bool (p x)) = some (xs.map p)
  | [] => rfl
  | x :: r => by rw [List.map_cons, asBools, asBools_map p r]; rfl
theorem fm_some {α β : Type} (p : α → β) : ∀ xs : List α, xs.filterMap (fun x => some (p x)) = xs.map p
  | [] => rfl
  | x :: r => by rw [List.filterMap_cons, fm_some p r]; rfl
theorem q_while : dWhile t s1 Dd ρ μ = (∃ W : Nat → Rho → Mu → Prop, (∃ m, W m ρ μ) ∧ ∀ m ρ μ, W m ρ μ →
  t ρ μ fun b μ1 => if b = true then s1 { Dd with nx := fun ρ' μ' => ∃ m', m' < m ∧ W m' ρ' μ', ct := fun ρ' μ' => ∃ m', m' < m ∧ W m' ρ' μ', bk := Dd.nx } ρ μ1 else Dd.nx ρ μ1) := propext Iff.rfl
end
theorem lk_mem {α β : Type} [BEq α] [LawfulBEq α] {x : α} {k : β} : ∀ {l : List (α × β)}, l.lookup x = some k → (x, k) ∈ l
  | [], h => by cases h
  | (y, j) :: r, h => by
    rw [List.lookup_cons] at h
    cases e : x == y with
    | true =>
      rw [e] at h
      simp only [Option.some.injEq] at h
      have : x = y := eq_of_beq e
      subst this h
      exact List.mem_cons_self
    | false =>
      rw [e] at h
      exact List.mem_cons_of_mem _ (lk_mem h)
def cfK : NameKind → Bool
  | .cell => true
  | .free => true
  | _ => false
theorem has_of {names : List (Str × NameKind)} {cl : List (Str × Addr)} (h : (names.all fun y => !(cfK y.2) || (cl.lookup y.1).isSome) = true) (x : Str) (hx : names.lookup x = some .cell ∨ names.lookup x = some .free) : ∃ a, cl.lookup x = some a := by
  rw [List.all_eq_true] at h
  have key : ∀ k, cfK k = true → names.lookup x = some k → ∃ a, cl.lookup x = some a := fun k hk e => by
    have q := h _ (lk_mem e)
    simp only [hk, Bool.not_true, Bool.false_or] at q
    exact Option.isSome_iff_exists.mp q
  rcases hx with e | e
  · exact key _ rfl e
  · exact key _ rfl e
def CapOk (X : Cx) (sc : Scope) : List (Option Nat) → List Str → Prop
  | none :: c, _ :: n => CapOk X sc c n
  | some j :: c, x :: n => (X.N[j]? = some x ∧ Vis X.env.scope x ∧ X.env.kindOf x ≠ some .local ∧ ((relabel sc X.env).names.lookup x = some .cell ∨ (relabel sc X.env).names.lookup x = some .free)) ∧ CapOk X sc c n
  | _, _ => True
theorem cap_of {X : Cx} {sc : Scope} : ∀ {c : List (Option Nat)} {n : List Str}, CapOk X sc c n → ∀ (i j : Nat) (x : Str), c[i]? = some (some j) → n[i]? = some x →
    X.N[j]? = some x ∧ Vis X.env.scope x ∧ X.env.kindOf x ≠ some .local ∧ ((relabel sc X.env).names.lookup x = some .cell ∨ (relabel sc X.env).names.lookup x = some .free)
  | [], _, _, i, j, x, h, _ => by simp at h
  | _ :: _, [], _, i, j, x, _, h => by simp at h
  | none :: c, y :: n, k, 0, j, x, h, _ => by simp at h
  | none :: c, y :: n, k, i + 1, j, x, h, g => cap_of (c := c) (n := n) k i j x (by simpa using h) (by simpa using g)
  | some l :: c, y :: n, k, 0, j, x, h, g => by
    simp only [List.getElem?_cons_zero, Option.some.injEq] at h g
    subst h g
    exact k.1
  | some l :: c, y :: n, k, i + 1, j, x, h, g => cap_of (c := c) (n := n) k.2 i j x (by simpa using h) (by simpa using g)
theorem cap1 {X : Cx} {sc : Scope} {j : Nat} {x : Str} (h1 : X.N[j]? = some x := by rfl) (h2 : Vis X.env.scope x := by first | exact Or.inl rfl | exact Or.inr (Or.inl rfl) | exact Or.inr (Or.inr rfl)) (h3 : X.env.kindOf x ≠ some .local := by first | (intro z; cases z) | exact (fun z => nomatch z))
    (h4 : (relabel sc X.env).names.lookup x = some .cell ∨ (relabel sc X.env).names.lookup x = some .free := by first | exact Or.inl rfl | exact Or.inr rfl) : X.N[j]? = some x ∧ Vis X.env.scope x ∧ X.env.kindOf x ≠ some .local ∧ ((relabel sc X.env).names.lookup x = some .cell ∨ (relabel sc X.env).names.lookup x = some .free) := ⟨h1, h2, h3, h4⟩
open PySem PySem.Spec PyProof.Rows
def muDel (μ : Mu) (p : Addr) : Mu := fun b => if b = p then none else μ b
theorem muDel_ne {μ : Mu} {p b : Addr} (h : b ≠ p) : muDel μ p b = μ b := by unfold muDel; rw [if_neg h]
def dCompI (cap : List (Option Nat)) (src : DTI) (g : DTG) (c : DTT) (elt : DTE) : DTE := fun ρ μ Q => src ρ μ fun xs μ1 => xs.length ≤ 1000 ∧ ∀ p, μ1 p = none → ∃ Pv : Nat → List PyData → Mu → Prop, Pv 0 [] (muSet μ1 p []) ∧
  (∀ i x acc μ', xs[i]? = some x → μ' p = some acc → Pv i acc μ' → g (.v x) (capF cap ρ) μ' fun ρ2 μ2 => Le (capF cap ρ) ρ2 ∧ c ρ2 μ2 fun b μ3 =>
    if b = true then elt ρ2 μ3 fun d μ4 => μ4 p = some acc ∧ (match d with | .v y => Pv (i + 1) (acc ++ [y]) (muSet μ4 p (acc ++ [y])) | _ => False) else μ3 p = some acc ∧ Pv (i + 1) acc μ3) ∧
  (∀ acc μ', Pv xs.length acc μ' → μ' p = some acc → Q (.v (.list acc)) (muDel μ' p))
theorem comp_core {X : Cx} {pos2 : Pos} {use : Option (Value → Sem Unit)} {QQ : Value → Shared → Prop} {pins : List (Addr × Obj)} {s : Shared} {σ : St} {H : Hp} {ρ : Rho} {μ : Mu} {Qd : DK} {N' : List Str} {scope : Scope} {cl : List (Str × Addr)} {elt iter tg : Expr} {ifs : List Expr} {pos : Pos} {cap : List (Option Nat)} {src : DTI} {g : DTG} {c : DTT} {te : DTE} (hc : X.calm = true)
    (hi : DI X tg iter src) (hg : ∀ fp s₃ H₃, DG (cxComp X N' scope cl fp s₃ H₃) tg g) (hif : ∀ fp s₃ H₃, DIfs (cxComp X N' scope cl fp s₃ H₃) ifs c) (he : ∀ fp s₃ H₃, DE (cxComp X N' scope cl fp s₃ H₃) elt te)
    (hclos : closureFor scope X.env = pure cl) (hcell : ∀ y ∈ scope.names, y.2 ≠ .cell) (hkind : scope.kind = .function) (hnames : ∀ y ∈ scope.names, y.2 = .local → scope.names.lookup y.1 = some .local)
    (hcl : ∀ x a, cl.lookup x = some a → X.env.cells.lookup x = some a) (hhas : ∀ x, (relabel scope X.env).names.lookup x = some .cell ∨ (relabel scope X.env).names.lookup x = some .free → ∃ a, cl.lookup x = some a)
    (hlen : cap.length = N'.length) (hcap : ∀ (i j : Nat) (x : Str), cap[i]? = some (some j) → N'[i]? = some x → X.N[j]? = some x ∧ Vis X.env.scope x ∧ X.env.kindOf x ≠ some .local ∧ ((relabel scope X.env).names.lookup x = some .cell ∨ (relabel scope X.env).names.lookup x = some .free))
    (hs : ∀ x, foldedSetIterable iter X.env x = pure x )
    (I : Inv X pins σ H s) (S : St0 X.K H ρ μ σ) (h : dCompI cap src g c te ρ μ Qd)
    (hend : ∀ (s4 : Shared) (Hc : Hp) (C pa : Addr) (m : Str → Option Value) (acc : List PyData) (μF : Mu), s4.heap.Ns C m → FpOk X pins Hc C → (∀ h', Heap.SameBut C s4.heap h' → Inv X pins σ Hc { s4 with heap := h' }) →
      Ext X.K μ H μF Hc → St0 X.K Hc ρ μF σ → Rp X.K μF Hc (.list acc) (.ref pa) → Qd (.v (.list acc)) μF → compPost (model X.prog X.w) X.A X.xe use QQ (.ref pa) C (.ok .next) s4) :
    wpAny (model X.prog X.w) X.A (comprehension (.ListComp elt [⟨tg, iter, ifs, 0⟩] scope pos) scope X.env pos2 (newList []) false (eval iter X.env) use) QQ X.xe s := by
  obtain ⟨wi, pw, li⟩ := hi
  refine wpAny_comprehension_free rfl hs hclos hkind hnames (thn (pw pins s σ H _ I (li σ H ρ μ _ (fun J H1 => ∃ xs μ1, Ext X.K μ H μ1 H1 ∧ St0 X.K H1 ρ μ1 σ ∧ ItOk X.K J xs μ1 H1 ∧ xs.length ≤ 1000 ∧ ∀ p, μ1 p = none → ∃ Pv : Nat → List PyData → Mu → Prop, Pv 0 [] (muSet μ1 p []) ∧
      (∀ i x acc μ', xs[i]? = some x → μ' p = some acc → Pv i acc μ' → g (.v x) (capF cap ρ) μ' fun ρ2 μ2 => Le (capF cap ρ) ρ2 ∧ c ρ2 μ2 fun b μ3 =>
        if b = true then te ρ2 μ3 fun d μ4 => μ4 p = some acc ∧ (match d with | .v y => Pv (i + 1) (acc ++ [y]) (muSet μ4 p (acc ++ [y])) | _ => False) else μ3 p = some acc ∧ Pv (i + 1) acc μ3) ∧
      (∀ acc μ', Pv xs.length acc μ' → μ' p = some acc → Qd (.v (.list acc)) (muDel μ' p))) S h (fun xs μ1 H1 J e1 S1 it q => ⟨xs, μ1, e1, S1, it, q⟩)))
    fun v s1 h1 => thn h1 fun itv s2 h2 => ?_)
  obtain ⟨it, fp, tn, J, H2, rfl, I2, T, st2, f2, xs, μ1, e1, S1, itok, hxs, allp⟩ := h2
  refine wpAny_newObj_type (wpAny_newFunctionEnv hcell (by intro y hy; simp at hy) (fun h₁ hns₁ hsb₁ => ?_) hkind)
  dsimp only at hns₁ hsb₁ ⊢
  have hfree2 : H2 s2.heap.objs.size = none := I2.hok.fresh (Nat.le_refl _)
  have hK2 : X.K.lookup s2.heap.objs.size = none := by
    cases z : X.K.lookup s2.heap.objs.size with
    | none => rfl
    | some o => exact absurd (Heap.lt_size (I2.kIn _ _ z)) (Nat.lt_irrefl _)
  have I3 : Inv X pins σ (upd H2 s2.heap.objs.size (.lst [])) { s2 with heap := s2.heap.push { cls := .type "list", dict := none, data := .seq ([] : List Value).toArray } } :=
    I2.laid (t' := s2.toks) (fun b u e => Heap.get?_push_of_some _ e) (Nat.le_refl _) ⟨Nat.zero_le _, [], 0, .nil, Heap.get?_push_size _ rfl⟩
  generalize hH : s2.heap.push { cls := .type "list", dict := none, data := .seq ([] : List Value).toArray } = hp3 at hns₁ hsb₁ I3 ⊢
  have hsz3 : hp3.objs.size = s2.heap.objs.size + 1 := by rw [← hH, Heap.size_push]
  have kept3 : ∀ b o, hp3.get? b = some o → h₁.get? b = some o := fun b o e => hsb₁.extBut b o (Nat.ne_of_lt (Heap.lt_size e)) (Heap.get?_push_of_some _ e)
  have old3 : ∀ b o, s2.heap.get? b = some o → hp3.get? b = some o := fun b o e => by rw [← hH]; exact Heap.get?_push_of_some _ e
  have fplt : ∀ b ∈ fp, b < s2.heap.objs.size := fun b hb => by obtain ⟨o, e, _⟩ := T.obj 0 _ st2 b hb; exact Heap.lt_size e
  have fpst : ∀ b ∈ fp, b ∉ frs X.stack := fun b hb hz => by
    rcases List.mem_cons.mp (I2.stkSub b hz) with e | e
    · exact (f2 b hb).2.1 e
    · exact (f2 b hb).2.2.1 e
  obtain ⟨s3, hs3⟩ : ∃ s3 : Shared, s3 = { s2 with heap := hp3 } := ⟨_, rfl⟩
  obtain ⟨H3, hH3⟩ : ∃ H3 : Hp, H3 = upd H2 s2.heap.objs.size (.lst []) := ⟨_, rfl⟩
  have heap3 : s3.heap = hp3 := by rw [hs3]
  rw [← hH3] at I3
  have I3' : Inv X pins σ H3 s3 := by rw [hs3]; exact I3
  have hloc : H3 hp3.objs.size = none := by have := I3'.hok.fresh (a := hp3.objs.size) (by rw [heap3]; exact Nat.le_refl _); exact this
  have okc : (cxComp X N' scope cl fp s3 H3).Ok := by
    refine ⟨I3.ok.mod, ?_, I3.ok.glob, I3.ok.blt, Nat.le_refl _, fun x y a h1 h2 => I3.ok.inj x y a (hcl x a h1) (hcl y a h2), fun x hx => hhas x hx, fun x a h => (nomatch h), I3.ok.hd, I3.ok.frames, .inl rfl, fun b hb => ⟨?_, fun x a h => (f2 b hb).2.2.2.2.1 x a (hcl x a h)⟩,
      I3'.bs, Nat.le_trans I3.ok.bsz I3'.sz, fun b o e hb => ?_, fun b hb => fpst b hb, I3'.stack, I3'.stkFree⟩
    · exact hkind
    · show b ≠ s3.heap.objs.size
      rw [heap3, hsz3]
      exact Nat.ne_of_lt (Nat.lt_succ_of_lt (fplt b hb))
    · rcases (f2 b hb).2.2.2.1 with z | z
      · exact I3.ok.noex b o e z
      · exact absurd (Nat.lt_of_lt_of_le (Heap.lt_size (I3.ok.bs b o e).1) z) (Nat.lt_irrefl _)
  have I4 : Inv (cxComp X N' scope cl fp s3 H3) [] (capF cap σ) H3 { s2 with heap := h₁, toks := s2.toks + ([] : List (Str × Value)).length } := by
    refine ⟨okc, by show s2.os = s3.os; rw [hs3], I3.bare, Un.kept (by show ∀ b o, s3.heap.get? b = some o → _; rw [heap3]; exact kept3), ⟨_, (by show h₁.Ns s3.heap.objs.size _; rw [heap3]; exact hns₁), fun i x v e1 e2 e3 => ?_⟩, fun x a h => ?_, (by show H3 s3.heap.objs.size = none; rw [heap3]; exact hloc), fun x a h => I3.freeC x a (hcl x a h), fun p hp => ?_, I3.hok.kept kept3, ?_⟩
    · obtain ⟨j, h1, h2⟩ := capF_get e2
      obtain ⟨hN, hv, hnl, hk⟩ := hcap i j x h1 e1
      obtain ⟨m, _, hl⟩ := I3.loc
      obtain ⟨u, r, lk⟩ := hl j x v hN h2 hv
      refine ⟨u, r, .inr ⟨hk, ?_⟩⟩
      obtain ⟨a, ha⟩ := hhas x hk
      rcases lk with ⟨z, _⟩ | ⟨_, a', z1, z2⟩
      · exact absurd z hnl
      · have : a' = a := by have q := hcl x a ha; rw [z1] at q; exact Option.some.inj q
        subst this
        obtain ⟨o, ho, hd⟩ := z2
        exact ⟨a', ha, o, kept3 _ _ ho, hd⟩
    · obtain ⟨v, o, ho, hd⟩ := I3.cell x a (hcl x a h)
      exact ⟨v, o, kept3 _ _ ho, hd⟩
    · exact absurd (show p ∈ ([] : List (Addr × Obj)) from hp) (by simp)
    · show (capF cap σ).length = N'.length
      unfold capF
      rw [List.length_map]
      exact hlen
  have hμ1 : μ1 s2.heap.objs.size = none := S1.mu.free hfree2
  obtain ⟨Pv, pv0, body, fin⟩ := allp s2.heap.objs.size hμ1
  have loop : codeAny (model X.prog X.w) X.A (.compLoop (.ListComp elt [⟨tg, iter, ifs, 0⟩] scope pos) 0 (.ref it) (.ref s2.heap.objs.size) (cxComp X N' scope cl fp s3 H3).env)
      (compPost (model X.prog X.w) X.A X.xe use QQ (.ref s2.heap.objs.size) hp3.objs.size) { s2 with heap := h₁, toks := s2.toks + ([] : List (Str × Value)).length } := by
    refine codeAny_compLoopG (fun n s' => ∃ (i : Nat) (σc : St) (Hc : Hp) (acc : List PyData) (μc : Mu), n = xs.length - i ∧ i ≤ xs.length ∧ Inv (cxComp X N' scope cl fp s3 H3) [] σc Hc s' ∧ tn i s'.heap ∧ (∀ b ∈ fp, Hc b = none) ∧
      acc.length ≤ i ∧ μc s2.heap.objs.size = some acc ∧ Pv i acc μc ∧ St0 X.K Hc (capF cap ρ) μc σc ∧ Ext X.K μ1 H2 μc Hc) ?_ xs.length
      ⟨0, capF cap σ, H3, [], muSet μ1 s2.heap.objs.size [], by simp, Nat.zero_le _, I4, T.keep 0 _ _ st2 (fun b hb o e => kept3 b o (old3 b o e)), fun b hb => ?_, Nat.le_refl _, muSet_same, pv0, ?_, ?_⟩
    · rintro n s' ⟨i, σc, Hc, acc, μc, rfl, hi, Ic, tc, frc, hal, hpa, pvi, Sc, Ec⟩
      have stat : ∀ {Hd : Hp}, (∀ b ∈ fp, Hd b = none) → ∀ b ∈ fp, FpOk (cxComp X N' scope cl fp s3 H3) [] Hd b := fun hn b hb =>
        ⟨hn b hb, (okc.exf b hb).1, fpst b hb, .inl hb, fun x a h => (okc.exf b hb).2 x a h, fun p hp => absurd (show p ∈ ([] : List (Addr × Obj)) from hp) (by simp)⟩
      obtain ⟨go, stop⟩ := itok _ Hc Ec Sc.mu i
      by_cases hlt : i < xs.length
      · obtain ⟨g1, y1⟩ := go hlt
        refine thn (T.item (cxComp X N' scope cl fp s3 H3) rfl rfl rfl hc i [] s' σc Hc (fun _ _ => False) Ic (stat frc) tc g1) fun r s4 ⟨u, hr, h4⟩ => ?_
        subst hr
        refine thn h4 fun _ s5 ⟨x, H5, I5, r5, y5, st5, fr5⟩ => ?_
        obtain ⟨d, hd, sm, rd⟩ := y1 x H5 y5
        have I5' := I5.pinned (stat fr5) (T.obj _ _ st5)
        have e5 : Ext X.K _ Hc _ H5 := .of_same (μ := μc) sm
        have S5 : St0 X.K H5 (capF cap ρ) μc σc := ⟨Sc.mu.ext0 e5 sm, Sc.rho.ext Sc.mu e5⟩
        obtain ⟨gt, pg, lg⟩ := hg fp s3 H3
        refine thn (pg _ s5 σc H5 x u (fun σ' H' => ∃ ρ' μ', Ext X.K μc H5 μ' H' ∧ St0 X.K H' ρ' μ' σ' ∧ Le (capF cap ρ) ρ' ∧ c ρ' μ' fun b μ3 =>
            if b = true then te ρ' μ3 fun d' μ4 => μ4 s2.heap.objs.size = some acc ∧ (match d' with | .v y => Pv (i + 1) (acc ++ [y]) (muSet μ4 s2.heap.objs.size (acc ++ [y])) | _ => False) else μ3 s2.heap.objs.size = some acc ∧ Pv (i + 1) acc μ3) I5' r5
          (lg σc H5 (capF cap ρ) _ (.v d) x _ _ S5 rd (body i d acc μc hd hpa pvi) fun σ' ρ' μ' H' e' S' q => ⟨ρ', μ', e', S', q⟩)) fun _ s6 ⟨σ6, H6, I6, ρ6, μ6, e6, S6, le6, q6⟩ => ?_
        refine thn (hif fp s3 H3 _ s6 σ6 H6 ρ6 μ6 _ (fun b H' => ∃ μ', Ext X.K μ6 H6 μ' H' ∧ St0 X.K H' ρ6 μ' σ6 ∧ if b = true then te ρ6 μ' fun d' μ4 => μ4 s2.heap.objs.size = some acc ∧ (match d' with | .v y => Pv (i + 1) (acc ++ [y]) (muSet μ4 s2.heap.objs.size (acc ++ [y])) | _ => False) else μ' s2.heap.objs.size = some acc ∧ Pv (i + 1) acc μ')
          I6 S6 q6 fun b μ' H' e' S' q => ⟨μ', e', S', q⟩) fun b s7 ⟨H7, I7, μ7, e7, S7, q7⟩ => ?_
        have again : ∀ {H9 : Hp} {s9 : Shared} {acc' : List PyData} {μ9 : Mu}, Inv (cxComp X N' scope cl fp s3 H3) ([] ++ pinsAt fp s5.heap) σ6 H9 s9 → acc'.length ≤ i + 1 → μ9 s2.heap.objs.size = some acc' → Pv (i + 1) acc' μ9 → MuOk X.K μ9 H9 → RhoOk X.K μ9 H9 (capF cap ρ) σ6 →
            Ext X.K μ1 H2 μ9 H9 → ∃ m, m < xs.length - i ∧ ∃ (i : Nat) (σc : St) (Hc : Hp) (acc : List PyData) (μc : Mu), m = xs.length - i ∧ i ≤ xs.length ∧ Inv (cxComp X N' scope cl fp s3 H3) [] σc Hc s9 ∧ tn i s9.heap ∧ (∀ b ∈ fp, Hc b = none) ∧
              acc.length ≤ i ∧ μc s2.heap.objs.size = some acc ∧ Pv i acc μc ∧ St0 X.K Hc (capF cap ρ) μc σc ∧ Ext X.K μ1 H2 μc Hc := fun {H9 s9 acc' μ9} I9 l9 p9 v9 m9 r9 e9 => by
          refine ⟨xs.length - (i + 1), by omega, i + 1, σ6, H9, acc', μ9, rfl, hlt, I9.unpinned, T.keep _ _ _ st5 fun b hb o e => (I9.pin (b, o) (List.mem_append_right _ (List.mem_append_right _ (mem_pinsAt hb e)))).1, fun b hb => ?_, l9, p9, v9, ⟨m9, r9⟩, e9⟩
          obtain ⟨o, e, _⟩ := T.obj _ _ st5 b hb
          exact (I9.pin (b, o) (List.mem_append_right _ (List.mem_append_right _ (mem_pinsAt hb e)))).2.1
        cases b with
        | false =>
          have q8 : μ7 s2.heap.objs.size = some acc ∧ Pv (i + 1) acc μ7 := by simpa using q7
          refine iteF ?_
          exact again I7 (by omega) q8.1 q8.2 S7.mu (S7.rho.le le6) (Ec.trans (e5.trans (e6.trans e7)))
        | true =>
          refine iteT ?_
          obtain ⟨t8, p8, l8⟩ := he fp s3 H3
          refine thn (p8 _ s7 σ6 H7 (fun v H' => ∃ y μ8, Ext X.K μ7 H7 μ8 H' ∧ St0 X.K H' ρ6 μ8 σ6 ∧ Rp X.K μ8 H' y v ∧ μ8 s2.heap.objs.size = some acc ∧ Pv (i + 1) (acc ++ [y]) (muSet μ8 s2.heap.objs.size (acc ++ [y]))) I7
            (l8 σ6 H7 ρ6 μ7 _ _ S7 (by simpa using q7) fun d' v μ8 H8 e8 S8 r8 q8 => ?_)) fun v s8 ⟨v8, H8, I8, r8, y, μ8, e8, S8, ry, pa8, fy⟩ => ?_
          · obtain ⟨q80, q8⟩ := q8
            cases d' with
            | v y => exact ⟨y, μ8, e8, S8, r8, q80, q8⟩
            | m _ => exact q8.elim
            | s _ => exact q8.elim
          · obtain ⟨us, hacc, rus⟩ := S8.mu s2.heap.objs.size _ pa8
            have hle : acc.length ≤ 1000 := by omega
            refine thn (mt_append (X := cxComp X N' scope cl fp s3 H3) _ s8 σ6 H8 (.ref s2.heap.objs.size) [v8] (.ref s2.heap.objs.size) [v] (fun _ H' => H' = upd H8 s2.heap.objs.size (.lst (us ++ [v8]))) I8 rfl (.cons r8 .nil) ⟨_, us, v8, rfl, rfl, hacc, by rw [← rus.length]; exact small1000 hle, rfl⟩) fun _ s9 ⟨_, H9, I9, _, e9⟩ => ?_
            subst e9
            have ex : Ext X.K μ8 H8 (muSet μ8 s2.heap.objs.size (acc ++ [y])) (upd H8 s2.heap.objs.size (.lst (us ++ [v8]))) := ext_set pa8
            exact again I9 (by rw [List.length_append, List.length_singleton]; omega) muSet_same fy (S8.mu.set pa8 (rus.append (.cons ry .nil))) ((S8.rho.le le6).ext S8.mu ex) (Ec.trans (e5.trans (e6.trans (e7.trans (e8.trans ex)))))
      · have ei : i = xs.length := by omega
        subst ei
        refine thn (T.done (cxComp X N' scope cl fp s3 H3) rfl rfl rfl hc _ [] s' σc Hc (fun _ _ => False) Ic (stat frc) tc (stop rfl)) fun r s4 ⟨hr, I5⟩ => ?_
        subst hr
        obtain ⟨m, hn, _⟩ := I5.loc
        have hcC : Hc hp3.objs.size = none := by have z : Hc s3.heap.objs.size = none := I5.free; rw [heap3] at z; exact z
        obtain ⟨us, hacc, rus⟩ := Sc.mu s2.heap.objs.size _ hpa
        have shr : ∀ a, μc a = none → muDel μc s2.heap.objs.size a = none := fun a e => by
          unfold muDel
          split
          · rfl
          · exact e
        have dne : ∀ a ds, muDel μc s2.heap.objs.size a = some ds → μc a = some ds := fun a ds e => by
          unfold muDel at e
          split at e
          · cases e
          · exact e
        have eF : Ext X.K μ1 H2 (muDel μc s2.heap.objs.size) Hc := by
          refine ⟨Ec.keep, fun b ds q => ?_, fun b q z => shr b (Ec.fresh b q z)⟩
          obtain ⟨es, q2⟩ := Ec.dom b ds q
          have : b ≠ s2.heap.objs.size := fun z => by rw [z, hμ1] at q; cases q
          exact ⟨es, by unfold muDel; rw [if_neg this]; exact q2⟩
        have mF : MuOk X.K (muDel μc s2.heap.objs.size) Hc := fun a ds q => by
          obtain ⟨ys, z1, z2⟩ := Sc.mu a ds (dne a ds q)
          exact ⟨ys, z1, z2.shrink shr⟩
        refine hend s4 Hc hp3.objs.size s2.heap.objs.size m acc (muDel μc s2.heap.objs.size) (by have z : s4.heap.Ns s3.heap.objs.size m := hn; rw [heap3] at z; exact z) (I2.fpOk (by rw [hsz3]; exact Nat.le_succ _) hcC) (fun h' hs' => ?_) (e1.trans eF) ⟨mF, S1.rho.ext S1.mu eF⟩ (Rp.list hacc (by unfold muDel; rw [if_pos rfl]) (rus.shrink shr)) (fin acc μc pvi hpa)
        have kp : ∀ b o, b < s2.heap.objs.size → s4.heap.get? b = some o → h'.get? b = some o := fun b o hb e => hs'.extBut b o (by rw [hsz3]; exact Nat.ne_of_lt (Nat.lt_succ_of_lt hb)) e
        have hok' : HOk X.prog X.w Hc h' := fun b ob e => by
          refine (I5.hok b ob e).stay (fun cc v hcc q => hs'.extBut cc v ?_ q) (fun _ q => q) fun _ _ q => q
          rintro rfl
          rcases hcc with z | z
          · rw [← z, hcC] at e; cases e
          · rw [hcC] at z; cases z
        have u1 : Un (frs X.stack) fp H2 H3 s2.heap s3.heap := by rw [heap3, hH3]; exact Un.laid old3 (Nat.le_refl _) hfree2
        have u2 : Un (frs X.stack) fp H3 Hc s3.heap s4.heap := I5.base
        exact I2.call' (ch := fp) (by show s4.os = s2.os; have z : s4.os = s3.os := I5.os; rw [z, hs3]) (Un.after (u1.trans u2) kp) hok' I5.bare fun b hb => ⟨(f2 b hb).2.2.2.1, (f2 b hb).2.1, (f2 b hb).2.2.2.2.1, (f2 b hb).2.2.2.2.2⟩
    · have z : b ≠ s2.heap.objs.size := Nat.ne_of_lt (fplt b hb)
      rw [hH3, upd_ne z]
      exact (f2 b hb).1
    · have ex := ext_mut (o := .lst []) (ds := []) S1.mu hfree2 hK2
      rw [hH3]
      exact ⟨S1.mu.mut .nil hfree2 hK2, (S1.rho.ext S1.mu ex).cap⟩
    · rw [hH3]
      exact ext_mut (o := .lst []) (ds := []) S1.mu hfree2 hK2
  have envE : (cxComp X N' scope cl fp s3 H3).env = compEnvC scope cl hp3.objs.size X.env := by show compEnvC scope cl s3.heap.objs.size X.env = _; rw [heap3]
  rw [envE] at loop
  exact codeAny_compStart_list loop (T.self X.A 0 _ _ _ (T.keep 0 _ _ st2 (fun b hb o e => kept3 b o (old3 b o e))) loop)
theorem de_compI {X : Cx} {N' : List Str} {scope : Scope} {cl : List (Str × Addr)} {elt iter tg : Expr} {ifs : List Expr} {pos : Pos} {cap : List (Option Nat)} {src : DTI} {g : DTG} {c : DTT} {te : DTE} (hc : X.calm = true)
    (hi : DI X tg iter src) (hg : ∀ fp s₃ H₃, DG (cxComp X N' scope cl fp s₃ H₃) tg g) (hif : ∀ fp s₃ H₃, DIfs (cxComp X N' scope cl fp s₃ H₃) ifs c) (he : ∀ fp s₃ H₃, DE (cxComp X N' scope cl fp s₃ H₃) elt te)
    (hclos : closureFor scope X.env = pure cl) (hcell : ∀ y ∈ scope.names, y.2 ≠ .cell) (hkind : scope.kind = .function) (hnames : ∀ y ∈ scope.names, y.2 = .local → scope.names.lookup y.1 = some .local)
    (hcl : ∀ x a, cl.lookup x = some a → X.env.cells.lookup x = some a) (hhas : ∀ x, (relabel scope X.env).names.lookup x = some .cell ∨ (relabel scope X.env).names.lookup x = some .free → ∃ a, cl.lookup x = some a)
    (hlen : cap.length = N'.length) (hcap : ∀ (i j : Nat) (x : Str), cap[i]? = some (some j) → N'[i]? = some x → X.N[j]? = some x ∧ Vis X.env.scope x ∧ X.env.kindOf x ≠ some .local ∧ ((relabel scope X.env).names.lookup x = some .cell ∨ (relabel scope X.env).names.lookup x = some .free))
    (hs : ∀ x, foldedSetIterable iter X.env x = pure x := by intro _; rfl) : DE X (.ListComp elt [⟨tg, iter, ifs, 0⟩] scope pos) (dCompI cap src g c te) := by
  refine de_of fun pins s σ H ρ μ Qd Q I S h k => ?_
  rw [eval_ListComp]
  refine comp_core hc hi hg hif he hclos hcell hkind hnames hcl hhas hlen hcap hs I S h fun s4 Hc C pa m acc μF hn _ hI e1 S1 r q => ?_
  exact ⟨m, hn, fun h' hs' => ⟨.ref pa, Hc, hI h' hs', rfl, k (.v (.list acc)) _ μF Hc e1 S1 r q⟩⟩
theorem ns_obj {h : Heap} {C : Addr} {m : Str → Option Value} (hn : h.Ns C m) : ∃ o, h.get? C = some o ∧ ∀ v, o.data ≠ .cell v := let ⟨o, es, ep, ho, hd, _⟩ := hn; ⟨o, ho, fun v z => by rw [hd] at z; cases z⟩
theorem ns_same {h h' : Heap} {C : Addr} {m : Str → Option Value} (hn : h.Ns C m) (e : h'.get? C = h.get? C) : h'.Ns C m := let ⟨o, es, ep, ho, r⟩ := hn; ⟨o, es, ep, e.trans ho, r⟩
theorem ds_setC {X : Cx} {i : Nat} {x : Str} {pos' spos : Pos} {N' : List Str} {scope : Scope} {cl : List (Str × Addr)} {elt iter tg : Expr} {ifs : List Expr} {pos : Pos} {cap : List (Option Nat)} {src : DTI} {g : DTG} {c : DTT} {te : DTE} (hN : X.N.Nodup) (hix : X.N[i]? = some x) (hx : X.env.scope.names.lookup x = some .local) (hc : X.calm = true)
    (hi : DI X tg iter src) (hg : ∀ fp s₃ H₃, DG (cxComp X N' scope cl fp s₃ H₃) tg g) (hif : ∀ fp s₃ H₃, DIfs (cxComp X N' scope cl fp s₃ H₃) ifs c) (he : ∀ fp s₃ H₃, DE (cxComp X N' scope cl fp s₃ H₃) elt te)
    (hclos : closureFor scope X.env = pure cl) (hcell : ∀ y ∈ scope.names, y.2 ≠ .cell) (hkind : scope.kind = .function) (hnames : ∀ y ∈ scope.names, y.2 = .local → scope.names.lookup y.1 = some .local)
    (hcl : ∀ x a, cl.lookup x = some a → X.env.cells.lookup x = some a) (hhas : ∀ x, (relabel scope X.env).names.lookup x = some .cell ∨ (relabel scope X.env).names.lookup x = some .free → ∃ a, cl.lookup x = some a)
    (hlen : cap.length = N'.length) (hcap : ∀ (i j : Nat) (x : Str), cap[i]? = some (some j) → N'[i]? = some x → X.N[j]? = some x ∧ Vis X.env.scope x ∧ X.env.kindOf x ≠ some .local ∧ ((relabel scope X.env).names.lookup x = some .cell ∨ (relabel scope X.env).names.lookup x = some .free))
    (hs : ∀ x, foldedSetIterable iter X.env x = pure x := by intro _; rfl)
    (hsw : swapsWith (.ListComp elt [⟨tg, iter, ifs, 0⟩] scope pos) (some (.Name x pos')) spos.line X.env = pure true := by rfl) : DS X (.Assign [.Name x pos'] (.ListComp elt [⟨tg, iter, ifs, 0⟩] scope pos) spos) (dAsg (dCompI cap src g c te) (gdName i)) := by
  refine ⟨fun D σ H => ∃ ρ μ Dd, St0 X.K H ρ μ σ ∧ dAsg (dCompI cap src g c te) (gdName i) Dd ρ μ ∧ (∀ σ' ρ' μ' H', Ext X.K μ H μ' H' → St0 X.K H' ρ' μ' σ' → Dd.nx ρ' μ' → D.nx σ' H'), ?_, fun σ H ρ μ Dd De S h k1 k2 k3 k4 => ⟨ρ, μ, Dd, S, h, k1⟩⟩
  rintro pins s σ H D I ⟨ρ, μ, Dd, S, h, k1⟩
  rw [exec_Assign_Name_used _ _ _ _ hsw]
  refine wpAny_bind (wpAny_standAt ?_)
  show wpAny _ _ ((comprehension (.ListComp elt [⟨tg, iter, ifs, 0⟩] scope pos) scope X.env (firstIterPos [⟨tg, iter, ifs, 0⟩] pos) (newList []) false (eval iter X.env) (some (assign (.Name x pos') X.env)) >>= fun _ => pure ()) >>= _) _ _ s
  refine wpAny_bind (wpAny_bind (comp_core (Qd := fun d μ1 => gdName i d ρ μ1 Dd.nx) hc hi hg hif he hclos hcell hkind hnames hcl hhas hlen hcap hs I S h fun s4 Hc C pa m acc μF hn fC hI e1 S1 r q => ?_))
  have I4 : Inv X pins σ Hc s4 := hI s4.heap (Heap.SameBut.refl _ _)
  obtain ⟨oC, hoC, hdC⟩ : ∃ o, s4.heap.get? C = some o ∧ ∀ v, o.data ≠ .cell v := by
    obtain ⟨o, h1, h2⟩ := ns_obj hn
    exact ⟨o, h1, h2⟩
  have I5 := I4.pinned (fp := [C]) (fun b hb => by rw [List.mem_singleton.mp hb]; exact fC) (fun b hb => by rw [List.mem_singleton.mp hb]; exact ⟨oC, hoC, hdC⟩)
  show wpAny _ _ (assign (.Name x pos') X.env (.ref pa)) _ _ s4
  refine wpAny_assign_Name (store_ok I5 hN hix (Or.inl hx) (show RelV (.ref pa) (.ref pa) from rfl) (fun s' I' => ?_) (.inr hx))
  have keepC : s'.heap.get? C = some oC := (I'.pin (C, oC) (List.mem_append_right _ (List.mem_append_right _ (mem_pinsAt (List.mem_singleton.mpr rfl) hoC)))).1
  have hn' : s'.heap.Ns C m := ns_same hn (by rw [keepC, hoC])
  refine ⟨m, hn', fun h' hs' => wpAny_pure (wpAny_pure ?_)⟩
  refine ⟨σ.set i (some (.ref pa)), Hc, ?_, k1 _ _ _ _ e1 ⟨S1.mu, S1.rho.set (d := .v (.list acc)) r⟩ q⟩
  refine I'.unpinned.call' (ch := [C]) rfl ⟨fun b o e n hb hx => ?_, fun b o e n hb hx => ?_, fun b o e n hx => n, fun b o e hx => ?_, fun b xs e => e, fun b o u e => e, fun b ps e => ⟨#[], by rw [Array.append_empty]; exact e⟩⟩ ?_ I'.bare fun b hb => ?_
  · exact hs'.extBut b o (fun z => hx (List.mem_singleton.mpr z)) e
  · exact ⟨o.slots, hs'.extBut b o (fun z => hx (List.mem_singleton.mpr z)) e⟩
  · exact ⟨o, hs'.extBut b o (fun z => hx (List.mem_singleton.mpr z)) e⟩
  · exact fun b ob e => by
      refine (I'.hok b ob e).stay (fun cc v hcc q => hs'.extBut cc v ?_ q) (fun _ q => q) fun _ _ q => q
      rintro rfl
      rcases hcc with z | z
      · rw [← z, fC.1] at e; cases e
      · rw [fC.1] at z; cases z
  · rw [List.mem_singleton.mp hb]
    exact ⟨fC.2.2.2.1, fC.2.1, fC.2.2.2.2.1, fC.2.2.2.2.2⟩
theorem q_compI {cap : List (Option Nat)} {src : DTI} {g : DTG} {t : DTT} {ta : DTE} {ρ : Rho} {μ : Mu} {Q : DK} : dCompI cap src g t ta ρ μ Q = src ρ μ fun xs μ1 => xs.length ≤ 1000 ∧ ∀ p, μ1 p = none → ∃ Pv : Nat → List PyData → Mu → Prop, Pv 0 [] (muSet μ1 p []) ∧
  (∀ i x acc μ', xs[i]? = some x → μ' p = some acc → Pv i acc μ' → g (.v x) (capF cap ρ) μ' fun ρ2 μ2 => Le (capF cap ρ) ρ2 ∧ t ρ2 μ2 fun b μ3 =>
    if b = true then ta ρ2 μ3 fun d μ4 => μ4 p = some acc ∧ (match d with | .v y => Pv (i + 1) (acc ++ [y]) (muSet μ4 p (acc ++ [y])) | _ => False) else μ3 p = some acc ∧ Pv (i + 1) acc μ3) ∧
  (∀ acc μ', Pv xs.length acc μ' → μ' p = some acc → Q (.v (.list acc)) (muDel μ' p)) := propext Iff.rfl
theorem muDel_set {μ : Mu} {p : Addr} {ds : List PyData} (h : μ p = none) : muDel (muSet μ p ds) p = μ := by
  funext b
  unfold muDel muSet
  by_cases e : b = p
  · rw [if_pos e, e, h]
  · rw [if_neg e, if_neg e]
theorem fmTake {xs : List PyData} {f : PyData → Option PyData} {i : Nat} {d : PyData} (h : xs[i]? = some d) : (xs.take (i + 1)).filterMap f = (xs.take i).filterMap f ++ (f d).toList := fm_take h
open PySem PySem.Spec PyProof.Rows
section
variable {X : Cx} {es : List Expr} {x1 : Nat} {tpos : Pos}
def zipD : List PyData → List PyData → List PyData
  | x :: xs, y :: ys => .tuple [x, y] :: zipD xs ys
  | _, _ => []
def diZip (t : DTA) : DTI := fun ρ μ Q => t ρ μ fun ds μ1 => match ds with
  | [.v (.list xs), .v (.list ys)] => Q (zipD xs ys) μ1
  | _ => False
theorem q_diZip {t : DTA} {ρ : Rho} {μ : Mu} {Q : List PyData → Mu → Prop} : diZip t ρ μ Q = t ρ μ fun ds μ1 => match ds with | [.v (.list xs), .v (.list ys)] => Q (zipD xs ys) μ1 | _ => False := propext Iff.rfl
end
open PySem PySem.Spec PyProof.Rows
section
variable {X : Cx} {a b e : Expr} {es : List Expr} {ta tb te : DTE} {t : DTA} {p pos : Pos}
def rTupOfD : List D → Mu → DK → Prop := fun xs μ Q => match xs with
  | [.v (.list ys)] => Q (.v (.tuple ys)) μ
  | [.v (.tuple ys)] => Q (.v (.tuple ys)) μ
  | [.m l] => (match μ l with | some ys => Q (.v (.tuple ys)) μ | none => False)
  | _ => False
theorem lc_tupOf {K : PySem.W.Frag} : LiftC K (fun xs H Q => ∃ p ys, xs = [.ref p] ∧ ((SqL K H p ys ∧ ∀ l, H l = none → Q (.ref l) (upd H l (.tup ys))) ∨ (SqT K H p ys ∧ Q (.ref p) H))) rTupOfD := by
  intro xs us H μ Qd Q ok rs h k
  unfold rTupOfD at h
  split at h
  · cases rs with
    | cons r1 r2 =>
      cases r2
      cases r1 with
      | list hs hn r => exact ⟨_, _, rfl, .inl ⟨SqL.of hs, fun l hl => k (.v _) _ μ _ (ext_new hl) (ok.new hl) (rp_tup_new ok r hl) h⟩⟩
  · cases rs with
    | cons r1 r2 =>
      cases r2
      cases id r1 with
      | tuple hs r => exact ⟨_, _, rfl, .inr ⟨hs, k (.v _) _ μ H .refl ok r1 h⟩⟩
  · cases rs with
    | cons r1 r2 =>
      cases r2
      obtain ⟨rfl, ds, hm⟩ := r1
      rw [hm] at h
      obtain ⟨us, hl, r⟩ := ok _ ds hm
      exact ⟨_, _, rfl, .inl ⟨SqL.of hl, fun l hl' => k (.v _) _ μ _ (ext_new hl') (ok.new hl') (rp_tup_new ok r hl') h⟩⟩
  · exact h.elim
theorem de_tupOf (hg : Gl X "tuple") (hm : X.mg "tuple" = none) (ha : DA X (e :: es) t)
    (he : starEach (e :: es) X.env = (false, eval e X.env) :: starEach es X.env := by rfl) (hpl : (backTo pos (starEach es X.env)).any (·.1) = false := by rfl) : DE X (.Call (.Name "tuple" p) (e :: es) [] pos) (dCB rTupOfD t) :=
  de_callTy call_tuple_of lc_tupOf hg hm PyProof.Rows.Boot.«tuple» ha (by decide) (by decide) he hpl
theorem q_tupOfL {ys : List PyData} {μ : Mu} {Q : DK} : rTupOfD [.v (.list ys)] μ Q = Q (.v (.tuple ys)) μ := propext Iff.rfl
theorem q_tupOfT {ys : List PyData} {μ : Mu} {Q : DK} : rTupOfD [.v (.tuple ys)] μ Q = Q (.v (.tuple ys)) μ := propext Iff.rfl
theorem q_tupOfM {l : Addr} {μ : Mu} {Q : DK} : rTupOfD [.m l] μ Q = (match μ l with | some ys => Q (.v (.tuple ys)) μ | none => False) := propext Iff.rfl
def rRepD : D → D → Mu → DK → Prop := fun x y μ Q => match x, y with
  | .v (.list xs), .v (.int k) => (0 ≤ k ∧ k ≤ 1000 ∧ xs.length * k.toNat ≤ 1000) ∧ Q (.v (.list (List.replicate k.toNat xs).flatten)) μ
  | _, _ => False
theorem q_rep {xs : List PyData} {k : Int} {μ : Mu} {Q : DK} : rRepD (.v (.list xs)) (.v (.int k)) μ Q = ((0 ≤ k ∧ k ≤ 1000 ∧ xs.length * k.toNat ≤ 1000) ∧ Q (.v (.list (List.replicate k.toNat xs).flatten)) μ) := propext Iff.rfl
end
open PySem PySem.Spec PyProof.Rows
section
variable {prog : Program} {w : World} {A : Around} {E : Value → Shared → Prop} {s : Shared}
end
open PySem PySem.Spec PyProof.Rows
section
variable {X : Cx} {es : List Expr} {x1 : Nat} {tpos : Pos}
end
section
variable {X : Cx} {es : List Expr} {pos : Pos}
def gdLst (n : Nat) (gs : DTGs) : DTG := fun d ρ μ Q => match d with
  | .v (.list xs) => xs.length = n ∧ gs xs ρ μ Q
  | _ => False
theorem q_gdLst {n : Nat} {gs : DTGs} {xs : List PyData} {ρ : Rho} {μ : Mu} {Q : Rho → Mu → Prop} : gdLst n gs (.v (.list xs)) ρ μ Q = (xs.length = n ∧ gs xs ρ μ Q) := propext Iff.rfl
end
theorem cl1 {k : Str} {v : Addr} {r : List (Str × Addr)} {x : Str} {a : Addr} (h : List.lookup x [(k, v)] = some a) : List.lookup x ((k, v) :: r) = some a := by
  simp only [List.lookup_cons] at h ⊢
  cases e : x == k with
  | true => rw [e] at h; exact h
  | false => rw [e] at h; exact absurd h (by simp)
theorem cl2 {k k' : Str} {v v' : Addr} {r : List (Str × Addr)} {x : Str} {a : Addr} (n : (k == k') = false) (h : List.lookup x [(k, v)] = some a) : List.lookup x ((k', v') :: (k, v) :: r) = some a := by
  have g := cl1 (r := r) h
  simp only [List.lookup_cons] at h
  cases e : x == k with
  | true =>
    have e' : x = k := by simpa using e
    subst e'
    rw [List.lookup_cons, n]
    exact g
  | false => rw [e] at h; exact absurd h (by simp)
open PySem PySem.Spec PyProof.Rows
section
variable {X : Cx} {e : Expr} {es : List Expr} {t : DTA} {p pos : Pos}
theorem ints_of : ∀ {ns : List Int} {us : List Value}, Vals (ns.map V.int) us → PyProof.Rows.IntsAre us ns
  | [], _, .nil => .nil
  | n :: r, _, .cons h t => by obtain ⟨tk, rfl⟩ := h; exact .cons n tk (ints_of t)
theorem call_sumL (hc : X.calm = true) : CallR X (.builtin "sum") (fun xs H Q => ∃ (p : Addr) (ns : List Int), xs = [.ref p] ∧ H p = some (.lst (ns.map V.int)) ∧ Q (.int ns.sum) H) := by
  intro pins s σ H xs us Q I r h
  obtain ⟨l, ns, rfl, hl, q⟩ := h
  obtain ⟨u, rfl, rx⟩ := vals1 r
  cases rx
  obtain ⟨its, rv, pl, _⟩ := I.list (SqL.of hl)
  have hi := ints_of rv
  have hL := pl.isList
  obtain ⟨xs, hx⟩ := hi.allInts.items
  have hn : numsOf its.toArray.toList = ns := by rw [show its.toArray.toList = its from rfl, hi.numsOf]
  rw [hx] at hL hn
  rw [nums_intItems] at hn
  refine sum_intListG (I.ok.hd hc) hL fun h' tk t' hk => ?_
  rw [preSum_eq, List.take_of_length_le (by simp), hn]
  exact ⟨.int ns.sum, H, I.kept hk, ⟨_, rfl⟩, q⟩
def asInts : List PyData → Option (List Int)
  | [] => some []
  | .int b :: r => (asInts r).map (b :: ·)
  | _ :: _ => none
theorem asInts_rp {K : PySem.W.Frag} {μ : Mu} {H : Hp} : ∀ {xs : List PyData} {us : List V} {bs : List Int}, RpL K μ H xs us → asInts xs = some bs → us = bs.map V.int
  | _, _, _, .nil, e => by cases e; rfl
  | .int b :: r, _, bs, .cons h t, e => by
    simp only [asInts] at e
    cases q : asInts r with
    | none => rw [q] at e; cases e
    | some cs => rw [q] at e; cases e; cases h; rw [asInts_rp t q]; rfl
  | .none :: r, _, bs, .cons h t, e => by simp [asInts] at e
  | .bool _ :: r, _, bs, .cons h t, e => by simp [asInts] at e
  | .str _ :: r, _, bs, .cons h t, e => by simp [asInts] at e
  | .list _ :: r, _, bs, .cons h t, e => by simp [asInts] at e
  | .tuple _ :: r, _, bs, .cons h t, e => by simp [asInts] at e
  | .dict _ :: r, _, bs, .cons h t, e => by simp [asInts] at e
def rSumD : List D → Mu → DK → Prop := fun xs μ Q => match xs with
  | [.v (.list ys)] => (match asInts ys with | some bs => Q (.v (.int bs.sum)) μ | none => False)
  | _ => False
theorem lc_sum {K : PySem.W.Frag} : LiftC K (fun xs H Q => ∃ (p : Addr) (ns : List Int), xs = [.ref p] ∧ H p = some (.lst (ns.map V.int)) ∧ Q (.int ns.sum) H) rSumD := by
  intro xs us H μ Qd Q ok rs h k
  unfold rSumD at h
  split at h
  · rename_i ys
    cases q : asInts ys with
    | none => rw [q] at h; exact h.elim
    | some bs =>
      rw [q] at h
      cases rs with
      | cons r1 r2 =>
        cases r2
        cases r1 with
        | list hs hn r => exact ⟨_, bs, rfl, by rw [hs, asInts_rp r q], k (.v _) _ μ H .refl ok (Rp.int _) h⟩
  · exact h.elim
theorem de_sum (hc : X.calm = true) (hg : Gl X "sum") (hm : X.mg "sum" = none) (ha : DA X (e :: es) t)
    (he : starEach (e :: es) X.env = (false, eval e X.env) :: starEach es X.env := by rfl) (hpl : (backTo pos (starEach es X.env)).any (·.1) = false := by rfl) : DE X (.Call (.Name "sum" p) (e :: es) [] pos) (dCB rSumD t) :=
  de_callB (call_sumL hc) lc_sum hg hm PyProof.Rows.Boot.«sum» ha (by decide) (by decide) he hpl
theorem q_sum {ys : List PyData} {μ : Mu} {Q : DK} : rSumD [.v (.list ys)] μ Q = (match asInts ys with | some bs => Q (.v (.int bs.sum)) μ | none => False) := propext Iff.rfl
end
section
variable {X : Cx} {e tg : Expr} {te : DTE} {td : DTS} {pos : Pos}
end
section
variable {X : Cx} {a b c : Expr} {ta tb tc : DTE} {pos : Pos}
theorem dt_chain {op op' : CmpOp} {rr rr' : R2} {r r' : D → D → Mu → DK → Prop} (ho : OpR X (compareOp op) rr) (lo : LiftO X.K rr r) (ho' : OpR X (compareOp op') rr') (lo' : LiftO X.K rr' r') (ha : DE X a ta) (hb : DE X b tb) (hc : DE X c tc)
    (hm : lastMarks [op, op'] [b, c] = false := by with_unfolding_all rfl) : DT X (.Compare a [op, op'] [b, c] pos) (dB (dChain r r' ta tb tc)) := by
  obtain ⟨t1, p1, l1⟩ := ha
  obtain ⟨t2, p2, l2⟩ := hb
  obtain ⟨t3, p3, l3⟩ := hc
  refine ⟨_, pt_chain ho ho' p1 p2 p3 hm, lift_test (fun σ H ρ μ Qd Q S h k => ?_)⟩
  refine l1 σ H ρ μ _ _ S h fun x ux μ1 H1 e1 S1 rx h1 => ?_
  refine l2 σ H1 ρ μ1 _ _ S1 h1 fun y uy μ2 H2 e2 S2 ry h2 => ?_
  refine lo x y ux uy H2 μ2 _ _ S2.mu (rx.ext S1.mu e2) ry h2 fun z uz μ3 H3 e3 ok3 rz h3 => ?_
  have S3 : St0 X.K H3 ρ μ3 σ := ⟨ok3, S2.rho.ext S2.mu e3⟩
  split at h3
  · rename_i kk
    cases rz
    refine ⟨kk, rfl, ?_⟩
    cases kk with
    | true =>
      refine iteT ?_
      refine l3 σ H3 ρ μ3 _ _ S3 (by simpa using h3) fun w uw μ4 H4 e4 S4 rw' h4 => ?_
      exact lo' y w uy uw H4 μ4 _ _ S4.mu ((ry.ext S2.mu e3).ext S3.mu e4) rw' h4 fun d u μ' H' e5 ok r q => k d u μ' H' (e1.trans (e2.trans (e3.trans (e4.trans e5)))) ⟨ok, S4.rho.ext S4.mu e5⟩ r q
    | false => exact iteF (k (.v (.bool false)) _ μ3 H3 (e1.trans (e2.trans e3)) S3 (Rp.bool false) (by simpa using h3))
  · exact h3.elim
theorem cl3 {k k' : Str} {v v' : Addr} {x : Str} {a : Addr} (n : (k == k') = false) (h : List.lookup x [(k, v), (k', v')] = some a) : List.lookup x [(k', v'), (k, v)] = some a := by
  simp only [List.lookup_cons, List.lookup_nil] at h ⊢
  cases e : x == k with
  | true =>
    have e' : x = k := by simpa using e
    subst e'
    rw [e] at h
    rw [n]
    exact h
  | false =>
    rw [e] at h
    cases e2 : x == k' with
    | true => rw [e2] at h; exact h
    | false => rw [e2] at h; exact absurd h (by simp)
end
open PySem PySem.Spec PyProof.Rows
section
variable {X : Cx} {o e : Expr} {to te : DTE} {apos cpos pos : Pos}
def dPop (to : DTE) : DTE := fun ρ μ Q => to ρ μ fun x μ1 => match x with
  | .m l => (match μ1 l with
    | some xs => ∃ d, xs[xs.length - 1]? = some d ∧ Q (.v d) (muSet μ1 l xs.dropLast)
    | none => False)
  | _ => False
theorem RpL.dropLast {K : PySem.W.Frag} {μ : Mu} {H : Hp} : ∀ {ds : List PyData} {us : List V}, RpL K μ H ds us → RpL K μ H ds.dropLast us.dropLast
  | _, _, .nil => .nil
  | _, _, .cons h .nil => .nil
  | _, _, .cons h (.cons h2 t) => .cons h (RpL.dropLast (.cons h2 t))
theorem RpL.eraseIdx {K : PySem.W.Frag} {μ : Mu} {H : Hp} : ∀ {ds : List PyData} {us : List V} (i : Nat), RpL K μ H ds us → RpL K μ H (ds.eraseIdx i) (us.eraseIdx i)
  | _, _, _, .nil => .nil
  | _, _, 0, .cons _ t => t
  | _, _, i + 1, .cons h t => .cons h (RpL.eraseIdx i t)
theorem de_pop (ho : DE X o to) (hbase : attributeBase o "pop" X.env (eval o X.env) = eval o X.env := by rfl) (hline : (apos.endLine == cpos.line) = true := by rfl) :
    DE X (.Call (.Attribute o "pop" apos) [] [] cpos) (dPop to) := by
  obtain ⟨t1, p1, l1⟩ := ho
  refine ⟨_, pe_bm0 PySem.F.plainAttrs_list PySem.F.slot_list_pop PySem.F.type_list_pop mt_pop p1 hbase hline, fun σ H ρ μ Qd Q S h k => ?_⟩
  refine l1 σ H ρ μ _ _ S h fun x ux μ1 H1 e1 S1 rx h1 => ?_
  cases x with
  | m l =>
    obtain ⟨rfl, ds, hm⟩ := id rx
    obtain ⟨us, hl, rl⟩ := S1.mu l ds hm
    refine ⟨.inl ⟨rfl, us, SqL.of hl⟩, ?_⟩
    dsimp only at h1
    rw [hm] at h1
    obtain ⟨d, hd, q⟩ := h1
    obtain ⟨u, hu, ru⟩ := rl.get hd
    have ex : Ext X.K μ1 H1 (muSet μ1 l ds.dropLast) (upd H1 l (.lst us.dropLast)) := ext_set hm
    exact ⟨l, us, u, rfl, rfl, hl, by rw [← rl.length]; exact hu, k (.v d) u _ _ (e1.trans ex) ⟨S1.mu.set hm rl.dropLast, S1.rho.ext S1.mu ex⟩ (ru.ext S1.mu ex) q⟩
  | v d => exact h1.elim
  | s ns => exact h1.elim
def dPopAt (to te : DTE) : DTE := fun ρ μ Q => to ρ μ fun x μ1 => match x with
  | .m l => te ρ μ1 fun y μ2 => (match y, μ2 l with
    | .v (.int i), some xs => (0 ≤ i ∧ i < 1000) ∧ ∃ d, xs[i.toNat]? = some d ∧ Q (.v d) (muSet μ2 l (xs.eraseIdx i.toNat))
    | _, _ => False)
  | _ => False
theorem seqIx {i : Int} {n : Nat} (h0 : 0 ≤ i) (h : i.toNat < n) : seqIndex? i n = some i.toNat := by
  unfold seqIndex?
  simp only [Option.ite_none_right_eq_some, Option.some.injEq] <;> first | (split <;> (try split) <;> simp_all <;> omega) | (constructor <;> omega) | omega
theorem de_popAt (ho : DE X o to) (ha : DE X e te) (hbase : attributeBase o "pop" X.env (eval o X.env) = eval o X.env := by rfl)
    (hfew : ((backTo cpos (starEach [e] X.env)).all (fun x => !x.1) && (backToKw cpos (keywordEach [] X.env)).all (fun x => x.1.isSome)
      && decide ([e].length + ([] : List Keyword).length + (if ([] : List Keyword).isEmpty then 0 else 1) < 30)) = true := by rfl)
    (hline : (apos.endLine == cpos.line) = true := by rfl) (hs : starEach [e] X.env = (false, eval e X.env) :: starEach [] X.env := by rfl) (hplain : (backTo cpos (starEach [] X.env)).any (·.1) = false := by rfl) :
    DE X (.Call (.Attribute o "pop" apos) [e] [] cpos) (dPopAt to te) := by
  obtain ⟨t1, p1, l1⟩ := ho
  obtain ⟨t2, p2, l2⟩ := ha
  refine ⟨_, pe_bm PySem.F.plainAttrs_list PySem.F.slot_list_pop PySem.F.type_list_pop mt_popAt p1 (pa_cons p2 pa_nil hs) hbase hfew hline hs hplain, fun σ H ρ μ Qd Q S h k => ?_⟩
  refine l1 σ H ρ μ _ _ S h fun x ux μ1 H1 e1 S1 rx h1 => ?_
  cases x with
  | m l =>
    obtain ⟨rfl, ds, hm⟩ := id rx
    obtain ⟨us, hl, rl⟩ := S1.mu l ds hm
    refine ⟨.inl ⟨rfl, us, SqL.of hl⟩, ?_⟩
    refine l2 σ H1 ρ μ1 _ _ S1 h1 fun y uy μ2 H2 e2 S2 ry h2 => ?_
    obtain ⟨_, ds2, hm2⟩ := rx.ext S1.mu e2
    obtain ⟨us2, hl2, rl2⟩ := S2.mu l ds2 hm2
    rw [hm2] at h2
    split at h2
    · rename_i i ds3 e3
      cases e3
      obtain ⟨⟨i0, i1⟩, d, hd, q⟩ := h2
      cases ry
      obtain ⟨u, hu, ru⟩ := rl2.get hd
      have hlt : i.toNat < us2.length := by
        rcases Nat.lt_or_ge i.toNat us2.length with z | z
        · exact z
        · rw [List.getElem?_eq_none z] at hu; cases hu
      have ex : Ext X.K μ2 H2 (muSet μ2 l (ds2.eraseIdx i.toNat)) (upd H2 l (.lst (us2.eraseIdx i.toNat))) := ext_set hm2
      exact ⟨l, us2, i, i.toNat, u, rfl, rfl, hl2, by omega, by omega, seqIx i0 hlt, hu, k (.v d) u _ _ (e1.trans (e2.trans ex)) ⟨S2.mu.set hm2 (rl2.eraseIdx _), S2.rho.ext S2.mu ex⟩ (ru.ext S2.mu ex) q⟩
    · exact h2.elim
  | v d => exact h1.elim
  | s ns => exact h1.elim
def dTruM (to : DTE) : DTT := fun ρ μ Q => to ρ μ fun x μ1 => match x with
  | .m l => (match μ1 l with | some xs => Q (!xs.isEmpty) μ1 | none => False)
  | _ => False
theorem dt_truM (ho : DE X o to) (he : ∀ whole, isTrue o X.env whole = (do let v ← whole; standAt o.pos; holding [v] (truthy v)) := by intro _; rfl) : DT X o (dTruM to) := by
  obtain ⟨t1, p1, l1⟩ := ho
  refine ⟨_, pt_truth p1 he, fun σ H ρ μ Qd Q S h k => ?_⟩
  refine l1 σ H ρ μ _ _ S h fun x ux μ1 H1 e1 S1 rx h1 => ?_
  cases x with
  | m l =>
    obtain ⟨rfl, ds, hm⟩ := id rx
    obtain ⟨us, hl, rl⟩ := S1.mu l ds hm
    dsimp only at h1
    rw [hm] at h1
    refine ⟨!us.isEmpty, .inl ⟨us, SqL.of hl, rfl⟩, ?_⟩
    have : us.isEmpty = ds.isEmpty := by cases rl <;> rfl
    rw [this]
    exact k _ μ1 H1 e1 S1 h1
  | v d => exact h1.elim
  | s ns => exact h1.elim
def dAug (i : Nat) (te : DTE) : DTS := fun Dd ρ μ => ∃ a : Int, ρ[i]? = some (some (.v (.int a))) ∧ te ρ μ fun y μ1 => match y with
  | .v (.int b) => Dd.nx (ρ.set i (some (.v (.int (a + b))))) μ1
  | _ => False
theorem ds_aug {i : Nat} {x : Str} {pos' : Pos} (hN : X.N.Nodup) (hi : X.N[i]? = some x) (hx : Loc X.env.scope x) (ha : DE X e te) (hf : X.fn x = true ∨ X.env.scope.names.lookup x = some .local := by first | exact .inl rfl | exact .inr rfl | assumption) :
    DS X (.AugAssign (.Name x pos') .Add e pos) (dAug i te) := by
  obtain ⟨t1, p1, l1⟩ := ha
  refine ⟨_, ps_aug hN hi hx p1 ip_add hf, fun σ H ρ μ Dd De S h k1 k2 k3 k4 => ?_⟩
  obtain ⟨a, ea, h⟩ := h
  obtain ⟨u, hu, ru⟩ := S.rho.2 i _ ea
  cases ru
  refine ⟨_, hu, l1 σ H ρ μ _ _ S h fun y uy μ1 H1 e1 S1 ry h1 => ?_⟩
  split at h1
  · cases ry
    exact ⟨_, _, rfl, rfl, k1 _ _ μ1 H1 e1 ⟨S1.mu, S1.rho.set (d := .v (.int _)) (Rp.int _)⟩ h1⟩
  · exact h1.elim
def rIsNotD : D → D → Mu → DK → Prop := fun x y μ Q => match x, y with
  | .v (.bool i), .v (.bool j) => Q (.v (.bool (!(i == j)))) μ
  | _, _ => False
end
section
variable {X : Cx} {e : Expr} {es : List Expr} {t : DTA} {p pos : Pos}
theorem call_minL (hc : X.calm = true) : CallR X (.builtin "min") (fun xs H Q => ∃ (p : Addr) (ns : List Int), xs = [.ref p] ∧ H p = some (.lst (ns.map V.int)) ∧ 0 < ns.length ∧ ∀ M ∈ ns, (∀ a ∈ ns, M ≤ a) → Q (.int M) H) := by
  intro pins s σ H xs us Q I r h
  obtain ⟨l, ns, rfl, hl, hne, q⟩ := h
  obtain ⟨u, rfl, rx⟩ := vals1 r
  cases rx
  obtain ⟨its, rv, pl, _⟩ := I.list (SqL.of hl)
  have hi := ints_of rv
  obtain ⟨xs, e⟩ := hi.allInts.items
  have hns : ns = xs.toList.map (·.1) := by rw [← hi.numsOf, ← nums_intItems, ← e]
  have hsz : 0 < xs.size := by have h3 := hne; rw [hns, List.length_map, Array.length_toList] at h3; exact h3
  have hL := pl.isList
  rw [e] at hL
  refine min_intList (I.ok.hd hc) hL hsz fun v h' tk hv hk => ?_
  obtain ⟨t, rfl⟩ := intItems_at hv
  obtain ⟨h1, h2⟩ := argBest_lt (numAt xs) (xs.size - 1)
  refine ⟨.int _, H, I.kept hk, ⟨_, rfl⟩, q _ ?_ fun a ha => ?_⟩
  · rw [hns, numAt_eq]; exact getD_mem (by rw [List.length_map, Array.length_toList]; omega)
  · rw [hns] at ha
    obtain ⟨j, hj, rfl⟩ := mem_getD ha
    rw [List.length_map, Array.length_toList] at hj
    rw [← numAt_eq]; exact h2 j (by omega)
theorem call_maxL (hc : X.calm = true) : CallR X (.builtin "max") (fun xs H Q => ∃ (p : Addr) (ns : List Int), xs = [.ref p] ∧ H p = some (.lst (ns.map V.int)) ∧ 0 < ns.length ∧ ∀ M ∈ ns, (∀ a ∈ ns, a ≤ M) → Q (.int M) H) := by
  intro pins s σ H xs us Q I r h
  obtain ⟨l, ns, rfl, hl, hne, q⟩ := h
  obtain ⟨u, rfl, rx⟩ := vals1 r
  cases rx
  obtain ⟨its, rv, pl, _⟩ := I.list (SqL.of hl)
  have hi := ints_of rv
  obtain ⟨xs, e⟩ := hi.allInts.items
  have hns : ns = xs.toList.map (·.1) := by rw [← hi.numsOf, ← nums_intItems, ← e]
  have hsz : 0 < xs.size := by have h3 := hne; rw [hns, List.length_map, Array.length_toList] at h3; exact h3
  have hL := pl.isList
  rw [e] at hL
  refine max_intList (I.ok.hd hc) hL hsz fun v h' tk hv hk => ?_
  obtain ⟨t, rfl⟩ := intItems_at hv
  obtain ⟨h1, h2⟩ := argBest_gt (numAt xs) (xs.size - 1)
  refine ⟨.int _, H, I.kept hk, ⟨_, rfl⟩, q _ ?_ fun a ha => ?_⟩
  · rw [hns, numAt_eq]; exact getD_mem (by rw [List.length_map, Array.length_toList]; omega)
  · rw [hns] at ha
    obtain ⟨j, hj, rfl⟩ := mem_getD ha
    rw [List.length_map, Array.length_toList] at hj
    rw [← numAt_eq]; exact h2 j (by omega)
def rMinD : List D → Mu → DK → Prop := fun xs μ Q => match xs with
  | [.v (.list ys)] => (match asInts ys with | some ns => 0 < ns.length ∧ ∀ M ∈ ns, (∀ a ∈ ns, M ≤ a) → Q (.v (.int M)) μ | none => False)
  | _ => False
def rMaxD : List D → Mu → DK → Prop := fun xs μ Q => match xs with
  | [.v (.list ys)] => (match asInts ys with | some ns => 0 < ns.length ∧ ∀ M ∈ ns, (∀ a ∈ ns, a ≤ M) → Q (.v (.int M)) μ | none => False)
  | _ => False
theorem lc_minL {K : PySem.W.Frag} : LiftC K (fun xs H Q => ∃ (p : Addr) (ns : List Int), xs = [.ref p] ∧ H p = some (.lst (ns.map V.int)) ∧ 0 < ns.length ∧ ∀ M ∈ ns, (∀ a ∈ ns, M ≤ a) → Q (.int M) H) rMinD := by
  intro xs us H μ Qd Q ok rs h k
  unfold rMinD at h
  split at h
  · rename_i ys
    cases q : asInts ys with
    | none => rw [q] at h; exact h.elim
    | some ns =>
      rw [q] at h
      cases rs with
      | cons r1 r2 =>
        cases r2
        cases r1 with
        | list hs hn r => exact ⟨_, ns, rfl, by rw [hs, asInts_rp r q], h.1, fun M hM hle => k (.v _) _ μ H .refl ok (Rp.int _) (h.2 M hM hle)⟩
  · exact h.elim
theorem lc_maxL {K : PySem.W.Frag} : LiftC K (fun xs H Q => ∃ (p : Addr) (ns : List Int), xs = [.ref p] ∧ H p = some (.lst (ns.map V.int)) ∧ 0 < ns.length ∧ ∀ M ∈ ns, (∀ a ∈ ns, a ≤ M) → Q (.int M) H) rMaxD := by
  intro xs us H μ Qd Q ok rs h k
  unfold rMaxD at h
  split at h
  · rename_i ys
    cases q : asInts ys with
    | none => rw [q] at h; exact h.elim
    | some ns =>
      rw [q] at h
      cases rs with
      | cons r1 r2 =>
        cases r2
        cases r1 with
        | list hs hn r => exact ⟨_, ns, rfl, by rw [hs, asInts_rp r q], h.1, fun M hM hle => k (.v _) _ μ H .refl ok (Rp.int _) (h.2 M hM hle)⟩
  · exact h.elim
theorem de_minL (hc : X.calm = true) (hg : Gl X "min") (hm : X.mg "min" = none) (ha : DA X (e :: es) t)
    (he : starEach (e :: es) X.env = (false, eval e X.env) :: starEach es X.env := by rfl) (hpl : (backTo pos (starEach es X.env)).any (·.1) = false := by rfl) : DE X (.Call (.Name "min" p) (e :: es) [] pos) (dCB rMinD t) :=
  de_callB (call_minL hc) lc_minL hg hm PyProof.Rows.Boot.«min» ha (by decide) (by decide) he hpl
theorem de_maxL (hc : X.calm = true) (hg : Gl X "max") (hm : X.mg "max" = none) (ha : DA X (e :: es) t)
    (he : starEach (e :: es) X.env = (false, eval e X.env) :: starEach es X.env := by rfl) (hpl : (backTo pos (starEach es X.env)).any (·.1) = false := by rfl) : DE X (.Call (.Name "max" p) (e :: es) [] pos) (dCB rMaxD t) :=
  de_callB (call_maxL hc) lc_maxL hg hm PyProof.Rows.Boot.«max» ha (by decide) (by decide) he hpl
end
section
variable {X : Cx} {a b : Expr} {ta tb : DTE} {pos : Pos}
def rRepTD : D → D → Mu → DK → Prop := fun x y μ Q => match x, y with
  | .v (.tuple xs), .v (.int k) => (2 ≤ k ∧ k ≤ 1000 ∧ xs ≠ [] ∧ xs.length * k.toNat ≤ 1000) ∧ Q (.v (.tuple (List.replicate k.toNat xs).flatten)) μ
  | _, _ => False
theorem q_repT {xs : List PyData} {k : Int} {μ : Mu} {Q : DK} : rRepTD (.v (.tuple xs)) (.v (.int k)) μ Q = ((2 ≤ k ∧ k ≤ 1000 ∧ xs ≠ [] ∧ xs.length * k.toNat ≤ 1000) ∧ Q (.v (.tuple (List.replicate k.toNat xs).flatten)) μ) := propext Iff.rfl
end
open PySem PySem.Spec PyProof.Rows
def dCompM (cap : List (Option Nat)) (src : DTI) (g : DTG) (c : DTT) (elt : DTE) : DTE := fun ρ μ Q => src ρ μ fun xs μ1 => xs.length ≤ 1000 ∧ ∀ p, μ1 p = none → ∃ Pv : Nat → List PyData → Mu → Prop, Pv 0 [] (muSet μ1 p []) ∧
  (∀ i x acc μ', xs[i]? = some x → μ' p = some acc → Pv i acc μ' → g (.v x) (capF cap ρ) μ' fun ρ2 μ2 => Le (capF cap ρ) ρ2 ∧ c ρ2 μ2 fun b μ3 =>
    if b = true then elt ρ2 μ3 fun d μ4 => μ4 p = some acc ∧ (match d with | .v y => Pv (i + 1) (acc ++ [y]) (muSet μ4 p (acc ++ [y])) | _ => False) else μ3 p = some acc ∧ Pv (i + 1) acc μ3) ∧
  (∀ acc μ', Pv xs.length acc μ' → μ' p = some acc → Q (.m p) μ')
theorem comp_coreM {X : Cx} {pos2 : Pos} {use : Option (Value → Sem Unit)} {QQ : Value → Shared → Prop} {pins : List (Addr × Obj)} {s : Shared} {σ : St} {H : Hp} {ρ : Rho} {μ : Mu} {Qd : DK} {N' : List Str} {scope : Scope} {cl : List (Str × Addr)} {elt iter tg : Expr} {ifs : List Expr} {pos : Pos} {cap : List (Option Nat)} {src : DTI} {g : DTG} {c : DTT} {te : DTE} (hc : X.calm = true)
    (hi : DI X tg iter src) (hg : ∀ fp s₃ H₃, DG (cxComp X N' scope cl fp s₃ H₃) tg g) (hif : ∀ fp s₃ H₃, DIfs (cxComp X N' scope cl fp s₃ H₃) ifs c) (he : ∀ fp s₃ H₃, DE (cxComp X N' scope cl fp s₃ H₃) elt te)
    (hclos : closureFor scope X.env = pure cl) (hcell : ∀ y ∈ scope.names, y.2 ≠ .cell) (hkind : scope.kind = .function) (hnames : ∀ y ∈ scope.names, y.2 = .local → scope.names.lookup y.1 = some .local)
    (hcl : ∀ x a, cl.lookup x = some a → X.env.cells.lookup x = some a) (hhas : ∀ x, (relabel scope X.env).names.lookup x = some .cell ∨ (relabel scope X.env).names.lookup x = some .free → ∃ a, cl.lookup x = some a)
    (hlen : cap.length = N'.length) (hcap : ∀ (i j : Nat) (x : Str), cap[i]? = some (some j) → N'[i]? = some x → X.N[j]? = some x ∧ Vis X.env.scope x ∧ X.env.kindOf x ≠ some .local ∧ ((relabel scope X.env).names.lookup x = some .cell ∨ (relabel scope X.env).names.lookup x = some .free))
    (hs : ∀ x, foldedSetIterable iter X.env x = pure x )
    (I : Inv X pins σ H s) (S : St0 X.K H ρ μ σ) (h : dCompM cap src g c te ρ μ Qd)
    (hend : ∀ (s4 : Shared) (Hc : Hp) (C pa : Addr) (m : Str → Option Value) (acc : List PyData) (μF : Mu), s4.heap.Ns C m → FpOk X pins Hc C → (∀ h', Heap.SameBut C s4.heap h' → Inv X pins σ Hc { s4 with heap := h' }) →
      Ext X.K μ H μF Hc → St0 X.K Hc ρ μF σ → RpD X.K μF Hc (.m pa) (.ref pa) → Qd (.m pa) μF → compPost (model X.prog X.w) X.A X.xe use QQ (.ref pa) C (.ok .next) s4) :
    wpAny (model X.prog X.w) X.A (comprehension (.ListComp elt [⟨tg, iter, ifs, 0⟩] scope pos) scope X.env pos2 (newList []) false (eval iter X.env) use) QQ X.xe s := by
  obtain ⟨wi, pw, li⟩ := hi
  refine wpAny_comprehension_free rfl hs hclos hkind hnames (thn (pw pins s σ H _ I (li σ H ρ μ _ (fun J H1 => ∃ xs μ1, Ext X.K μ H μ1 H1 ∧ St0 X.K H1 ρ μ1 σ ∧ ItOk X.K J xs μ1 H1 ∧ xs.length ≤ 1000 ∧ ∀ p, μ1 p = none → ∃ Pv : Nat → List PyData → Mu → Prop, Pv 0 [] (muSet μ1 p []) ∧
      (∀ i x acc μ', xs[i]? = some x → μ' p = some acc → Pv i acc μ' → g (.v x) (capF cap ρ) μ' fun ρ2 μ2 => Le (capF cap ρ) ρ2 ∧ c ρ2 μ2 fun b μ3 =>
        if b = true then te ρ2 μ3 fun d μ4 => μ4 p = some acc ∧ (match d with | .v y => Pv (i + 1) (acc ++ [y]) (muSet μ4 p (acc ++ [y])) | _ => False) else μ3 p = some acc ∧ Pv (i + 1) acc μ3) ∧
      (∀ acc μ', Pv xs.length acc μ' → μ' p = some acc → Qd (.m p) μ')) S h (fun xs μ1 H1 J e1 S1 it q => ⟨xs, μ1, e1, S1, it, q⟩)))
    fun v s1 h1 => thn h1 fun itv s2 h2 => ?_)
  obtain ⟨it, fp, tn, J, H2, rfl, I2, T, st2, f2, xs, μ1, e1, S1, itok, hxs, allp⟩ := h2
  refine wpAny_newObj_type (wpAny_newFunctionEnv hcell (by intro y hy; simp at hy) (fun h₁ hns₁ hsb₁ => ?_) hkind)
  dsimp only at hns₁ hsb₁ ⊢
  have hfree2 : H2 s2.heap.objs.size = none := I2.hok.fresh (Nat.le_refl _)
  have hK2 : X.K.lookup s2.heap.objs.size = none := by
    cases z : X.K.lookup s2.heap.objs.size with
    | none => rfl
    | some o => exact absurd (Heap.lt_size (I2.kIn _ _ z)) (Nat.lt_irrefl _)
  have I3 : Inv X pins σ (upd H2 s2.heap.objs.size (.lst [])) { s2 with heap := s2.heap.push { cls := .type "list", dict := none, data := .seq ([] : List Value).toArray } } :=
    I2.laid (t' := s2.toks) (fun b u e => Heap.get?_push_of_some _ e) (Nat.le_refl _) ⟨Nat.zero_le _, [], 0, .nil, Heap.get?_push_size _ rfl⟩
  generalize hH : s2.heap.push { cls := .type "list", dict := none, data := .seq ([] : List Value).toArray } = hp3 at hns₁ hsb₁ I3 ⊢
  have hsz3 : hp3.objs.size = s2.heap.objs.size + 1 := by rw [← hH, Heap.size_push]
  have kept3 : ∀ b o, hp3.get? b = some o → h₁.get? b = some o := fun b o e => hsb₁.extBut b o (Nat.ne_of_lt (Heap.lt_size e)) (Heap.get?_push_of_some _ e)
  have old3 : ∀ b o, s2.heap.get? b = some o → hp3.get? b = some o := fun b o e => by rw [← hH]; exact Heap.get?_push_of_some _ e
  have fplt : ∀ b ∈ fp, b < s2.heap.objs.size := fun b hb => by obtain ⟨o, e, _⟩ := T.obj 0 _ st2 b hb; exact Heap.lt_size e
  have fpst : ∀ b ∈ fp, b ∉ frs X.stack := fun b hb hz => by
    rcases List.mem_cons.mp (I2.stkSub b hz) with e | e
    · exact (f2 b hb).2.1 e
    · exact (f2 b hb).2.2.1 e
  obtain ⟨s3, hs3⟩ : ∃ s3 : Shared, s3 = { s2 with heap := hp3 } := ⟨_, rfl⟩
  obtain ⟨H3, hH3⟩ : ∃ H3 : Hp, H3 = upd H2 s2.heap.objs.size (.lst []) := ⟨_, rfl⟩
  have heap3 : s3.heap = hp3 := by rw [hs3]
  rw [← hH3] at I3
  have I3' : Inv X pins σ H3 s3 := by rw [hs3]; exact I3
  have hloc : H3 hp3.objs.size = none := by have := I3'.hok.fresh (a := hp3.objs.size) (by rw [heap3]; exact Nat.le_refl _); exact this
  have okc : (cxComp X N' scope cl fp s3 H3).Ok := by
    refine ⟨I3.ok.mod, ?_, I3.ok.glob, I3.ok.blt, Nat.le_refl _, fun x y a h1 h2 => I3.ok.inj x y a (hcl x a h1) (hcl y a h2), fun x hx => hhas x hx, fun x a h => (nomatch h), I3.ok.hd, I3.ok.frames, .inl rfl, fun b hb => ⟨?_, fun x a h => (f2 b hb).2.2.2.2.1 x a (hcl x a h)⟩,
      I3'.bs, Nat.le_trans I3.ok.bsz I3'.sz, fun b o e hb => ?_, fun b hb => fpst b hb, I3'.stack, I3'.stkFree⟩
    · exact hkind
    · show b ≠ s3.heap.objs.size
      rw [heap3, hsz3]
      exact Nat.ne_of_lt (Nat.lt_succ_of_lt (fplt b hb))
    · rcases (f2 b hb).2.2.2.1 with z | z
      · exact I3.ok.noex b o e z
      · exact absurd (Nat.lt_of_lt_of_le (Heap.lt_size (I3.ok.bs b o e).1) z) (Nat.lt_irrefl _)
  have I4 : Inv (cxComp X N' scope cl fp s3 H3) [] (capF cap σ) H3 { s2 with heap := h₁, toks := s2.toks + ([] : List (Str × Value)).length } := by
    refine ⟨okc, by show s2.os = s3.os; rw [hs3], I3.bare, Un.kept (by show ∀ b o, s3.heap.get? b = some o → _; rw [heap3]; exact kept3), ⟨_, (by show h₁.Ns s3.heap.objs.size _; rw [heap3]; exact hns₁), fun i x v e1 e2 e3 => ?_⟩, fun x a h => ?_, (by show H3 s3.heap.objs.size = none; rw [heap3]; exact hloc), fun x a h => I3.freeC x a (hcl x a h), fun p hp => ?_, I3.hok.kept kept3, ?_⟩
    · obtain ⟨j, h1, h2⟩ := capF_get e2
      obtain ⟨hN, hv, hnl, hk⟩ := hcap i j x h1 e1
      obtain ⟨m, _, hl⟩ := I3.loc
      obtain ⟨u, r, lk⟩ := hl j x v hN h2 hv
      refine ⟨u, r, .inr ⟨hk, ?_⟩⟩
      obtain ⟨a, ha⟩ := hhas x hk
      rcases lk with ⟨z, _⟩ | ⟨_, a', z1, z2⟩
      · exact absurd z hnl
      · have : a' = a := by have q := hcl x a ha; rw [z1] at q; exact Option.some.inj q
        subst this
        obtain ⟨o, ho, hd⟩ := z2
        exact ⟨a', ha, o, kept3 _ _ ho, hd⟩
    · obtain ⟨v, o, ho, hd⟩ := I3.cell x a (hcl x a h)
      exact ⟨v, o, kept3 _ _ ho, hd⟩
    · exact absurd (show p ∈ ([] : List (Addr × Obj)) from hp) (by simp)
    · show (capF cap σ).length = N'.length
      unfold capF
      rw [List.length_map]
      exact hlen
  have hμ1 : μ1 s2.heap.objs.size = none := S1.mu.free hfree2
  obtain ⟨Pv, pv0, body, fin⟩ := allp s2.heap.objs.size hμ1
  have loop : codeAny (model X.prog X.w) X.A (.compLoop (.ListComp elt [⟨tg, iter, ifs, 0⟩] scope pos) 0 (.ref it) (.ref s2.heap.objs.size) (cxComp X N' scope cl fp s3 H3).env)
      (compPost (model X.prog X.w) X.A X.xe use QQ (.ref s2.heap.objs.size) hp3.objs.size) { s2 with heap := h₁, toks := s2.toks + ([] : List (Str × Value)).length } := by
    refine codeAny_compLoopG (fun n s' => ∃ (i : Nat) (σc : St) (Hc : Hp) (acc : List PyData) (μc : Mu), n = xs.length - i ∧ i ≤ xs.length ∧ Inv (cxComp X N' scope cl fp s3 H3) [] σc Hc s' ∧ tn i s'.heap ∧ (∀ b ∈ fp, Hc b = none) ∧
      acc.length ≤ i ∧ μc s2.heap.objs.size = some acc ∧ Pv i acc μc ∧ St0 X.K Hc (capF cap ρ) μc σc ∧ Ext X.K μ1 H2 μc Hc) ?_ xs.length
      ⟨0, capF cap σ, H3, [], muSet μ1 s2.heap.objs.size [], by simp, Nat.zero_le _, I4, T.keep 0 _ _ st2 (fun b hb o e => kept3 b o (old3 b o e)), fun b hb => ?_, Nat.le_refl _, muSet_same, pv0, ?_, ?_⟩
    · rintro n s' ⟨i, σc, Hc, acc, μc, rfl, hi, Ic, tc, frc, hal, hpa, pvi, Sc, Ec⟩
      have stat : ∀ {Hd : Hp}, (∀ b ∈ fp, Hd b = none) → ∀ b ∈ fp, FpOk (cxComp X N' scope cl fp s3 H3) [] Hd b := fun hn b hb =>
        ⟨hn b hb, (okc.exf b hb).1, fpst b hb, .inl hb, fun x a h => (okc.exf b hb).2 x a h, fun p hp => absurd (show p ∈ ([] : List (Addr × Obj)) from hp) (by simp)⟩
      obtain ⟨go, stop⟩ := itok _ Hc Ec Sc.mu i
      by_cases hlt : i < xs.length
      · obtain ⟨g1, y1⟩ := go hlt
        refine thn (T.item (cxComp X N' scope cl fp s3 H3) rfl rfl rfl hc i [] s' σc Hc (fun _ _ => False) Ic (stat frc) tc g1) fun r s4 ⟨u, hr, h4⟩ => ?_
        subst hr
        refine thn h4 fun _ s5 ⟨x, H5, I5, r5, y5, st5, fr5⟩ => ?_
        obtain ⟨d, hd, sm, rd⟩ := y1 x H5 y5
        have I5' := I5.pinned (stat fr5) (T.obj _ _ st5)
        have e5 : Ext X.K _ Hc _ H5 := .of_same (μ := μc) sm
        have S5 : St0 X.K H5 (capF cap ρ) μc σc := ⟨Sc.mu.ext0 e5 sm, Sc.rho.ext Sc.mu e5⟩
        obtain ⟨gt, pg, lg⟩ := hg fp s3 H3
        refine thn (pg _ s5 σc H5 x u (fun σ' H' => ∃ ρ' μ', Ext X.K μc H5 μ' H' ∧ St0 X.K H' ρ' μ' σ' ∧ Le (capF cap ρ) ρ' ∧ c ρ' μ' fun b μ3 =>
            if b = true then te ρ' μ3 fun d' μ4 => μ4 s2.heap.objs.size = some acc ∧ (match d' with | .v y => Pv (i + 1) (acc ++ [y]) (muSet μ4 s2.heap.objs.size (acc ++ [y])) | _ => False) else μ3 s2.heap.objs.size = some acc ∧ Pv (i + 1) acc μ3) I5' r5
          (lg σc H5 (capF cap ρ) _ (.v d) x _ _ S5 rd (body i d acc μc hd hpa pvi) fun σ' ρ' μ' H' e' S' q => ⟨ρ', μ', e', S', q⟩)) fun _ s6 ⟨σ6, H6, I6, ρ6, μ6, e6, S6, le6, q6⟩ => ?_
        refine thn (hif fp s3 H3 _ s6 σ6 H6 ρ6 μ6 _ (fun b H' => ∃ μ', Ext X.K μ6 H6 μ' H' ∧ St0 X.K H' ρ6 μ' σ6 ∧ if b = true then te ρ6 μ' fun d' μ4 => μ4 s2.heap.objs.size = some acc ∧ (match d' with | .v y => Pv (i + 1) (acc ++ [y]) (muSet μ4 s2.heap.objs.size (acc ++ [y])) | _ => False) else μ' s2.heap.objs.size = some acc ∧ Pv (i + 1) acc μ')
          I6 S6 q6 fun b μ' H' e' S' q => ⟨μ', e', S', q⟩) fun b s7 ⟨H7, I7, μ7, e7, S7, q7⟩ => ?_
        have again : ∀ {H9 : Hp} {s9 : Shared} {acc' : List PyData} {μ9 : Mu}, Inv (cxComp X N' scope cl fp s3 H3) ([] ++ pinsAt fp s5.heap) σ6 H9 s9 → acc'.length ≤ i + 1 → μ9 s2.heap.objs.size = some acc' → Pv (i + 1) acc' μ9 → MuOk X.K μ9 H9 → RhoOk X.K μ9 H9 (capF cap ρ) σ6 →
            Ext X.K μ1 H2 μ9 H9 → ∃ m, m < xs.length - i ∧ ∃ (i : Nat) (σc : St) (Hc : Hp) (acc : List PyData) (μc : Mu), m = xs.length - i ∧ i ≤ xs.length ∧ Inv (cxComp X N' scope cl fp s3 H3) [] σc Hc s9 ∧ tn i s9.heap ∧ (∀ b ∈ fp, Hc b = none) ∧
              acc.length ≤ i ∧ μc s2.heap.objs.size = some acc ∧ Pv i acc μc ∧ St0 X.K Hc (capF cap ρ) μc σc ∧ Ext X.K μ1 H2 μc Hc := fun {H9 s9 acc' μ9} I9 l9 p9 v9 m9 r9 e9 => by
          refine ⟨xs.length - (i + 1), by omega, i + 1, σ6, H9, acc', μ9, rfl, hlt, I9.unpinned, T.keep _ _ _ st5 fun b hb o e => (I9.pin (b, o) (List.mem_append_right _ (List.mem_append_right _ (mem_pinsAt hb e)))).1, fun b hb => ?_, l9, p9, v9, ⟨m9, r9⟩, e9⟩
          obtain ⟨o, e, _⟩ := T.obj _ _ st5 b hb
          exact (I9.pin (b, o) (List.mem_append_right _ (List.mem_append_right _ (mem_pinsAt hb e)))).2.1
        cases b with
        | false =>
          have q8 : μ7 s2.heap.objs.size = some acc ∧ Pv (i + 1) acc μ7 := by simpa using q7
          refine iteF ?_
          exact again I7 (by omega) q8.1 q8.2 S7.mu (S7.rho.le le6) (Ec.trans (e5.trans (e6.trans e7)))
        | true =>
          refine iteT ?_
          obtain ⟨t8, p8, l8⟩ := he fp s3 H3
          refine thn (p8 _ s7 σ6 H7 (fun v H' => ∃ y μ8, Ext X.K μ7 H7 μ8 H' ∧ St0 X.K H' ρ6 μ8 σ6 ∧ Rp X.K μ8 H' y v ∧ μ8 s2.heap.objs.size = some acc ∧ Pv (i + 1) (acc ++ [y]) (muSet μ8 s2.heap.objs.size (acc ++ [y]))) I7
            (l8 σ6 H7 ρ6 μ7 _ _ S7 (by simpa using q7) fun d' v μ8 H8 e8 S8 r8 q8 => ?_)) fun v s8 ⟨v8, H8, I8, r8, y, μ8, e8, S8, ry, pa8, fy⟩ => ?_
          · obtain ⟨q80, q8⟩ := q8
            cases d' with
            | v y => exact ⟨y, μ8, e8, S8, r8, q80, q8⟩
            | m _ => exact q8.elim
            | s _ => exact q8.elim
          · obtain ⟨us, hacc, rus⟩ := S8.mu s2.heap.objs.size _ pa8
            have hle : acc.length ≤ 1000 := by omega
            refine thn (mt_append (X := cxComp X N' scope cl fp s3 H3) _ s8 σ6 H8 (.ref s2.heap.objs.size) [v8] (.ref s2.heap.objs.size) [v] (fun _ H' => H' = upd H8 s2.heap.objs.size (.lst (us ++ [v8]))) I8 rfl (.cons r8 .nil) ⟨_, us, v8, rfl, rfl, hacc, by rw [← rus.length]; exact small1000 hle, rfl⟩) fun _ s9 ⟨_, H9, I9, _, e9⟩ => ?_
            subst e9
            have ex : Ext X.K μ8 H8 (muSet μ8 s2.heap.objs.size (acc ++ [y])) (upd H8 s2.heap.objs.size (.lst (us ++ [v8]))) := ext_set pa8
            exact again I9 (by rw [List.length_append, List.length_singleton]; omega) muSet_same fy (S8.mu.set pa8 (rus.append (.cons ry .nil))) ((S8.rho.le le6).ext S8.mu ex) (Ec.trans (e5.trans (e6.trans (e7.trans (e8.trans ex)))))
      · have ei : i = xs.length := by omega
        subst ei
        refine thn (T.done (cxComp X N' scope cl fp s3 H3) rfl rfl rfl hc _ [] s' σc Hc (fun _ _ => False) Ic (stat frc) tc (stop rfl)) fun r s4 ⟨hr, I5⟩ => ?_
        subst hr
        obtain ⟨m, hn, _⟩ := I5.loc
        have hcC : Hc hp3.objs.size = none := by have z : Hc s3.heap.objs.size = none := I5.free; rw [heap3] at z; exact z
        obtain ⟨us, hacc, rus⟩ := Sc.mu s2.heap.objs.size _ hpa
        refine hend s4 Hc hp3.objs.size s2.heap.objs.size m acc μc (by have z : s4.heap.Ns s3.heap.objs.size m := hn; rw [heap3] at z; exact z) (I2.fpOk (by rw [hsz3]; exact Nat.le_succ _) hcC) (fun h' hs' => ?_) (e1.trans Ec) ⟨Sc.mu, S1.rho.ext S1.mu Ec⟩ ⟨rfl, acc, hpa⟩ (fin acc μc pvi hpa)
        have kp : ∀ b o, b < s2.heap.objs.size → s4.heap.get? b = some o → h'.get? b = some o := fun b o hb e => hs'.extBut b o (by rw [hsz3]; exact Nat.ne_of_lt (Nat.lt_succ_of_lt hb)) e
        have hok' : HOk X.prog X.w Hc h' := fun b ob e => by
          refine (I5.hok b ob e).stay (fun cc v hcc q => hs'.extBut cc v ?_ q) (fun _ q => q) fun _ _ q => q
          rintro rfl
          rcases hcc with z | z
          · rw [← z, hcC] at e; cases e
          · rw [hcC] at z; cases z
        have u1 : Un (frs X.stack) fp H2 H3 s2.heap s3.heap := by rw [heap3, hH3]; exact Un.laid old3 (Nat.le_refl _) hfree2
        have u2 : Un (frs X.stack) fp H3 Hc s3.heap s4.heap := I5.base
        exact I2.call' (ch := fp) (by show s4.os = s2.os; have z : s4.os = s3.os := I5.os; rw [z, hs3]) (Un.after (u1.trans u2) kp) hok' I5.bare fun b hb => ⟨(f2 b hb).2.2.2.1, (f2 b hb).2.1, (f2 b hb).2.2.2.2.1, (f2 b hb).2.2.2.2.2⟩
    · have z : b ≠ s2.heap.objs.size := Nat.ne_of_lt (fplt b hb)
      rw [hH3, upd_ne z]
      exact (f2 b hb).1
    · have ex := ext_mut (o := .lst []) (ds := []) S1.mu hfree2 hK2
      rw [hH3]
      exact ⟨S1.mu.mut .nil hfree2 hK2, (S1.rho.ext S1.mu ex).cap⟩
    · rw [hH3]
      exact ext_mut (o := .lst []) (ds := []) S1.mu hfree2 hK2
  have envE : (cxComp X N' scope cl fp s3 H3).env = compEnvC scope cl hp3.objs.size X.env := by show compEnvC scope cl s3.heap.objs.size X.env = _; rw [heap3]
  rw [envE] at loop
  exact codeAny_compStart_list loop (T.self X.A 0 _ _ _ (T.keep 0 _ _ st2 (fun b hb o e => kept3 b o (old3 b o e))) loop)
theorem de_compM {X : Cx} {N' : List Str} {scope : Scope} {cl : List (Str × Addr)} {elt iter tg : Expr} {ifs : List Expr} {pos : Pos} {cap : List (Option Nat)} {src : DTI} {g : DTG} {c : DTT} {te : DTE} (hc : X.calm = true)
    (hi : DI X tg iter src) (hg : ∀ fp s₃ H₃, DG (cxComp X N' scope cl fp s₃ H₃) tg g) (hif : ∀ fp s₃ H₃, DIfs (cxComp X N' scope cl fp s₃ H₃) ifs c) (he : ∀ fp s₃ H₃, DE (cxComp X N' scope cl fp s₃ H₃) elt te)
    (hclos : closureFor scope X.env = pure cl) (hcell : ∀ y ∈ scope.names, y.2 ≠ .cell) (hkind : scope.kind = .function) (hnames : ∀ y ∈ scope.names, y.2 = .local → scope.names.lookup y.1 = some .local)
    (hcl : ∀ x a, cl.lookup x = some a → X.env.cells.lookup x = some a) (hhas : ∀ x, (relabel scope X.env).names.lookup x = some .cell ∨ (relabel scope X.env).names.lookup x = some .free → ∃ a, cl.lookup x = some a)
    (hlen : cap.length = N'.length) (hcap : ∀ (i j : Nat) (x : Str), cap[i]? = some (some j) → N'[i]? = some x → X.N[j]? = some x ∧ Vis X.env.scope x ∧ X.env.kindOf x ≠ some .local ∧ ((relabel scope X.env).names.lookup x = some .cell ∨ (relabel scope X.env).names.lookup x = some .free))
    (hs : ∀ x, foldedSetIterable iter X.env x = pure x := by intro _; rfl) : DE X (.ListComp elt [⟨tg, iter, ifs, 0⟩] scope pos) (dCompM cap src g c te) := by
  refine de_of fun pins s σ H ρ μ Qd Q I S h k => ?_
  rw [eval_ListComp]
  refine comp_coreM hc hi hg hif he hclos hcell hkind hnames hcl hhas hlen hcap hs I S h fun s4 Hc C pa m acc μF hn _ hI e1 S1 r q => ?_
  exact ⟨m, hn, fun h' hs' => ⟨.ref pa, Hc, hI h' hs', rfl, k (.m pa) _ μF Hc e1 S1 r q⟩⟩
theorem q_compM {cap : List (Option Nat)} {src : DTI} {g : DTG} {t : DTT} {ta : DTE} {ρ : Rho} {μ : Mu} {Q : DK} : dCompM cap src g t ta ρ μ Q = src ρ μ fun xs μ1 => xs.length ≤ 1000 ∧ ∀ p, μ1 p = none → ∃ Pv : Nat → List PyData → Mu → Prop, Pv 0 [] (muSet μ1 p []) ∧
  (∀ i x acc μ', xs[i]? = some x → μ' p = some acc → Pv i acc μ' → g (.v x) (capF cap ρ) μ' fun ρ2 μ2 => Le (capF cap ρ) ρ2 ∧ t ρ2 μ2 fun b μ3 =>
    if b = true then ta ρ2 μ3 fun d μ4 => μ4 p = some acc ∧ (match d with | .v y => Pv (i + 1) (acc ++ [y]) (muSet μ4 p (acc ++ [y])) | _ => False) else μ3 p = some acc ∧ Pv (i + 1) acc μ3) ∧
  (∀ acc μ', Pv xs.length acc μ' → μ' p = some acc → Q (.m p) μ') := propext Iff.rfl
def ClIn (cells : List (Str × Addr)) : List (Str × Addr) → Prop
  | [] => True
  | (k, v) :: r => cells.lookup k = some v ∧ ClIn cells r
theorem cl_n {cells : List (Str × Addr)} : ClIn cells [] := trivial
theorem cl_c {cells r : List (Str × Addr)} {k : Str} {v : Addr} (h : cells.lookup k = some v) (t : ClIn cells r) : ClIn cells ((k, v) :: r) := ⟨h, t⟩
theorem cl_of {cells : List (Str × Addr)} : ∀ {cl : List (Str × Addr)}, ClIn cells cl → ∀ x a, cl.lookup x = some a → cells.lookup x = some a
  | [], _, _, _, h => by simp at h
  | (k, v) :: r, c, x, a, h => by
    rw [List.lookup_cons] at h
    cases e : x == k with
    | true =>
      have e' : x = k := by simpa using e
      rw [e] at h
      subst e'
      rw [c.1]; exact h
    | false =>
      rw [e] at h
      exact cl_of c.2 x a h
open PySem PySem.Spec PyProof.Rows NM
theorem mulOk {n m : Nat} {i j : Int} (h : Sz n i) (g : Sz m j) (l : n + m ≤ 100000) : IntMulOk i j := by
  have b1 : ∀ {k : Nat} {z : Int}, Sz k z → Builtin.Int.intBits z ≤ k := fun {k z} hz => by
    unfold Builtin.Int.intBits
    split
    · exact Nat.zero_le _
    · rename_i q
      have hz' : z.natAbs ≠ 0 := by simp at q; omega
      have := (Nat.log2_lt hz').mpr hz.lt
      omega
  have e1 := b1 h
  have e2 := b1 g
  unfold IntMulOk
  intro z
  simp only [Bool.and_eq_true] at z
  have z3 := z.2
  unfold Builtin.Int.intTooBig at z3
  simp only [decide_eq_true_eq] at z3
  have : (100000 : Int) ≤ bitsLine := by decide
  omega
theorem divOk {n : Nat} {i j : Int} (h0 : j ≠ 0) (h : Sz n j) (l : n ≤ 8900) : DivOk i j := by
  refine ⟨h0, PyProof.noPylong_of_log2 ?_⟩
  have hz' : j.natAbs ≠ 0 := by omega
  have := (Nat.log2_lt hz').mpr h.lt
  omega
theorem divC {i j : Int} (h0 : j ≠ 0) (h1 : j.natAbs < 1073741824) : DivOk i j := ⟨h0, PyProof.noPylong_small h1⟩
theorem mulL {i j : Int} (h : i.natAbs < 2 ^ 64) : IntMulOk i j := CMul.ok (.inl (by omega))
theorem mulR {i j : Int} (h : j.natAbs < 2 ^ 64) : IntMulOk i j := CMul.ok (.inr (by omega))
def dN (x : N3) : PyData := .tuple [.int x.a, .int x.b, .int x.c]
def isWhole (d : PyData) : Bool := isT "int" d && !isT "bool" d
def isNum : PyData → Bool
  | .tuple [.int a, .int b, .int c] => decide (1 ≤ c) && (g3 a b c == 1)
  | _ => false
def spWhole : DSp := fun ds μ Q => ∃ d, ds = [.v d] ∧ Q (.v (.bool (isWhole d))) μ
def spGcd : DSp := fun ds μ Q => ∃ a b : Int, ds = [.v (.int a), .v (.int b)] ∧ Q (.v (.int (Int.gcd a b : Nat))) μ
def spDiv3 : DSp := fun ds μ Q => ∃ a b c : Int, ds = [.v (.int a), .v (.int b), .v (.int c)] ∧ Q (.v (.int (g3 a b c : Nat))) μ
def Few : PyData → Prop
  | .tuple xs => xs.length ≤ 1000
  | _ => True
def spNumQ : DSp := fun ds μ Q => ∃ d, ds = [.v d] ∧ Few d ∧ Q (.v (.bool (isNum d))) μ
def spNumber : DSp := fun ds μ Q => ∃ a b c : Int, ds = [.v (.int a), .v (.int b), .v (.int c)] ∧ c ≠ 0 ∧ Sz 8800 c ∧ Q (.v (dN (low a b c))) μ
def spMate : DSp := fun ds μ Q => ∃ x : N3, ds = [.v (dN x)] ∧ Q (.v (dN (mate x))) μ
def spMinus : DSp := fun ds μ Q => ∃ x : N3, ds = [.v (dN x)] ∧ Q (.v (dN (minus x))) μ
def sp2 (f : N3 → N3 → N3) : DSp := fun ds μ Q => ∃ x y : N3, ds = [.v (dN x), .v (dN y)] ∧ Ok x ∧ Ok y ∧ Bd 4300 x ∧ Bd 4300 y ∧ Q (.v (dN (f x y))) μ
abbrev spPlus : DSp := sp2 plus
def spTimes : DSp := fun ds μ Q => ∃ (d : Int) (x y : N3), ds = [.v (.int d), .v (dN x), .v (dN y)] ∧ Sz 5 d ∧ Ok x ∧ Ok y ∧ Bd 4300 x ∧ Bd 4300 y ∧ Q (.v (dN (times d x y))) μ
def spContrary : DSp := fun ds μ Q => ∃ (d : Int) (x : N3), ds = [.v (.int d), .v (dN x)] ∧ Sz 5 d ∧ norm d x ≠ 0 ∧ Bd 4300 x ∧ Q (.v (dN (contrary d x))) μ
def spSignP : DSp := fun ds μ Q => ∃ d a b : Int, ds = [.v (.int d), .v (.int a), .v (.int b)] ∧ Sz 5 d ∧ Sz 9900 a ∧ Sz 9900 b ∧ Q (.v (.int (sg d a b))) μ
def spSign : DSp := fun ds μ Q => ∃ (d : Int) (x : N3), ds = [.v (.int d), .v (dN x)] ∧ IsRoot d ∧ Bd 8900 x ∧ Q (.v (.int (sg d x.a x.b))) μ
def Bag (μ : Mu) (a : Addr) : Prop := ∃ g m : Int, μ a = some [.int g, .int m] ∧ 0 ≤ g ∧ 0 ≤ m ∧ m < 2147483648
def Step (a : Addr) (μ μ' : Mu) : Prop := Bag μ' a ∧ ∀ b, b ≠ a → μ' b = μ b
def spBag : DSp := fun ds μ Q => ∃ (ns : List Int) (k : Int), ds = [.s ns, .v (.int k)] ∧ 0 ≤ k ∧ k ≤ 1000 ∧ ∀ p μ', μ p = none → Step p μ μ' → Q (.m p) μ'
def spTake : DSp := fun ds μ Q => ∃ (a : Addr) (n : Int), ds = [.m a, .v (.int n)] ∧ 1 ≤ n ∧ n ≤ 1000000000 ∧ Bag μ a ∧ ∀ r μ', 0 ≤ r → r < n → Step a μ μ' → Q (.v (.int r)) μ'
def spNumberL : DSp := fun ds μ Q => ∃ a : Addr, ds = [.m a] ∧ Bag μ a ∧ ∀ x μ', Ok x → Bd 20 x → Step a μ μ' → Q (.v (dN x)) μ'
def spRootL : DSp := fun ds μ Q => ∃ a : Addr, ds = [.m a] ∧ Bag μ a ∧ ∀ d μ', IsRoot d → Step a μ μ' → Q (.v (.int d)) μ'
theorem Step.trans {a : Addr} {μ μ1 μ2 : Mu} (h : Step a μ μ1) (g : Step a μ1 μ2) : Step a μ μ2 := ⟨g.1, fun b n => (g.2 b n).trans (h.2 b n)⟩
theorem Step.set {a : Addr} {μ : Mu} {g m : Int} (h1 : 0 ≤ g) (h2 : 0 ≤ m) (h3 : m < 2147483648) : Step a μ (muSet μ a [.int g, .int m]) := ⟨⟨g, m, muSet_same, h1, h2, h3⟩, fun b n => muSet_ne n⟩
local macro_rules | `(tactic| walk_at "rd") => `(tactic| simp only [↓q_var0, ↓q_var1, ↓q_var2, ↓q_var3, ↓q_var4, ↓q_var5, ↓q_var6, ↓q_var7, ↓q_var8, ↓q_var9, ↓q_var10, ↓q_c, ↓q_op, ↓q_B, ↓q_II, ↓q_I00, ↓q_neg, ↓q_andT, ↓q_orT, ↓q_notT, ↓q_andV, ↓q_orV, ↓q_notV, ↓q_if, ↓q_nil, ↓q_cons, ↓q_tup, ↓q_lst, ↓q_lstM, ↓q_asN, ↓q_asC, ↓q_eqI, ↓q_eqT, ↓q_eqL, ↓q_eqB, ↓q_inD, ↓q_ixL0, ↓q_ixL1, ↓q_ixL2, ↓q_ixT0, ↓q_ixT1, ↓q_ixT2, ↓q_ixT3, ↓q_ixL, ↓q_ixT, ↓q_ixM, ↓q_ixS, ↓q_cat, ↓q_catT, ↓q_addI, ↓q_addT, ↓q_addL, ↓q_addM, ↓q_sl, ↓q_noPart, ↓q_part, ↓q_slT, ↓q_slL, ↓q_rev, ↓q_cb, ↓q_lenL, ↓q_lenT, ↓q_lenS, ↓q_lenM, ↓q_abs, ↓q_2I, ↓q_intB, ↓q_intI, ↓q_listL, ↓q_listT, ↓q_all, ↓q_isi, ↓q_isB, ↓q_isN, ↓q_gName, ↓q_gNil, ↓q_gCons, ↓q_gTup, ↓q_gSub, ↓q_asg, ↓q_par, ↓q_next, ↓q_seq, ↓q_ret, ↓q_drop, ↓q_ifS, ↓q_never, ↓q_call, ↓q_app, ↓q_ext, ↓q_bits, ↓q_chain, ↓q_true, ↓q_diList, ↓q_diTup, ↓q_diRng1, ↓q_diRng2, ↓q_diZip, ↓q_tupOfL, ↓q_tupOfT, ↓q_tupOfM, ↓q_rep, zipD, ↓q_comp, ↓q_compI, q_capN, q_capC, q_leN, q_le0, q_le1, Option.bind_none, Option.bind_some, Option.join_some, List.getElem?_cons_zero, List.getElem?_cons_succ, startD, dN, lstOf, atI_0, atI_1, atI_2, atI_3, List.map, List.append, List.replicate, List.length_cons, List.length_nil, Nat.reduceAdd, Nat.reduceSub, List.nil_append, List.cons_append, List.set_cons_zero, List.set_cons_succ, Option.map_some, ↓reduceIte, Bool.not_true, Bool.not_false, Bool.false_eq_true, Bool.true_eq_false, Bool.xor_false, Bool.false_xor])
def td_is_whole : DTS :=
  (dRet (dAndV (dIsi "int" (dVar 0)) (dNotV (dIsi "bool" (dVar 0)))))
def td_common_divisor : DTS :=
  (dSeq (dWhile (dB (dOp (rEqD true) (dVar 1) (dC (.int 0)))) (dPar 0 1 (dCons (dVar 1) (dCons (dMod (dVar 0) (dVar 1)) dNil))))
  (dRet (dCB rAbsD (dCons (dVar 0) dNil))))
def td_divisor_of_all : DTS :=
  (dRet (dCall spGcd (dCons (dCall spGcd (dCons (dVar 2) (dCons (dVar 0) dNil))) (dCons (dVar 1) dNil))))
def td__law_shared : DTS :=
  (dSeq (dPar 0 1 (dCons (dCB rAbsD (dCons (dVar 0) dNil)) (dCons (dCB rAbsD (dCons (dVar 1) dNil)) dNil)))
  (dSeq (dWhile (dB (dOp rGt (dVar 1) (dC (.int 0)))) (dPar 0 1 (dCons (dVar 1) (dCons (dMod (dVar 0) (dVar 1)) dNil))))
  (dRet (dVar 0))))
section
theorem fmod_lt (x : Int) {y : Int} (h : y ≠ 0) : (x.fmod y).natAbs < y.natAbs := by
  have e := Int.mul_fdiv_add_fmod x y
  have := Int.fmod_def x y
  rcases Int.lt_or_gt_of_ne h with h | h
  · have k := Int.neg_fmod_neg (a := x) (b := y)
    have h1 := Int.fmod_nonneg_of_pos (-x) (show 0 < -y by omega)
    have h2 := Int.fmod_lt_of_pos (-x) (show 0 < -y by omega)
    omega
  · have h1 := Int.fmod_nonneg_of_pos x h
    have h2 := Int.fmod_lt_of_pos x h
    omega
theorem gcd_fmod (x y : Int) : Int.gcd y (x.fmod y) = Int.gcd x y := by
  have e := Int.mul_fdiv_add_fmod x y
  have e' : x.fmod y = x + y * (-(x.fdiv y)) := by rw [Int.mul_neg]; omega
  rw [e', Int.gcd_add_mul_left_right, Int.gcd_comm]
theorem rd_is_whole {μ Qd ds} (h : spWhole ds μ Qd) : td_is_whole { nx := fun _ μ' => Qd (.v .none) μ', rt := Qd } (startD ["thing"] ds) μ := by
  obtain ⟨d, rfl, q⟩ := h
  unfold td_is_whole
  walk_at "rd"
  unfold isWhole at q
  cases hb : isT "int" d <;> simp_all
theorem rd_common_divisor {μ Qd ds} (h : spGcd ds μ Qd) : td_common_divisor { nx := fun _ μ' => Qd (.v .none) μ', rt := Qd } (startD ["a", "b"] ds) μ := by
  obtain ⟨a, b, rfl, q⟩ := h
  unfold td_common_divisor
  walk_at "rd"
  refine ⟨fun m ρ μ' => ∃ x y : Int, ρ = [some (.v (.int x)), some (.v (.int y))] ∧ m = y.natAbs ∧ Int.gcd x y = Int.gcd a b ∧ μ' = μ, ⟨_, a, b, rfl, rfl, rfl, rfl⟩, ?_⟩
  rintro m ρ μ' ⟨x, y, rfl, rfl, hg, rfl⟩
  walk_at "rd"
  by_cases hy : y = 0
  · subst hy
    have e : Int.gcd x 0 = x.natAbs := Int.gcd_zero_right x
    rw [← hg, e] at q
    simpa using q
  · have z : (true ^^ decide (y = 0)) = true := by simp [hy]
    rw [if_pos z]
    exact ⟨hy, _, fmod_lt x hy, y, x.fmod y, rfl, rfl, (gcd_fmod x y).trans hg, trivial⟩
theorem rd__law_shared {μ Qd ds} (h : spGcd ds μ Qd) : td__law_shared { nx := fun _ μ' => Qd (.v .none) μ', rt := Qd } (startD ["_law_one", "_law_other"] ds) μ := by
  obtain ⟨a, b, rfl, q⟩ := h
  unfold td__law_shared
  walk_at "rd"
  refine ⟨fun m ρ μ' => ∃ x y : Int, ρ = [some (.v (.int x)), some (.v (.int y))] ∧ m = y.natAbs ∧ 0 ≤ x ∧ 0 ≤ y ∧ Int.gcd x y = Int.gcd a b ∧ μ' = μ, ⟨_, _, _, rfl, rfl, by omega, by omega, by simp [Int.gcd], rfl⟩, ?_⟩
  rintro m ρ μ' ⟨x, y, rfl, rfl, hx, hy, hg, rfl⟩
  walk_at "rd"
  by_cases h0 : 0 < y
  · rw [if_pos (by simpa using h0)]
    have hy' : y ≠ 0 := by omega
    exact ⟨hy', _, fmod_lt x hy', y, x.fmod y, rfl, rfl, by omega, Int.fmod_nonneg_of_pos x h0, (gcd_fmod x y).trans hg, trivial⟩
  · rw [if_neg (by simpa using h0)]
    have e : y = 0 := by omega
    subst e
    rw [Int.gcd_zero_right] at hg
    have : x = ((Int.gcd a b : Nat) : Int) := by omega
    rw [this]
    exact q
theorem rd_divisor_of_all {μ Qd ds} (h : spDiv3 ds μ Qd) : td_divisor_of_all { nx := fun _ μ' => Qd (.v .none) μ', rt := Qd } (startD ["a", "b", "c"] ds) μ := by
  obtain ⟨a, b, c, rfl, q⟩ := h
  unfold td_divisor_of_all
  walk_at "rd"
  rw [← g3_prog] at q
  exact ⟨c, a, rfl, _, b, rfl, q⟩
end
open PySem PySem.Spec PyProof.Rows NM
def td_number : DTS :=
  (dSeq (dIfS (dB (dOp (rEqD false) (dVar 2) (dC (.int 0)))) dNever dNext)
  (dSeq (dAsg (dCall spDiv3 (dCons (dVar 0) (dCons (dVar 1) (dCons (dVar 2) dNil)))) (gdName 3))
  (dSeq (dIfS (dB (dOp rLt (dVar 2) (dC (.int 0)))) (dAsg (dNeg (dVar 3)) (gdName 3)) dNext)
  (dRet (dTup (dCons (dDiv (dVar 0) (dVar 3)) (dCons (dDiv (dVar 1) (dVar 3)) (dCons (dDiv (dVar 2) (dVar 3)) dNil))))))))
def td__law_low : DTS :=
  (dSeq (dAsg (dMul (dCall spGcd (dCons (dCall spGcd (dCons (dVar 0) (dCons (dVar 1) dNil))) (dCons (dVar 2) dNil))) (dOp rIxD (dLst (dCons (dC (.int 1)) (dCons (dNeg (dC (.int 1))) dNil))) (dCB rIntD (dCons (dOp rLt (dVar 2) (dC (.int 0))) dNil)))) (gdName 3))
  (dRet (dTup (dCons (dDiv (dVar 0) (dVar 3)) (dCons (dDiv (dVar 1) (dVar 3)) (dCons (dDiv (dVar 2) (dVar 3)) dNil))))))
def td__law_mate : DTS :=
  (dRet (dTup (dCons (dOp rIxD (dVar 0) (dC (.int 0))) (dCons (dSub (dC (.int 0)) (dOp rIxD (dVar 0) (dC (.int 1)))) (dCons (dOp rIxD (dVar 0) (dC (.int 2))) dNil)))))
def td__law_minus : DTS :=
  (dRet (dTup (dCons (dSub (dC (.int 0)) (dOp rIxD (dVar 0) (dC (.int 0)))) (dCons (dSub (dC (.int 0)) (dOp rIxD (dVar 0) (dC (.int 1)))) (dCons (dOp rIxD (dVar 0) (dC (.int 2))) dNil)))))
def td_plus : DTS :=
  (dRet (dCall spNumber (dCons (dAdd (dMul (dOp rIxD (dVar 0) (dC (.int 0))) (dOp rIxD (dVar 1) (dC (.int 2)))) (dMul (dOp rIxD (dVar 1) (dC (.int 0))) (dOp rIxD (dVar 0) (dC (.int 2))))) (dCons (dAdd (dMul (dOp rIxD (dVar 0) (dC (.int 1))) (dOp rIxD (dVar 1) (dC (.int 2)))) (dMul (dOp rIxD (dVar 1) (dC (.int 1))) (dOp rIxD (dVar 0) (dC (.int 2))))) (dCons (dMul (dOp rIxD (dVar 0) (dC (.int 2))) (dOp rIxD (dVar 1) (dC (.int 2)))) dNil)))))
def td__law_plus : DTS :=
  (dRet (dCall spNumber (dCons (dAdd (dMul (dOp rIxD (dVar 0) (dC (.int 0))) (dOp rIxD (dVar 1) (dC (.int 2)))) (dMul (dOp rIxD (dVar 1) (dC (.int 0))) (dOp rIxD (dVar 0) (dC (.int 2))))) (dCons (dAdd (dMul (dOp rIxD (dVar 0) (dC (.int 1))) (dOp rIxD (dVar 1) (dC (.int 2)))) (dMul (dOp rIxD (dVar 1) (dC (.int 1))) (dOp rIxD (dVar 0) (dC (.int 2))))) (dCons (dMul (dOp rIxD (dVar 0) (dC (.int 2))) (dOp rIxD (dVar 1) (dC (.int 2)))) dNil)))))
def td_times : DTS :=
  (dRet (dCall spNumber (dCons (dAdd (dMul (dOp rIxD (dVar 1) (dC (.int 0))) (dOp rIxD (dVar 2) (dC (.int 0)))) (dMul (dMul (dVar 0) (dOp rIxD (dVar 1) (dC (.int 1)))) (dOp rIxD (dVar 2) (dC (.int 1))))) (dCons (dAdd (dMul (dOp rIxD (dVar 1) (dC (.int 0))) (dOp rIxD (dVar 2) (dC (.int 1)))) (dMul (dOp rIxD (dVar 1) (dC (.int 1))) (dOp rIxD (dVar 2) (dC (.int 0))))) (dCons (dMul (dOp rIxD (dVar 1) (dC (.int 2))) (dOp rIxD (dVar 2) (dC (.int 2)))) dNil)))))
def td__law_times : DTS :=
  (dRet (dCall spNumber (dCons (dAdd (dMul (dOp rIxD (dVar 1) (dC (.int 0))) (dOp rIxD (dVar 2) (dC (.int 0)))) (dMul (dMul (dVar 0) (dOp rIxD (dVar 1) (dC (.int 1)))) (dOp rIxD (dVar 2) (dC (.int 1))))) (dCons (dAdd (dMul (dOp rIxD (dVar 1) (dC (.int 0))) (dOp rIxD (dVar 2) (dC (.int 1)))) (dMul (dOp rIxD (dVar 1) (dC (.int 1))) (dOp rIxD (dVar 2) (dC (.int 0))))) (dCons (dMul (dOp rIxD (dVar 1) (dC (.int 2))) (dOp rIxD (dVar 2) (dC (.int 2)))) dNil)))))
def td_contrary : DTS :=
  (dSeq (dAsg (dSub (dMul (dOp rIxD (dVar 1) (dC (.int 0))) (dOp rIxD (dVar 1) (dC (.int 0)))) (dMul (dMul (dVar 0) (dOp rIxD (dVar 1) (dC (.int 1)))) (dOp rIxD (dVar 1) (dC (.int 1))))) (gdName 2))
  (dRet (dCall spNumber (dCons (dMul (dOp rIxD (dVar 1) (dC (.int 2))) (dOp rIxD (dVar 1) (dC (.int 0)))) (dCons (dMul (dNeg (dOp rIxD (dVar 1) (dC (.int 2)))) (dOp rIxD (dVar 1) (dC (.int 1)))) (dCons (dVar 2) dNil))))))
def td__law_contrary : DTS :=
  (dRet (dCall spNumber (dCons (dMul (dOp rIxD (dVar 1) (dC (.int 0))) (dOp rIxD (dVar 1) (dC (.int 2)))) (dCons (dSub (dC (.int 0)) (dMul (dOp rIxD (dVar 1) (dC (.int 1))) (dOp rIxD (dVar 1) (dC (.int 2))))) (dCons (dSub (dMul (dOp rIxD (dVar 1) (dC (.int 0))) (dOp rIxD (dVar 1) (dC (.int 0)))) (dMul (dMul (dVar 0) (dOp rIxD (dVar 1) (dC (.int 1)))) (dOp rIxD (dVar 1) (dC (.int 1))))) dNil)))))
def td_mate : DTS :=
  (dRet (dTup (dCons (dOp rIxD (dVar 0) (dC (.int 0))) (dCons (dNeg (dOp rIxD (dVar 0) (dC (.int 1)))) (dCons (dOp rIxD (dVar 0) (dC (.int 2))) dNil)))))
section
variable {μ : Mu} {Qd : DK} {ds : List D}
theorem eqvI (i j : Int) : PyData.eqv (.int i) (.int j) = decide (i = j) := by simp [PyData.eqv]; rfl
theorem gdv {a b c : Int} (h : Sz 8800 c) (hc : c ≠ 0) : Sz 8800 ((g3 a b c : Nat) : Int) := by
  have h1 := (g3_dvd a b c).2.2
  have h2 := Int.natAbs_dvd_natAbs.mpr h1
  exact h.le (Nat.le_of_dvd (by omega) h2)
theorem rd_number (h : spNumber ds μ Qd) : td_number { nx := fun _ μ' => Qd (.v .none) μ', rt := Qd } (startD ["a", "b", "c", "divisor"] ds) μ := by
  obtain ⟨a, b, c, rfl, hc, hz, q⟩ := h
  unfold td_number
  walk_at "rd"
  rw [decide_eq_false hc]
  simp only [Bool.xor_false, Bool.false_eq_true, ↓reduceIte]
  refine ⟨a, b, c, rfl, ?_⟩
  walk_at "rd"
  have hp := g3_pos (a := a) (b := b) hc
  have hg := gdv (a := a) (b := b) hz hc
  unfold low NM.dv dN at q
  simp only at q
  by_cases hn : c < 0
  · rw [if_pos (by simpa using hn)]
    rw [if_pos hn] at q
    have o : ∀ i : Int, DivOk i (-((g3 a b c : Nat) : Int)) := fun i => divOk (by omega) hg.neg (by decide)
    exact ⟨o _, o _, o _, q⟩
  · rw [if_neg (by simpa using hn)]
    rw [if_neg hn] at q
    have o : ∀ i : Int, DivOk i ((g3 a b c : Nat) : Int) := fun i => divOk (by omega) hg (by decide)
    exact ⟨o _, o _, o _, q⟩
theorem rd__law_low (h : spNumber ds μ Qd) : td__law_low { nx := fun _ μ' => Qd (.v .none) μ', rt := Qd } (startD ["_law_a", "_law_b", "_law_c", "_law_common"] ds) μ := by
  obtain ⟨a, b, c, rfl, hc, hz, q⟩ := h
  unfold td__law_low
  walk_at "rd"
  refine ⟨a, b, rfl, _, c, rfl, ?_⟩
  walk_at "rd"
  have hp := g3_pos (a := a) (b := b) hc
  have hg := gdv (a := a) (b := b) hz hc
  unfold low NM.dv dN at q
  simp only at q
  by_cases hn : c < 0
  · simp only [hn, decide_true, ↓reduceIte, atI_1]
    rw [if_pos hn] at q
    have e : ((Int.gcd (Int.gcd a b : Nat) c : Nat) : Int) * -1 = -((g3 a b c : Nat) : Int) := by unfold g3; omega
    walk_at "rd"
    rw [e]
    have o : ∀ i : Int, DivOk i (-((g3 a b c : Nat) : Int)) := fun i => divOk (by omega) hg.neg (by decide)
    exact ⟨mulR (by decide), o _, o _, o _, q⟩
  · simp only [hn, decide_false, Bool.false_eq_true, ↓reduceIte, atI_0]
    rw [if_neg hn] at q
    have e : ((Int.gcd (Int.gcd a b : Nat) c : Nat) : Int) * 1 = ((g3 a b c : Nat) : Int) := by unfold g3; omega
    walk_at "rd"
    rw [e]
    have o : ∀ i : Int, DivOk i ((g3 a b c : Nat) : Int) := fun i => divOk (by omega) hg (by decide)
    exact ⟨mulR (by decide), o _, o _, o _, q⟩
theorem rd_mate (h : spMate ds μ Qd) : td_mate { nx := fun _ μ' => Qd (.v .none) μ', rt := Qd } (startD ["x"] ds) μ := by
  obtain ⟨x, rfl, q⟩ := h
  unfold td_mate
  walk_at "rd"
  exact q
theorem rd__law_mate (h : spMate ds μ Qd) : td__law_mate { nx := fun _ μ' => Qd (.v .none) μ', rt := Qd } (startD ["_law_x"] ds) μ := by
  obtain ⟨x, rfl, q⟩ := h
  unfold td__law_mate
  walk_at "rd"
  trace_state
  simp only [Int.zero_sub]
  exact q
theorem rd__law_minus (h : spMinus ds μ Qd) : td__law_minus { nx := fun _ μ' => Qd (.v .none) μ', rt := Qd } (startD ["_law_x"] ds) μ := by
  obtain ⟨x, rfl, q⟩ := h
  unfold td__law_minus
  walk_at "rd"
  simp only [Int.zero_sub]
  exact q
theorem rd_plus (h : spPlus ds μ Qd) : td_plus { nx := fun _ μ' => Qd (.v .none) μ', rt := Qd } (startD ["x", "y"] ds) μ := by
  obtain ⟨x, y, rfl, ox, oy, bx, by', q⟩ := h
  unfold td_plus
  walk_at "rd"
  have m : ∀ {i j : Int}, Sz 4300 i → Sz 4300 j → IntMulOk i j := fun h g => mulOk h g (by decide)
  exact ⟨m bx.a by'.c, m by'.a bx.c, m bx.b by'.c, m by'.b bx.c, m bx.c by'.c, _, _, _, rfl, mulc ox oy, (bx.c.mul by'.c).mono (by decide), q⟩
theorem rd__law_plus (h : spPlus ds μ Qd) : td__law_plus { nx := fun _ μ' => Qd (.v .none) μ', rt := Qd } (startD ["_law_x", "_law_y"] ds) μ := rd_plus h
theorem rd_times (h : spTimes ds μ Qd) : td_times { nx := fun _ μ' => Qd (.v .none) μ', rt := Qd } (startD ["d", "x", "y"] ds) μ := by
  obtain ⟨d, x, y, rfl, hd, ox, oy, bx, by', q⟩ := h
  unfold td_times
  walk_at "rd"
  have m : ∀ {i j : Int}, Sz 4300 i → Sz 4300 j → IntMulOk i j := fun h g => mulOk h g (by decide)
  exact ⟨m bx.a by'.a, mulOk hd bx.b (by decide), mulOk (hd.mul bx.b) by'.b (by decide), m bx.a by'.b, m bx.b by'.a, m bx.c by'.c, _, _, _, rfl, mulc ox oy, (bx.c.mul by'.c).mono (by decide), q⟩
theorem rd__law_times (h : spTimes ds μ Qd) : td__law_times { nx := fun _ μ' => Qd (.v .none) μ', rt := Qd } (startD ["_law_d", "_law_x", "_law_y"] ds) μ := rd_times h
theorem rd_contrary (h : spContrary ds μ Qd) : td_contrary { nx := fun _ μ' => Qd (.v .none) μ', rt := Qd } (startD ["d", "x", "norm"] ds) μ := by
  obtain ⟨d, x, rfl, hd, hn, bx, q⟩ := h
  unfold td_contrary
  walk_at "rd"
  have m : ∀ {i j : Int}, Sz 4300 i → Sz 4300 j → IntMulOk i j := fun h g => mulOk h g (by decide)
  exact ⟨m bx.a bx.a, mulOk hd bx.b (by decide), mulOk (hd.mul bx.b) bx.b (by decide), m bx.c bx.a, m bx.c.neg bx.b, _, _, _, rfl, hn, (sz_norm hd bx).mono (by decide), q⟩
theorem rd__law_contrary (h : spContrary ds μ Qd) : td__law_contrary { nx := fun _ μ' => Qd (.v .none) μ', rt := Qd } (startD ["_law_d", "_law_x"] ds) μ := by
  obtain ⟨d, x, rfl, hd, hn, bx, q⟩ := h
  unfold td__law_contrary
  walk_at "rd"
  have m : ∀ {i j : Int}, Sz 4300 i → Sz 4300 j → IntMulOk i j := fun h g => mulOk h g (by decide)
  refine ⟨m bx.a bx.c, m bx.b bx.c, m bx.a bx.a, mulOk hd bx.b (by decide), mulOk (hd.mul bx.b) bx.b (by decide), _, _, _, rfl, hn, (sz_norm hd bx).mono (by decide), ?_⟩
  have e1 : x.a * x.c = x.c * x.a := Int.mul_comm ..
  have e2 : 0 - x.b * x.c = -x.c * x.b := by grind
  rw [e1, e2]
  exact q
theorem eqv3 (a b c a' b' c' : Int) : PyData.eqv (.tuple [.int a, .int b, .int c]) (.tuple [.int a', .int b', .int c']) = decide (a = a' ∧ b = b' ∧ c = c') := by
  simp [PyData.eqv, PyData.eqvAll]
  rfl
end
open PySem PySem.Spec PyProof.Rows NM
def td_sign_of_parts : DTS :=
  (dSeq (dIfS (dAndT (dB (dOp (rEqD false) (dVar 1) (dC (.int 0)))) (dB (dOp (rEqD false) (dVar 2) (dC (.int 0))))) (dRet (dC (.int 0))) dNext)
  (dSeq (dIfS (dAndT (dB (dOp rGe (dVar 1) (dC (.int 0)))) (dB (dOp rGe (dVar 2) (dC (.int 0))))) (dRet (dC (.int 1))) dNext)
  (dSeq (dIfS (dAndT (dB (dOp rLe (dVar 1) (dC (.int 0)))) (dB (dOp rLe (dVar 2) (dC (.int 0))))) (dRet (dNeg (dC (.int 1)))) dNext)
  (dSeq (dAsg (dIf (dB (dOp rGt (dMul (dVar 1) (dVar 1)) (dMul (dMul (dVar 0) (dVar 2)) (dVar 2)))) (dVar 1) (dVar 2)) (gdName 3))
  (dRet (dIf (dB (dOp rGt (dVar 3) (dC (.int 0)))) (dC (.int 1)) (dNeg (dC (.int 1)))))))))
def td_sign_of : DTS :=
  (dRet (dCall spSignP (dCons (dVar 0) (dCons (dOp rIxD (dVar 1) (dC (.int 0))) (dCons (dOp rIxD (dVar 1) (dC (.int 1))) dNil)))))
def td__law_sign : DTS :=
  (dSeq (dPar 2 3 (dCons (dMul (dOp rIxD (dVar 1) (dC (.int 0))) (dOp rIxD (dVar 1) (dC (.int 0)))) (dCons (dMul (dMul (dVar 0) (dOp rIxD (dVar 1) (dC (.int 1)))) (dOp rIxD (dVar 1) (dC (.int 1)))) dNil)))
  (dSeq (dAsg (dLst (dCons (dSub (dCB rIntD (dCons (dOp rGt (dOp rIxD (dVar 1) (dC (.int 0))) (dC (.int 0))) dNil)) (dCB rIntD (dCons (dOp rLt (dOp rIxD (dVar 1) (dC (.int 0))) (dC (.int 0))) dNil))) (dCons (dSub (dCB rIntD (dCons (dOp rGt (dOp rIxD (dVar 1) (dC (.int 1))) (dC (.int 0))) dNil)) (dCB rIntD (dCons (dOp rLt (dOp rIxD (dVar 1) (dC (.int 1))) (dC (.int 0))) dNil))) dNil))) (gdName 4))
  (dSeq (dIfS (dB (dOp rGe (dMul (dOp rIxD (dVar 4) (dC (.int 0))) (dOp rIxD (dVar 4) (dC (.int 1)))) (dC (.int 0)))) (dRet (dIf (dB (dOp (rEqD true) (dOp rIxD (dVar 4) (dC (.int 0))) (dC (.int 0)))) (dOp rIxD (dVar 4) (dC (.int 0))) (dOp rIxD (dVar 4) (dC (.int 1))))) dNext)
  (dRet (dIf (dB (dOp rGt (dVar 2) (dVar 3))) (dOp rIxD (dVar 4) (dC (.int 0))) (dOp rIxD (dVar 4) (dC (.int 1))))))))
section
variable {μ : Mu} {Qd : DK} {ds : List D}
theorem rd_sign_of_parts (h : spSignP ds μ Qd) : td_sign_of_parts { nx := fun _ μ' => Qd (.v .none) μ', rt := Qd } (startD ["d", "a", "b", "prevailing"] ds) μ := by
  obtain ⟨d, a, b, rfl, hd, ha, hb, q⟩ := h
  unfold td_sign_of_parts
  walk_at "rd"
  have m1 : MulOk a a := mulOk ha ha (by decide)
  have m2 : MulOk d b := mulOk hd hb (by decide)
  have m3 : MulOk (d * b) b := mulOk (hd.mul hb) hb (by decide)
  unfold sg at q
  by_cases h1 : a = 0
  · by_cases h2 : b = 0
    · subst h1 h2; simpa using q
    · subst h1
      rcases Int.lt_or_gt_of_ne h2 with h3 | h3
      · have e : ¬ (0 ≤ b) := by omega
        have e' : b ≤ 0 := by omega
        simp only [h2, e, e', and_false, true_and, if_true, if_false, decide_true, decide_false, Int.le_refl, ↓reduceIte, Bool.false_eq_true] at q ⊢
        exact q
      · have e : (0 ≤ b) := by omega
        simp only [h2, e, and_false, true_and, if_true, if_false, decide_true, decide_false, Int.le_refl, ↓reduceIte, Bool.false_eq_true] at q ⊢
        exact q
  · by_cases h3 : 0 ≤ a <;> by_cases h4 : 0 ≤ b <;> by_cases h5 : a ≤ 0 <;> by_cases h6 : b ≤ 0 <;> by_cases h7 : d * b * b < a * a <;> (try (exfalso; omega)) <;>
      simp only [h1, h3, h4, h5, h6, h7, and_false, false_and, and_true, true_and, if_true, if_false, decide_true, decide_false, ↓reduceIte, Bool.false_eq_true, and_self, m1, m2, m3, gt_iff_lt] at q ⊢ <;> (try exact q)
    all_goals
      first
      | (by_cases h8 : 0 < a <;> simp only [h8, if_true, if_false, decide_true, decide_false, ↓reduceIte, Bool.false_eq_true] at q ⊢ <;> exact q)
      | (by_cases h8 : 0 < b <;> simp only [h8, if_true, if_false, decide_true, decide_false, ↓reduceIte, Bool.false_eq_true] at q ⊢ <;> exact q)
theorem rd_sign_of (h : spSign ds μ Qd) : td_sign_of { nx := fun _ μ' => Qd (.v .none) μ', rt := Qd } (startD ["d", "x"] ds) μ := by
  obtain ⟨d, x, rfl, hd, bx, q⟩ := h
  unfold td_sign_of
  walk_at "rd"
  exact ⟨d, x.a, x.b, rfl, sz_d hd.1 hd.2.1, bx.a.mono (by decide), bx.b.mono (by decide), q⟩
theorem sg_law {d a b sa sb : Int} (ha : (a < 0 ∧ sa = -1) ∨ (a = 0 ∧ sa = 0) ∨ (0 < a ∧ sa = 1)) (hb : (b < 0 ∧ sb = -1) ∨ (b = 0 ∧ sb = 0) ∨ (0 < b ∧ sb = 1)) :
    sg d a b = if 0 ≤ sa * sb then (if sa ≠ 0 then sa else sb) else if d * b * b < a * a then sa else sb := by
  unfold sg
  by_cases h7 : d * b * b < a * a <;> rcases ha with ⟨h1, rfl⟩ | ⟨h1, rfl⟩ | ⟨h1, rfl⟩ <;> rcases hb with ⟨h2, rfl⟩ | ⟨h2, rfl⟩ | ⟨h2, rfl⟩ <;> simp only [h7, ↓reduceIte] <;> (repeat' split) <;> omega
theorem rd__law_sign (h : spSign ds μ Qd) : td__law_sign { nx := fun _ μ' => Qd (.v .none) μ', rt := Qd } (startD ["_law_d", "_law_x", "_law_first", "_law_second", "_law_sides"] ds) μ := by
  obtain ⟨d, x, rfl, hd, bx, q⟩ := h
  unfold td__law_sign
  walk_at "rd"
  have s5 := sz_d hd.1 hd.2.1
  refine ⟨mulOk bx.a bx.a (by decide), mulOk s5 bx.b (by decide), mulOk (s5.mul bx.b) bx.b (by decide), ?_⟩
  have sd : ∀ u : Int, (u < 0 ∧ ((if decide (0 < u) = true then 1 else 0) - if decide (u < 0) = true then 1 else 0 : Int) = -1) ∨ (u = 0 ∧ ((if decide (0 < u) = true then 1 else 0) - if decide (u < 0) = true then 1 else 0 : Int) = 0) ∨ (0 < u ∧ ((if decide (0 < u) = true then 1 else 0) - if decide (u < 0) = true then 1 else 0 : Int) = 1) := fun u => by
    simp only [decide_eq_true_eq]
    split <;> split <;> omega
  have ha := sd x.a
  have hb := sd x.b
  generalize ((if decide (0 < x.a) = true then 1 else 0) - if decide (x.a < 0) = true then 1 else 0 : Int) = sa at ha ⊢
  generalize ((if decide (0 < x.b) = true then 1 else 0) - if decide (x.b < 0) = true then 1 else 0 : Int) = sb at hb ⊢
  rw [sg_law ha hb] at q
  refine ⟨mulL (by omega), ?_⟩
  by_cases c1 : 0 ≤ sa * sb <;> by_cases c2 : sa = 0 <;> by_cases c3 : d * x.b * x.b < x.a * x.a <;> simp only [c1, c2, c3, decide_true, decide_false, ↓reduceIte, Bool.false_eq_true, Bool.xor_false, Bool.xor_true, Bool.not_true, ne_eq, not_true_eq_false, not_false_eq_true, Int.zero_mul, Int.le_refl] at q ⊢ <;> exact q
end
open PySem PySem.Spec PyProof.Rows NM
def td__law_bag : DTS :=
  (dSeq (dAsg (dC (.int 0)) (gdName 2))
  (dSeq (dIfS (dB (dOp rLt (dVar 1) (dCB rLenD (dCons (dVar 0) dNil)))) (dAsg (dOp rIxD (dVar 0) (dVar 1)) (gdName 2)) dNext)
  (dSeq (dAsg (dC (.int 0)) (gdName 3))
  (dSeq (dIfS (dB (dOp rGe (dCB rAbsD (dCons (dVar 2) dNil)) (dPow (dC (.int 10)) (dC (.int 18))))) (dAsg (dCB rAbsD (dCons (dVar 2) dNil)) (gdName 3)) dNext)
  (dSeq (dAsg (dLst (dCons (dC (.int 2147483647)) (dCons (dC (.int 2147483629)) (dCons (dC (.int 2147483587)) (dCons (dC (.int 2147483579)) (dCons (dC (.int 2147483563)) (dCons (dC (.int 2147483549)) (dCons (dC (.int 2147483543)) (dCons (dC (.int 2147483497)) dNil))))))))) (gdName 4))
  (dSeq (dAsg (dAdd (dAdd (dAdd (dMul (dMod (dVar 2) (dC (.int 2147483647))) (dC (.int 69623))) (dMul (dMul (dC (.int 104729)) (dVar 1)) (dVar 1))) (dMul (dC (.int 7919)) (dVar 1))) (dC (.int 12345))) (gdName 5))
  (dRet (dLstM (dCons (dVar 3) (dCons (dMod (dVar 5) (dOp rIxD (dVar 4) (dMod (dVar 1) (dC (.int 8))))) dNil))))))))))
def td__law_take : DTS :=
  (dSeq (dIfS (dB (dOp rGt (dOp rIxD (dVar 0) (dC (.int 0))) (dC (.int 0)))) (dSeq (dAsg (dMod (dOp rIxD (dVar 0) (dC (.int 0))) (dVar 1)) (gdName 2))
  (dSeq (dAsg (dDiv (dOp rIxD (dVar 0) (dC (.int 0))) (dVar 1)) (gdSub (dVar 0) (dC (.int 0))))
  (dRet (dVar 2)))) dNext)
  (dSeq (dAsg (dMod (dAdd (dMul (dOp rIxD (dVar 0) (dC (.int 1))) (dC (.int 48271))) (dC (.int 2531011))) (dC (.int 2147483647))) (gdSub (dVar 0) (dC (.int 1))))
  (dRet (dMod (dDiv (dMod (dPow (dOp rIxD (dVar 0) (dC (.int 1))) (dC (.int 3))) (dC (.int 2147483629))) (dC (.int 64))) (dVar 1)))))
section
variable {μ : Mu} {Qd : DK} {ds : List D}
theorem atI_mem {α : Type} {xs : List α} {i : Int} (h0 : 0 ≤ i) (h : i < (xs.length : Nat)) : ∃ d, atI xs i = some d ∧ d ∈ xs := by
  have hj : i.toNat < xs.length := by omega
  have e := atI_nat (xs := xs) (j := i.toNat) (v := xs[i.toNat]) (by simp [hj])
  rw [show ((i.toNat : Nat) : Int) = i by omega] at e
  exact ⟨_, e, List.getElem_mem _⟩
theorem fmod_rng (x : Int) {y : Int} (h : 0 < y) : 0 ≤ x.fmod y ∧ x.fmod y < y := ⟨Int.fmod_nonneg_of_pos x h, Int.fmod_lt_of_pos x h⟩
theorem fdiv_nn {x y : Int} (hx : 0 ≤ x) (hy : 0 < y) : 0 ≤ x.fdiv y := by rw [Int.fdiv_eq_ediv_of_nonneg _ (by omega)]; exact Int.ediv_nonneg hx (by omega)
def bagPrimes : List PyData := [.int 2147483647, .int 2147483629, .int 2147483587, .int 2147483579, .int 2147483563, .int 2147483549, .int 2147483543, .int 2147483497]
theorem rd__law_bag (h : spBag ds μ Qd) : td__law_bag { nx := fun _ μ' => Qd (.v .none) μ', rt := Qd } (startD ["_law_script", "_law_at", "_law_cell", "_law_great", "_law_primes", "_law_mixed"] ds) μ := by
  obtain ⟨ns, k, rfl, h0, h1, q⟩ := h
  unfold td__law_bag
  have hp : ∃ pr : Int, atI bagPrimes (k.fmod 8) = some (.int pr) ∧ 0 < pr ∧ pr < 2147483648 := by
    obtain ⟨h2, h3⟩ := fmod_rng k (show (0 : Int) < 8 by decide)
    obtain ⟨p, e, hm⟩ := atI_mem (xs := bagPrimes) h2 (by exact h3)
    simp only [bagPrimes, List.mem_cons, List.not_mem_nil, or_false] at hm
    rcases hm with rfl | rfl | rfl | rfl | rfl | rfl | rfl | rfl <;> exact ⟨_, e, by decide, by decide⟩
  obtain ⟨pr, hpe, hp0, hp1⟩ := hp
  unfold bagPrimes at hpe
  walk_at "rd"
  rw [hpe]
  walk_at "rd"
  have c1 : CPow 10 18 := ⟨by decide, by decide, by decide⟩
  have z1 : (2147483647 : Int) ≠ 0 := by decide
  have z2 : (8 : Int) ≠ 0 := by decide
  have m1 : ∀ i : Int, MulOk i 69623 := fun i => mulR (by decide)
  have m2 : MulOk 104729 k := mulL (by decide)
  have m3 : MulOk (104729 * k) k := mulR (by omega)
  have m4 : MulOk 7919 k := mulL (by decide)
  have z3 : pr ≠ 0 := by omega
  have fin : ∀ G x : Int, 0 ≤ G → ∀ p, μ p = none → Qd (.m p) (muSet μ p [.int G, .int (x.fmod pr)]) := fun G x hG p hp => by
    obtain ⟨h2, h3⟩ := fmod_rng x hp0
    exact q p _ hp (Step.set hG h2 (by omega))
  by_cases hk : k < (ns.length : Nat)
  · rw [if_pos (by simpa using hk)]
    obtain ⟨c, hc, _⟩ := atI_mem h0 hk
    rw [hc]
    walk_at "rd"
    refine ⟨c1, ?_⟩
    split
    · exact ⟨z1, m1 _, m2, m3, m4, z2, z3, fin _ _ (by omega)⟩
    · exact ⟨z1, m1 _, m2, m3, m4, z2, z3, fin _ _ (by omega)⟩
  · rw [if_neg (by simpa using hk)]
    refine ⟨c1, ?_⟩
    split
    · exact ⟨z1, m1 _, m2, m3, m4, z2, z3, fin _ _ (by omega)⟩
    · exact ⟨z1, m1 _, m2, m3, m4, z2, z3, fin _ _ (by omega)⟩
theorem rd__law_take (h : spTake ds μ Qd) : td__law_take { nx := fun _ μ' => Qd (.v .none) μ', rt := Qd } (startD ["_law_bag_here", "_law_many", "_law_digit"] ds) μ := by
  obtain ⟨a, n, rfl, h0, h1, ⟨g, m, hb, hg, hm, hm'⟩, q⟩ := h
  unfold td__law_take
  walk_at "rd"
  rw [hb]
  walk_at "rd"
  rw [hb]
  walk_at "rd"
  have n0 : n ≠ 0 := by omega
  have i0 : ixN 2 0 = some 0 := by rfl
  have i1 : ixN 2 1 = some 1 := by rfl
  by_cases hg0 : 0 < g
  · rw [if_pos (by simpa using hg0)]
    simp only [hb]
    walk_at "rd"
    obtain ⟨r0, r1⟩ := fmod_rng g (show 0 < n by omega)
    refine ⟨n0, ?_⟩
    simp only [hb]
    walk_at "rd"
    refine ⟨divC n0 (by omega), ?_⟩
    simp only [hb, List.length_cons, List.length_nil, Nat.reduceAdd, i0, List.set_cons_zero]
    exact q _ _ r0 r1 (Step.set (fdiv_nn hg (by omega)) hm hm')
  · rw [if_neg (by simpa using hg0)]
    simp only [hb, i1, muSet_same]
    walk_at "rd"
    obtain ⟨s0, s1⟩ := fmod_rng (m * 48271 + 2531011) (show (0 : Int) < 2147483647 by decide)
    generalize (m * 48271 + 2531011).fmod 2147483647 = w at s0 s1 ⊢
    obtain ⟨r0, r1⟩ := fmod_rng ((((w ^ Int.toNat 3).fmod 2147483629).fdiv 64)) (show 0 < n by omega)
    refine ⟨mulL (by omega), by decide, ?_⟩
    refine ⟨⟨by decide, by decide, by omega⟩, (by show (2147483629 : Int) ≠ 0; decide), divC (by decide) (by decide), n0, ?_⟩
    exact q _ _ r0 r1 (Step.set hg s0 (by omega))
end
open PySem PySem.Spec PyProof.Rows NM
section
variable {μ : Mu} {Qd : DK} {ds : List D}
end
open PySem PySem.Spec PyProof.Rows NM
def td_is_number : DTS :=
  (dSeq (dIfS (dOrT (dNotT (dB (dIsi "tuple" (dVar 0)))) (dB (dOp (rEqD true) (dCB rLenD (dCons (dVar 0) dNil)) (dC (.int 3))))) (dRet (dC (.bool false))) dNext)
  (dSeq (dAsg (dVar 0) (gdTup 3 (gdCons (gdName 1) (gdCons (gdName 2) (gdCons (gdName 3) gdNil)))))
  (dSeq (dIfS (dOrT (dNotT (dB (dCall spWhole (dCons (dVar 1) dNil)))) (dOrT (dNotT (dB (dCall spWhole (dCons (dVar 2) dNil)))) (dNotT (dB (dCall spWhole (dCons (dVar 3) dNil)))))) (dRet (dC (.bool false))) dNext)
  (dRet (dAndV (dOp rGe (dVar 3) (dC (.int 1))) (dOp (rEqD false) (dCall spDiv3 (dCons (dVar 1) (dCons (dVar 2) (dCons (dVar 3) dNil)))) (dC (.int 1))))))))
section
variable {μ : Mu} {Qd : DK} {ds : List D}
def rootB (i : Int) : Bool := decide (2 ≤ i) && decide (i ≤ 30) && !(decide (i = 4) || decide (i = 9) || decide (i = 16) || decide (i = 25))
theorem isWhole_cases (d : PyData) : (∃ i, d = .int i ∧ isWhole d = true) ∨ ((∀ i, d ≠ .int i) ∧ isWhole d = false) := by
  cases d <;> first | exact .inl ⟨_, rfl, rfl⟩ | exact .inr ⟨fun _ z => (by cases z), rfl⟩
theorem isT_tup (d : PyData) : (∃ xs, d = .tuple xs ∧ isT "tuple" d = true) ∨ ((∀ xs, d ≠ .tuple xs) ∧ isT "tuple" d = false) := by
  cases d <;> first | exact .inl ⟨_, rfl, rfl⟩ | exact .inr ⟨fun _ z => (by cases z), rfl⟩
theorem isNum_not {d : PyData} (h : ∀ xs, d ≠ .tuple xs) : isNum d = false := by cases d <;> first | rfl | exact absurd rfl (h _)
theorem isNum_len {xs : List PyData} (h : xs.length ≠ 3) : isNum (.tuple xs) = false := by
  unfold isNum
  split
  · rename_i e; cases e; exact absurd rfl h
  · rfl
theorem three {α : Type} {xs : List α} (h : xs.length = 3) : ∃ a b c, xs = [a, b, c] := by
  match xs, h with
  | [a, b, c], _ => exact ⟨a, b, c, rfl⟩
theorem rd_is_number (h : spNumQ ds μ Qd) : td_is_number { nx := fun _ μ' => Qd (.v .none) μ', rt := Qd } (startD ["thing", "a", "b", "c"] ds) μ := by
  obtain ⟨d, rfl, _, q⟩ := h
  unfold td_is_number
  walk_at "rd"
  rcases isT_tup d with ⟨xs, rfl, e⟩ | ⟨hn, e⟩
  · rw [e]
    walk_at "rd"
    by_cases hl : xs.length = 3
    · obtain ⟨a, b, c, rfl⟩ := three hl
      have e3 : decide ((([a, b, c].length : Nat) : Int) = 3) = true := rfl
      have e3' : [a, b, c].length = 3 := rfl
      simp only [e3, Bool.xor_self, Bool.false_eq_true, ↓reduceIte]
      refine ⟨rfl, ?_⟩
      walk_at "rd"
      refine ⟨a, rfl, ?_⟩
      rcases isWhole_cases a with ⟨i, rfl, e⟩ | ⟨hn, e⟩
      · rw [e]
        walk_at "rd"
        refine ⟨b, rfl, ?_⟩
        rcases isWhole_cases b with ⟨j, rfl, e⟩ | ⟨hn, e⟩
        · rw [e]
          walk_at "rd"
          refine ⟨c, rfl, ?_⟩
          rcases isWhole_cases c with ⟨k, rfl, e⟩ | ⟨hn, e⟩
          · rw [e]
            walk_at "rd"
            have q' : Qd (.v (.bool (decide (1 ≤ k) && (g3 i j k == 1)))) μ := q
            by_cases hk : 1 ≤ k
            · rw [if_pos (by simpa using hk)]
              refine ⟨i, j, k, rfl, ?_⟩
              walk_at "rd"
              have ee : decide (((g3 i j k : Nat) : Int) = 1) = (decide (1 ≤ k) && (g3 i j k == 1)) := by
                rw [decide_eq_true hk, Bool.true_and, Bool.eq_iff_iff]; simp; omega
              rw [ee]
              exact q'
            · rw [if_neg (by simpa using hk)]
              rw [decide_eq_false hk] at q'
              exact q'
          · rw [e]
            walk_at "rd"
            have : isNum (.tuple [.int i, .int j, c]) = false := by cases c <;> first | rfl | exact absurd rfl (hn _)
            rw [this] at q
            exact q
        · rw [e]
          walk_at "rd"
          have : isNum (.tuple [.int i, b, c]) = false := by cases b <;> first | rfl | exact absurd rfl (hn _)
          rw [this] at q
          exact q
      · rw [e]
        walk_at "rd"
        have : isNum (.tuple [a, b, c]) = false := by cases a <;> first | rfl | exact absurd rfl (hn _)
        rw [this] at q
        exact q
    · rw [isNum_len hl] at q
      have : decide (((xs.length : Nat) : Int) = 3) = false := by simp; omega
      rw [this]
      simp only [Bool.xor_false, ↓reduceIte]
      exact q
  · rw [e]
    rw [isNum_not hn] at q
    walk_at "rd"
    exact q
end
open PySem PySem.Spec PyProof.Rows NM
def td__law_is_number : DTS :=
  (dSeq (dIfS (dOrT (dNotT (dB (dIsi "tuple" (dVar 0)))) (dOrT (dB (dOp (rEqD true) (dCB rLenD (dCons (dVar 0) dNil)) (dC (.int 3)))) (dNotT (dB (dCB rAllD (dCons (dComp [none] (diTup (dVar 0)) (gdName 0) dTrue (dCall spWhole (dCons (dVar 0) dNil))) dNil)))))) (dRet (dC (.bool false))) dNext)
  (dRet (dAndV (dOp rGt (dOp rIxD (dVar 0) (dC (.int 2))) (dC (.int 0))) (dOp (rEqD false) (dCall spGcd (dCons (dCall spGcd (dCons (dOp rIxD (dVar 0) (dC (.int 0))) (dCons (dOp rIxD (dVar 0) (dC (.int 1))) dNil))) (dCons (dOp rIxD (dVar 0) (dC (.int 2))) dNil))) (dC (.int 1))))))
def td__law_number : DTS :=
  (dSeq (dAsg (dOp rIxD (dLst (dCons (dC (.int 4)) (dCons (dC (.int 10)) (dCons (dC (.int 100)) (dCons (dC (.int 1000000)) dNil))))) (dCall spTake (dCons (dVar 0) (dCons (dC (.int 4)) dNil)))) (gdName 1))
  (dSeq (dPar 2 3 (dCons (dSub (dCall spTake (dCons (dVar 0) (dCons (dVar 1) dNil))) (dDiv (dVar 1) (dC (.int 2)))) (dCons (dSub (dCall spTake (dCons (dVar 0) (dCons (dVar 1) dNil))) (dDiv (dVar 1) (dC (.int 2)))) dNil)))
  (dSeq (dAsg (dAdd (dC (.int 1)) (dCall spTake (dCons (dVar 0) (dCons (dSub (dVar 1) (dC (.int 1))) dNil)))) (gdName 4))
  (dSeq (dAsg (dCall spTake (dCons (dVar 0) (dCons (dC (.int 8)) dNil))) (gdName 5))
  (dRet (dCall spNumber (dCons (dOp rIxD (dLst (dCons (dVar 2) (dCons (dVar 2) (dCons (dVar 2) (dCons (dVar 2) (dCons (dVar 2) (dCons (dVar 2) (dCons (dVar 2) (dCons (dC (.int 0)) dNil))))))))) (dVar 5)) (dCons (dOp rIxD (dLst (dCons (dVar 3) (dCons (dVar 3) (dCons (dVar 3) (dCons (dVar 3) (dCons (dVar 3) (dCons (dC (.int 0)) (dCons (dC (.int 0)) (dCons (dVar 3) dNil))))))))) (dVar 5)) (dCons (dOp rIxD (dLst (dCons (dVar 4) (dCons (dVar 4) (dCons (dC (.int 1)) (dCons (dVar 4) (dCons (dC (.int 1)) (dCons (dVar 4) (dCons (dC (.int 1)) (dCons (dVar 4) dNil))))))))) (dVar 5)) dNil)))))))))
section
variable {μ : Mu} {Qd : DK} {ds : List D}
theorem rd__law_is_number (h : spNumQ ds μ Qd) : td__law_is_number { nx := fun _ μ' => Qd (.v .none) μ', rt := Qd } (startD ["_law_thing"] ds) μ := by
  obtain ⟨d, rfl, few, q⟩ := h
  unfold td__law_is_number
  walk_at "rd"
  rcases isT_tup d with ⟨xs, rfl, e⟩ | ⟨hn, e⟩
  · rw [e]
    walk_at "rd"
    by_cases hl : xs.length = 3
    · obtain ⟨a, b, c, rfl⟩ := three hl
      have e3 : decide ((([a, b, c].length : Nat) : Int) = 3) = true := rfl
      simp only [e3, Bool.xor_self, Bool.false_eq_true, ↓reduceIte]
      refine ⟨by simp, fun x => some (.bool (isWhole x)), fun x hx μ' hs => ⟨trivial, x, rfl, rfl, rfl⟩, ?_⟩
      rw [fm_some (fun x => PyData.bool (isWhole x)), asBools_map]
      simp only [List.map_cons, List.map_nil, List.all_cons, List.all_nil, id, Bool.and_true]
      rcases isWhole_cases a with ⟨i, rfl, ea⟩ | ⟨hn, ea⟩
      · rcases isWhole_cases b with ⟨j, rfl, e1⟩ | ⟨hn, e1⟩
        · rcases isWhole_cases c with ⟨k, rfl, e2⟩ | ⟨hn, e2⟩
          · rw [ea, e1, e2]
            simp only [Bool.and_self]
            walk_at "rd"
            have q' : Qd (.v (.bool (decide (1 ≤ k) && (g3 i j k == 1)))) μ := q
            by_cases hk : 1 ≤ k
            · rw [if_pos (by simp; omega)]
              refine ⟨i, j, rfl, _, k, rfl, ?_⟩
              walk_at "rd"
              have ee : decide (((Int.gcd (Int.gcd i j : Nat) k : Nat) : Int) = 1) = (decide (1 ≤ k) && (g3 i j k == 1)) := by
                unfold g3
                rw [decide_eq_true hk, Bool.true_and, Bool.eq_iff_iff]; simp; omega
              rw [ee]
              exact q'
            · rw [if_neg (by simp; omega)]
              rw [decide_eq_false hk] at q'
              exact q'
          · rw [ea, e1, e2]
            simp only [Bool.and_false]
            walk_at "rd"
            have : isNum (.tuple [.int i, .int j, c]) = false := by cases c <;> first | rfl | exact absurd rfl (hn _)
            rw [this] at q
            exact q
        · rw [ea, e1]
          simp only [Bool.and_false, Bool.false_and]
          walk_at "rd"
          have : isNum (.tuple [.int i, b, c]) = false := by cases b <;> first | rfl | exact absurd rfl (hn _)
          rw [this] at q
          exact q
      · rw [ea]
        simp only [Bool.and_false, Bool.false_and]
        walk_at "rd"
        have : isNum (.tuple [a, b, c]) = false := by cases a <;> first | rfl | exact absurd rfl (hn _)
        rw [this] at q
        exact q
    · rw [isNum_len hl] at q
      have : decide (((xs.length : Nat) : Int) = 3) = false := by simp; omega
      rw [this]
      simp only [Bool.xor_false, ↓reduceIte]
      exact q
  · rw [e]
    rw [isNum_not hn] at q
    walk_at "rd"
    exact q
theorem pick {P : PyData → Prop} {xs : List PyData} {i : Int} (h0 : 0 ≤ i) (h1 : i < (xs.length : Nat)) (h : ∀ x ∈ xs, P x) : ∃ d, atI xs i = some d ∧ P d := let ⟨d, e, m⟩ := atI_mem h0 h1; ⟨d, e, h d m⟩
theorem Step.refl {a : Addr} (h : Bag μ a) : Step a μ μ := ⟨h, fun _ _ => rfl⟩
theorem sz20 {i : Int} (h1 : -1048576 < i) (h2 : i < 1048576) : Sz 20 i := Sz.of (by show i.natAbs < 1048576; omega)
theorem rd__law_number (h : spNumberL ds μ Qd) : td__law_number { nx := fun _ μ' => Qd (.v .none) μ', rt := Qd } (startD ["_law_bag_here", "_law_wide", "_law_a", "_law_b", "_law_c", "_law_way"] ds) μ := by
  obtain ⟨a, rfl, hb, q⟩ := h
  unfold td__law_number
  walk_at "rd"
  refine ⟨a, 4, rfl, by decide, by decide, hb, fun r0 μ1 h0 h1 s1 => ?_⟩
  walk_at "rd"
  obtain ⟨w, e, i, rfl, w0, w1⟩ := pick (P := fun d => ∃ i : Int, d = .int i ∧ 4 ≤ i ∧ i ≤ 1000000) (xs := [PyData.int 4, PyData.int 10, PyData.int 100, PyData.int 1000000]) h0 (by exact h1) (by
    intro x hx
    simp only [List.mem_cons, List.not_mem_nil, or_false] at hx
    rcases hx with rfl | rfl | rfl | rfl <;> exact ⟨_, rfl, by decide, by decide⟩)
  rw [e]
  walk_at "rd"
  refine ⟨a, i, rfl, by omega, by omega, s1.1, fun r1 μ2 h2 h3 s2 => ?_⟩
  walk_at "rd"
  refine ⟨divC (by decide) (by decide), a, i, rfl, by omega, by omega, s2.1, fun r2 μ3 h4 h5 s3 => ?_⟩
  walk_at "rd"
  refine ⟨divC (by decide) (by decide), a, i - 1, rfl, by omega, by omega, s3.1, fun r3 μ4 h6 h7 s4 => ?_⟩
  walk_at "rd"
  refine ⟨a, 8, rfl, by decide, by decide, s4.1, fun r4 μ5 h8 h9 s5 => ?_⟩
  walk_at "rd"
  have ef : i.fdiv 2 = i / 2 := Int.fdiv_eq_ediv_of_nonneg _ (by omega)
  rw [ef]
  have za : Sz 20 (r1 - i / 2) := sz20 (by omega) (by omega)
  have zb : Sz 20 (r2 - i / 2) := sz20 (by omega) (by omega)
  have zc : Sz 20 (1 + r3) := sz20 (by omega) (by omega)
  have z0 : Sz 20 0 := sz20 (by omega) (by omega)
  have z1 : Sz 20 1 := sz20 (by omega) (by omega)
  obtain ⟨d1, e1, i1, rfl, b1⟩ := pick (P := fun d => ∃ i : Int, d = .int i ∧ Sz 20 i) (xs := [PyData.int (r1 - i / 2), PyData.int (r1 - i / 2), PyData.int (r1 - i / 2), PyData.int (r1 - i / 2), PyData.int (r1 - i / 2), PyData.int (r1 - i / 2), PyData.int (r1 - i / 2), PyData.int 0]) h8 (by exact h9) (by
    intro x hx
    simp only [List.mem_cons, List.not_mem_nil, or_false] at hx
    rcases hx with rfl | rfl | rfl | rfl | rfl | rfl | rfl | rfl <;> exact ⟨_, rfl, by assumption⟩)
  rw [e1]
  walk_at "rd"
  obtain ⟨d2, e2, i2, rfl, b2⟩ := pick (P := fun d => ∃ i : Int, d = .int i ∧ Sz 20 i) (xs := [PyData.int (r2 - i / 2), PyData.int (r2 - i / 2), PyData.int (r2 - i / 2), PyData.int (r2 - i / 2), PyData.int (r2 - i / 2), PyData.int 0, PyData.int 0, PyData.int (r2 - i / 2)]) h8 (by exact h9) (by
    intro x hx
    simp only [List.mem_cons, List.not_mem_nil, or_false] at hx
    rcases hx with rfl | rfl | rfl | rfl | rfl | rfl | rfl | rfl <;> exact ⟨_, rfl, by assumption⟩)
  rw [e2]
  walk_at "rd"
  obtain ⟨d3, e3, i3, rfl, b3, p3⟩ := pick (P := fun d => ∃ i : Int, d = .int i ∧ Sz 20 i ∧ 0 < i) (xs := [PyData.int (1 + r3), PyData.int (1 + r3), PyData.int 1, PyData.int (1 + r3), PyData.int 1, PyData.int (1 + r3), PyData.int 1, PyData.int (1 + r3)]) h8 (by exact h9) (by
    intro x hx
    simp only [List.mem_cons, List.not_mem_nil, or_false] at hx
    rcases hx with rfl | rfl | rfl | rfl | rfl | rfl | rfl | rfl <;> exact ⟨_, rfl, by assumption, by omega⟩)
  rw [e3]
  walk_at "rd"
  have n3 : i3 ≠ 0 := by omega
  exact ⟨i1, i2, i3, rfl, n3, b3.mono (by decide), q _ _ (low_ok _ _ n3) (low_bd n3 b1 b2 b3) (s1.trans (s2.trans (s3.trans (s4.trans s5))))⟩
end
open PySem PySem.Spec PyProof.Rows NM
def td__law_root : DTS :=
  (dSeq (dIfS (dB (dOp (rEqD false) (dCall spTake (dCons (dVar 0) (dCons (dC (.int 2)) dNil))) (dC (.int 0)))) (dRet (dOp rIxD (dLst (dCons (dC (.int 2)) (dCons (dC (.int 3)) (dCons (dC (.int 5)) dNil)))) (dCall spTake (dCons (dVar 0) (dCons (dC (.int 3)) dNil))))) dNext)
  (dSeq (dAsg (dCompI [none] (diRng2 (dCons (dC (.int 2)) (dCons (dC (.int 31)) dNil))) (gdName 0) (dB (dOp (rInD true) (dVar 0) (dLst (dCons (dC (.int 4)) (dCons (dC (.int 9)) (dCons (dC (.int 16)) (dCons (dC (.int 25)) dNil))))))) (dVar 0)) (gdName 1))
  (dRet (dOp rIxD (dVar 1) (dCall spTake (dCons (dVar 0) (dCons (dC (.int 25)) dNil)))))))
def td__law_above : DTS :=
  (dSeq (dAsg (dCall spNumberL (dCons (dVar 0) dNil)) (gdName 2))
  (dSeq (dAsg (dCall spSign (dCons (dVar 1) (dCons (dVar 2) dNil))) (gdName 3))
  (dSeq (dIfS (dB (dOp (rEqD false) (dVar 3) (dC (.int 0)))) (dRet (dTup (dCons (dAdd (dC (.int 1)) (dCall spTake (dCons (dVar 0) (dCons (dC (.int 5)) dNil)))) (dCons (dC (.int 0)) (dCons (dC (.int 1)) dNil))))) dNext)
  (dRet (dIf (dB (dOp rGt (dVar 3) (dC (.int 0)))) (dVar 2) (dCall spMinus (dCons (dVar 2) dNil)))))))
section
variable {μ : Mu} {Qd : DK} {ds : List D}
theorem mem_rng {lo : Int} {n : Nat} {x : PyData} (h : x ∈ rngD lo n) : ∃ i : Int, x = .int i ∧ lo ≤ i ∧ i < lo + n := by
  unfold rngD at h
  obtain ⟨k, hk, rfl⟩ := List.mem_map.mp h
  have := List.mem_range.mp hk
  exact ⟨_, rfl, by omega, by omega⟩
def rootF : PyData → Option PyData
  | .int i => if rootB i then some (.int i) else none
  | _ => none
def roots25 : List PyData := [2, 3, 5, 6, 7, 8, 10, 11, 12, 13, 14, 15, 17, 18, 19, 20, 21, 22, 23, 24, 26, 27, 28, 29, 30].map PyData.int
theorem in4 (i : Int) : (List.any [PyData.int 4, PyData.int 9, PyData.int 16, PyData.int 25] fun b => PyData.eqv b (.int i)) = (decide (i = 4) || decide (i = 9) || decide (i = 16) || decide (i = 25)) := by
  have ev : ∀ j : Int, PyData.eqv (.int j) (.int i) = decide (i = j) := fun j => by rw [eqvI]; simp [eq_comm]
  simp only [List.any_cons, List.any_nil, ev, Bool.or_false, Bool.or_assoc]
theorem rd__law_root (h : spRootL ds μ Qd) : td__law_root { nx := fun _ μ' => Qd (.v .none) μ', rt := Qd } (startD ["_law_bag_here", "_law_some"] ds) μ := by
  obtain ⟨a, rfl, hb, q⟩ := h
  unfold td__law_root
  walk_at "rd"
  refine ⟨a, 2, rfl, by decide, by decide, hb, fun r0 μ1 h0 h1 s1 => ?_⟩
  walk_at "rd"
  by_cases hr : r0 = 0
  · rw [if_pos (by simpa using hr)]
    refine ⟨a, 3, rfl, by decide, by decide, s1.1, fun r1 μ2 h2 h3 s2 => ?_⟩
    walk_at "rd"
    obtain ⟨w, e, i, rfl, w0⟩ := pick (P := fun d => ∃ i : Int, d = .int i ∧ IsRoot i) (xs := [PyData.int 2, PyData.int 3, PyData.int 5]) h2 (by exact h3) (by
      intro x hx
      simp only [List.mem_cons, List.not_mem_nil, or_false] at hx
      rcases hx with rfl | rfl | rfl <;> exact ⟨_, rfl, by unfold IsRoot; omega⟩)
    rw [e]
    exact q _ _ w0 (s1.trans s2)
  · rw [if_neg (by simpa using hr)]
    refine ⟨⟨by decide, by decide, by decide, by decide⟩, by decide, fun p hp => ⟨fun i acc μ' => acc = ((rngD 2 29).take i).filterMap rootF ∧ μ' = muSet μ1 p acc, ⟨rfl, rfl⟩, ?_, ?_⟩⟩
    · rintro i x acc μ' hx hpa ⟨e0, e1⟩
      obtain ⟨k, rfl, i0, i1⟩ := mem_rng (List.mem_of_getElem? hx)
      refine ⟨trivial, rfl, rfl, by show 0 ≤ 60; decide, ?_⟩
      rw [in4]
      have i1' : k < 31 := by simpa using i1
      have e : rootF (.int k) = if rootB k then some (.int k) else none := rfl
      have e2 : rootB k = !(decide (k = 4) || decide (k = 9) || decide (k = 16) || decide (k = 25)) := by
        unfold rootB
        rw [decide_eq_true i0, decide_eq_true (show k ≤ 30 by omega)]
        rfl
      have ft : ((rngD 2 29).take (i + 1)).filterMap rootF = ((rngD 2 29).take i).filterMap rootF ++ (rootF (.int k)).toList := fmTake hx
      rw [e, e2] at ft
      cases hh : (decide (k = 4) || decide (k = 9) || decide (k = 16) || decide (k = 25))
      · rw [hh] at ft
        simp only [Bool.true_xor, Bool.not_false, ↓reduceIte] at ft ⊢
        refine ⟨hpa, ?_, ?_⟩
        · rw [ft, e0]; rfl
        · rw [e1, muSet_set]
      · rw [hh] at ft
        simp only [Bool.true_xor, Bool.not_true, ↓reduceIte, Bool.false_eq_true] at ft ⊢
        refine ⟨hpa, ?_, e1⟩
        rw [ft, e0]; simp
    rintro acc μ' ⟨e0, e1⟩ _
    have ed : muDel μ' p = μ1 := by rw [e1]; exact muDel_set hp
    rw [ed]
    have e0' : acc = roots25 := by rw [e0]; rfl
    rw [e0']
    refine ⟨a, 25, rfl, by decide, by decide, s1.1, fun r1 μ2 h2 h3 s2 => ?_⟩
    walk_at "rd"
    obtain ⟨w, e, i, rfl, w0⟩ := pick (P := fun d => ∃ i : Int, d = .int i ∧ IsRoot i) (xs := roots25) h2 (by exact h3) (by
      intro x hx
      unfold roots25 at hx
      obtain ⟨k, hk, rfl⟩ := List.mem_map.mp hx
      refine ⟨_, rfl, ?_⟩
      simp only [List.mem_cons, List.not_mem_nil, or_false] at hk
      unfold IsRoot
      omega)
    rw [e]
    exact q _ _ w0 (s1.trans s2)
def spAboveL : DSp := fun ds μ Q => ∃ (a : Addr) (d : Int), ds = [.m a, .v (.int d)] ∧ IsRoot d ∧ Bag μ a ∧ ∀ x μ', Ok x → Bd 20 x → sg d x.a x.b = 1 → Step a μ μ' → Q (.v (dN x)) μ'
theorem rd__law_above (h : spAboveL ds μ Qd) : td__law_above { nx := fun _ μ' => Qd (.v .none) μ', rt := Qd } (startD ["_law_bag_here", "_law_d", "_law_x", "_law_sign_here"] ds) μ := by
  obtain ⟨a, d, rfl, hd, hb, q⟩ := h
  unfold td__law_above
  walk_at "rd"
  refine ⟨a, rfl, hb, fun x μ1 ox bx s1 => ?_⟩
  walk_at "rd"
  refine ⟨d, x, rfl, hd, bx.mono (by decide), ?_⟩
  walk_at "rd"
  have t := sg_tri d x.a x.b
  by_cases h0 : sg d x.a x.b = 0
  · rw [if_pos (by simpa using h0)]
    refine ⟨a, 5, rfl, by decide, by decide, s1.1, fun r μ2 r0 r1 s2 => ?_⟩
    walk_at "rd"
    have ok : Ok ⟨1 + r, 0, 1⟩ := ⟨by show (0 : Int) < 1; decide, by unfold g3; simp⟩
    refine q ⟨1 + r, 0, 1⟩ μ2 ok ⟨sz20 (by show -1048576 < 1 + r; omega) (by show 1 + r < 1048576; omega), sz20 (by show -1048576 < (0 : Int); decide) (by show (0 : Int) < 1048576; decide), sz20 (by show -1048576 < (1 : Int); decide) (by show (1 : Int) < 1048576; decide)⟩ ?_ (s1.trans s2)
    show sg d (1 + r) 0 = 1
    unfold sg
    rw [if_neg (by omega), if_pos (by omega)]
  · rw [if_neg (by simpa using h0)]
    by_cases h1 : 0 < sg d x.a x.b
    · rw [if_pos (by simpa using h1)]
      exact q x μ1 ox bx (by omega) s1
    · rw [if_neg (by simpa using h1)]
      refine ⟨x, rfl, ?_⟩
      refine q (minus x) μ1 (ok_minus ox) (bd_minus bx) ?_ s1
      show sg d (-x.a) (-x.b) = 1
      rw [sg_neg hd]
      omega
end
open PySem PySem.Spec PyProof.Rows NM
section
variable {μ : Mu} {Q : DK} {ds : List D}
def spLaw : DSp := fun ds μ Q => ∃ ns : List Int, ds = [.s ns] ∧ ns.length ≤ 63 ∧ ∀ μ', Q (.v (.bool true)) μ'
theorem len_spWhole (h : spWhole ds μ Q) : ds.length = 1 := by obtain ⟨_, rfl, _⟩ := h; rfl
theorem len_spGcd (h : spGcd ds μ Q) : ds.length = 2 := by obtain ⟨_, _, rfl, _⟩ := h; rfl
theorem len_spDiv3 (h : spDiv3 ds μ Q) : ds.length = 3 := by obtain ⟨_, _, _, rfl, _⟩ := h; rfl
theorem len_spNumQ (h : spNumQ ds μ Q) : ds.length = 1 := by obtain ⟨_, rfl, _⟩ := h; rfl
theorem len_spNumber (h : spNumber ds μ Q) : ds.length = 3 := by obtain ⟨_, _, _, rfl, _⟩ := h; rfl
theorem len_spMate (h : spMate ds μ Q) : ds.length = 1 := by obtain ⟨_, rfl, _⟩ := h; rfl
theorem len_spMinus (h : spMinus ds μ Q) : ds.length = 1 := by obtain ⟨_, rfl, _⟩ := h; rfl
theorem len_spPlus (h : spPlus ds μ Q) : ds.length = 2 := by obtain ⟨_, _, rfl, _⟩ := h; rfl
theorem len_spTimes (h : spTimes ds μ Q) : ds.length = 3 := by obtain ⟨_, _, _, rfl, _⟩ := h; rfl
theorem len_spContrary (h : spContrary ds μ Q) : ds.length = 2 := by obtain ⟨_, _, rfl, _⟩ := h; rfl
theorem len_spSignP (h : spSignP ds μ Q) : ds.length = 3 := by obtain ⟨_, _, _, rfl, _⟩ := h; rfl
theorem len_spSign (h : spSign ds μ Q) : ds.length = 2 := by obtain ⟨_, _, rfl, _⟩ := h; rfl
theorem len_spBag (h : spBag ds μ Q) : ds.length = 2 := by obtain ⟨_, _, rfl, _⟩ := h; rfl
theorem len_spTake (h : spTake ds μ Q) : ds.length = 2 := by obtain ⟨_, _, rfl, _⟩ := h; rfl
theorem len_spNumberL (h : spNumberL ds μ Q) : ds.length = 1 := by obtain ⟨_, rfl, _⟩ := h; rfl
theorem len_spRootL (h : spRootL ds μ Q) : ds.length = 1 := by obtain ⟨_, rfl, _⟩ := h; rfl
theorem len_spAboveL (h : spAboveL ds μ Q) : ds.length = 2 := by obtain ⟨_, _, rfl, _⟩ := h; rfl
theorem len_spLaw (h : spLaw ds μ Q) : ds.length = 1 := by obtain ⟨_, rfl, _⟩ := h; rfl
end
def td__law_is_whole : DTS := td_is_whole
theorem rd__law_is_whole {μ Qd ds} (h : spWhole ds μ Qd) : td__law_is_whole { nx := fun _ μ' => Qd (.v .none) μ', rt := Qd } (startD ["_law_thing"] ds) μ := rd_is_whole h
structure TupC (K : PySem.W.Frag) (mg : Str → Option Value) (x : Str) (g : Addr) (a b c : Int) : Prop where
  m : mg x = some (.ref g)
  l : ∃ (od : Option Addr) (n : Nat) (sl : Array (Option Value)) (t u v : Tok), K.lookup g = some ⟨.type "tuple", od, .seq #[.int a t, .int b u, .int c v] n, sl⟩
theorem de_globT {X : Cx} {x : Str} {g : Addr} {a b c : Int} {pos : Pos} (hg : Gl X x) (h : TupC X.K X.mg x g a b c) (hd : (x == ("__debug__" : Str)) = false := by decide) : DE X (.Name x pos) (dC (.tuple [.int a, .int b, .int c])) := by
  obtain ⟨od, n, sl, t, u, v, e⟩ := h.l
  refine de_glob (u := .ref g) hg h.m rfl (fun μ H _ => Rp.tuple (xs := [.int a, .int b, .int c]) (.inr ⟨_, _, _, e, rfl, rfl, (by show 3 ≤ sizeLine; decide), .cons ⟨t, rfl⟩ (.cons ⟨u, rfl⟩ (.cons ⟨v, rfl⟩ .nil))⟩) (.cons (.int a) (.cons (.int b) (.cons (.int c) .nil)))) hd
theorem law_start {K : PySem.W.Frag} {H : Hp} {a : Addr} {ns : List Int} (hl : ns.length ≤ 63) (hS : SqL K H a (ns.map V.int)) : spD K spLaw [.ref a] H (fun v _ => v = .bl true) fun _ _ _ => False := by
  refine ⟨[.s ns], fun _ => none, fun d _ => d = .v (.bool true), fun a ds h => (by cases h), .cons ⟨a, rfl, hS, rfl⟩ .nil, ⟨ns, rfl, hl, fun _ => rfl⟩, fun d u μ' H' _ _ r q => ?_⟩
  subst q
  cases r
  rfl
open PySem PySem.Spec PyProof.Rows NM
section
variable {μ : Mu} {Q : DK} {ds : List D} {x y : N3}
theorem fold3 (a b c : Int) : PyData.tuple [.int a, .int b, .int c] = dN ⟨a, b, c⟩ := rfl
theorem q_ixN0 : rIxD (.v (dN x)) (.v (.int 0)) μ Q = Q (.v (.int x.a)) μ := by unfold dN; rw [q_ixT0]
theorem q_ixN1 : rIxD (.v (dN x)) (.v (.int 1)) μ Q = Q (.v (.int x.b)) μ := by unfold dN; rw [q_ixT1]
theorem q_ixN2 : rIxD (.v (dN x)) (.v (.int 2)) μ Q = Q (.v (.int x.c)) μ := by unfold dN; rw [q_ixT2]
theorem eqN : PyData.eqv (dN x) (dN y) = decide (x = y) := by
  unfold dN
  rw [eqv3, Bool.eq_iff_iff]
  simp only [decide_eq_true_eq]
  exact ⟨fun h => N3.ext' h.1 h.2.1 h.2.2, fun h => by subst h; exact ⟨rfl, rfl, rfl⟩⟩
theorem q_eqN {neg : Bool} : rEqD neg (.v (dN x)) (.v (dN y)) μ Q = Q (.v (.bool (neg ^^ decide (x = y)))) μ := by
  rw [q_eqD, eqN]
  exact propext ⟨fun h => h.2.2, fun h => ⟨rfl, rfl, h⟩⟩
theorem isNum_ok (h : Ok x) : isNum (dN x) = true := by
  have := h.c
  show (decide (1 ≤ x.c) && (g3 x.a x.b x.c == 1)) = true
  rw [h.g]
  simp; omega
theorem few_N : Few (dN x) := by simp [dN, Few]
theorem sg_low {d a b c : Int} (h : IsRoot d) (hc : 0 < c) : sg d (low a b c).a (low a b c).b = sg d a b := by
  obtain ⟨k, hk, hs, p1, p2, p3, _⟩ := low_spec a b (show c ≠ 0 by omega)
  have e := sg_scale (a := (low a b c).a) (b := (low a b c).b) h (hs.mpr hc)
  rw [← p1, ← p2] at e
  exact e.symm
theorem sg_times {d : Int} (h : IsRoot d) (ox : Ok x) (oy : Ok y) : sg d (times d x y).a (times d x y).b = sg d x.a x.b * sg d y.a y.b := by
  unfold times
  rw [sg_low h (Int.mul_pos ox.c oy.c), sg_mul h]
theorem rngAt {lo : Int} {n i : Nat} {x : PyData} (h : (rngD lo n)[i]? = some x) : x = .int (lo + i) ∧ i < n := by
  unfold rngD at h
  rw [List.getElem?_map] at h
  by_cases hi : i < n
  · rw [List.getElem?_range hi] at h
    cases h
    exact ⟨rfl, hi⟩
  · rw [List.getElem?_eq_none (by simpa using hi)] at h
    cases h
theorem rngLen {lo : Int} {n : Nat} : (rngD lo n).length = n := by unfold rngD; simp
end
open PySem PySem.Spec PyProof.Rows NM
local macro_rules | `(tactic| walk_at "rn") => `(tactic| simp only [↓q_var0, ↓q_var1, ↓q_var2, ↓q_var3, ↓q_var4, ↓q_var5, ↓q_var6, ↓q_var7, ↓q_var8, ↓q_var9, ↓q_var10, ↓q_c, ↓q_op, ↓q_B, ↓q_II, ↓q_I00, ↓q_neg, ↓q_andT, ↓q_orT, ↓q_notT, ↓q_andV, ↓q_orV, ↓q_notV, ↓q_if, ↓q_nil, ↓q_cons, ↓q_tup, ↓q_lst, ↓q_lstM, ↓q_asN, ↓q_asC, ↓q_eqI, ↓q_eqT, ↓q_eqL, ↓q_eqB, ↓q_inD, ↓q_ixL0, ↓q_ixL1, ↓q_ixL2, ↓q_ixT0, ↓q_ixT1, ↓q_ixT2, ↓q_ixT3, ↓q_ixL, ↓q_ixT, ↓q_ixM, ↓q_ixS, ↓q_cat, ↓q_catT, ↓q_addI, ↓q_addT, ↓q_addL, ↓q_addM, ↓q_sl, ↓q_noPart, ↓q_part, ↓q_slT, ↓q_slL, ↓q_rev, ↓q_cb, ↓q_lenL, ↓q_lenT, ↓q_lenS, ↓q_lenM, ↓q_abs, ↓q_2I, ↓q_intB, ↓q_intI, ↓q_listL, ↓q_listT, ↓q_all, ↓q_isi, ↓q_isB, ↓q_isN, ↓q_gName, ↓q_gNil, ↓q_gCons, ↓q_gTup, ↓q_gSub, ↓q_asg, ↓q_par, ↓q_next, ↓q_seq, ↓q_ret, ↓q_drop, ↓q_ifS, ↓q_never, ↓q_call, ↓q_app, ↓q_ext, ↓q_bits, ↓q_chain, ↓q_true, ↓q_diList, ↓q_diTup, ↓q_diRng1, ↓q_diRng2, ↓q_diZip, ↓q_tupOfL, ↓q_tupOfT, ↓q_tupOfM, ↓q_rep, zipD, ↓q_comp, ↓q_compI, q_capN, q_capC, q_leN, q_le0, q_le1, Option.bind_none, Option.bind_some, Option.join_some, List.getElem?_cons_zero, List.getElem?_cons_succ, startD, fold3, q_ixN0, q_ixN1, q_ixN2, q_eqN, lstOf, atI_0, atI_1, atI_2, atI_3, List.map, List.append, List.replicate, List.length_cons, List.length_nil, Nat.reduceAdd, Nat.reduceSub, List.nil_append, List.cons_append, List.set_cons_zero, List.set_cons_succ, Option.map_some, ↓reduceIte, Bool.not_true, Bool.not_false, Bool.false_eq_true, Bool.true_eq_false, Bool.xor_false, Bool.false_xor])
theorem q_var11 {a b c f g h k l m n n11} {o : Rho} : dVar 11 (a :: b :: c :: f :: g :: h :: k :: l :: m :: n :: n11 :: some d :: o) μ Q = Q d μ := propext Iff.rfl
theorem q_var12 {a b c f g h k l m n n11 n12} {o : Rho} : dVar 12 (a :: b :: c :: f :: g :: h :: k :: l :: m :: n :: n11 :: n12 :: some d :: o) μ Q = Q d μ := propext Iff.rfl
theorem q_var13 {a b c f g h k l m n n11 n12 n13} {o : Rho} : dVar 13 (a :: b :: c :: f :: g :: h :: k :: l :: m :: n :: n11 :: n12 :: n13 :: some d :: o) μ Q = Q d μ := propext Iff.rfl
theorem q_var14 {a b c f g h k l m n n11 n12 n13 n14} {o : Rho} : dVar 14 (a :: b :: c :: f :: g :: h :: k :: l :: m :: n :: n11 :: n12 :: n13 :: n14 :: some d :: o) μ Q = Q d μ := propext Iff.rfl
theorem q_pop {to : DTE} {ρ : Rho} {μ : Mu} {Q : DK} : dPop to ρ μ Q = to ρ μ fun x μ1 => match x with
  | .m l => (match μ1 l with
    | some xs => ∃ d, xs[xs.length - 1]? = some d ∧ Q (.v d) (muSet μ1 l xs.dropLast)
    | none => False)
  | _ => False := propext Iff.rfl
theorem q_popAt {to te : DTE} {ρ : Rho} {μ : Mu} {Q : DK} : dPopAt to te ρ μ Q = to ρ μ fun x μ1 => match x with
  | .m l => te ρ μ1 fun y μ2 => (match y, μ2 l with
    | .v (.int i), some xs => (0 ≤ i ∧ i < 1000) ∧ ∃ d, xs[i.toNat]? = some d ∧ Q (.v d) (muSet μ2 l (xs.eraseIdx i.toNat))
    | _, _ => False)
  | _ => False := propext Iff.rfl
theorem q_truM {to : DTE} {ρ : Rho} {μ : Mu} {Q : Bool → Mu → Prop} : dTruM to ρ μ Q = to ρ μ fun x μ1 => match x with
  | .m l => (match μ1 l with | some xs => Q (!xs.isEmpty) μ1 | none => False)
  | _ => False := propext Iff.rfl
theorem q_aug {i : Nat} {te : DTE} {Dd : DEnds} {ρ : Rho} {μ : Mu} : dAug i te Dd ρ μ = ∃ a : Int, ρ[i]? = some (some (.v (.int a))) ∧ te ρ μ fun y μ1 => match y with
  | .v (.int b) => Dd.nx (ρ.set i (some (.v (.int (a + b))))) μ1
  | _ => False := propext Iff.rfl
theorem q_min {ys : List PyData} {μ : Mu} {Q : DK} : rMinD [.v (.list ys)] μ Q = (match asInts ys with | some ns => 0 < ns.length ∧ ∀ M ∈ ns, (∀ a ∈ ns, M ≤ a) → Q (.v (.int M)) μ | none => False) := propext Iff.rfl
theorem q_max {ys : List PyData} {μ : Mu} {Q : DK} : rMaxD [.v (.list ys)] μ Q = (match asInts ys with | some ns => 0 < ns.length ∧ ∀ M ∈ ns, (∀ a ∈ ns, a ≤ M) → Q (.v (.int M)) μ | none => False) := propext Iff.rfl
theorem q_isNot {a b : Bool} {μ : Mu} {Q : DK} : rIsNotD (.v (.bool a)) (.v (.bool b)) μ Q = Q (.v (.bool (!(a == b)))) μ := propext Iff.rfl
def isStrD (s : Str) : PyData → Bool
  | .str x => decide (x = s)
  | _ => false
theorem eqv_str (x : PyData) (s : Str) : PyData.eqv x (.str s) = isStrD s x := by
  cases x <;> first | rfl | (simp [PyData.eqv, isStrD]; done) | (simp [PyData.eqv, isStrD]; rfl)
def intD : PyData → Int
  | .int i => i
  | _ => 0
structure Sh (t : PyData) : Prop where
  lay : t.canLay0 = true
  dep : t.depth ≤ 60
theorem Sh.shaped {t : PyData} (h : Sh t) : SeqAt.shaped t = true := by
  unfold SeqAt.shaped
  rw [h.lay, Bool.true_and, decide_eq_true_eq]
  have := h.dep; omega
theorem lay_mem : ∀ {xs : List PyData}, PyData.canLayAll0 xs = true → ∀ x ∈ xs, x.canLay0 = true
  | [], _, _, h => nomatch h
  | y :: r, e, x, h => by
    rw [PyData.canLayAll0, Bool.and_eq_true] at e
    rcases List.mem_cons.mp h with z | z
    · rw [z]; exact e.1
    · exact lay_mem e.2 x z
theorem depth_mem : ∀ {xs : List PyData} {n : Nat}, PyData.depthAll xs ≤ n → ∀ x ∈ xs, x.depth ≤ n
  | [], _, _, _, h => nomatch h
  | y :: r, n, e, x, h => by
    rw [PyData.depthAll] at e
    rcases List.mem_cons.mp h with z | z
    · rw [z]; omega
    · exact depth_mem (by omega) x z
theorem Sh.mem {xs : List PyData} (h : Sh (.tuple xs)) : ∀ x ∈ xs, Sh x := fun x hx => ⟨lay_mem (by have := h.lay; rw [PyData.canLay0] at this; exact this) x hx, by
  have := h.dep
  rw [PyData.depth] at this
  exact depth_mem (n := 60) (by omega) x hx⟩
theorem q_eqW {w : PyData} {s : Str} {neg : Bool} {μ : Mu} {Q : DK} (hw : SeqAt.shaped w = true) (hs : SeqAt.shaped (.str s) = true) : rEqD neg (.v w) (.v (.str s)) μ Q = Q (.v (.bool (neg ^^ isStrD s w))) μ := by
  rw [q_eqD, eqv_str]
  exact propext ⟨fun h => h.2.2, fun h => ⟨hw, hs, h⟩⟩
theorem s_sk : SeqAt.shaped (.str "kind") = true := by decide +kernel
theorem s_st : SeqAt.shaped (.str "turn") = true := by decide +kernel
theorem s_sg : SeqAt.shaped (.str "grid") = true := by decide +kernel
theorem s_su : SeqAt.shaped (.str "upon") = true := by decide +kernel
theorem s_sb : SeqAt.shaped (.str "beside") = true := by decide +kernel
def form2 (m : Int) (w x : PyData) : Option (List PyData) :=
  if isStrD "kind" w = true then (if (isWhole x && (decide (0 ≤ intD x) && decide (intD x < m))) = true then some [] else none)
  else if isStrD "turn" w = true then some [x]
  else if (isStrD "upon" w || isStrD "beside" w) = true then (match x with | .tuple xs => if 2 ≤ xs.length ∧ xs.length ≤ 8 then some xs else none | _ => none)
  else none
def form4 (w u v x : PyData) : Option (List PyData) :=
  if isStrD "grid" w = true then (if ((isWhole u && decide (1 ≤ intD u)) && (isWhole v && decide (1 ≤ intD v))) = true then some [x] else none) else none
def form (m : Int) : PyData → Option (List PyData)
  | .tuple [w, x] => form2 m w x
  | .tuple [w, u, v, x] => form4 w u v x
  | _ => none
def cnt (m : Int) : Nat → PyData → Nat
  | 0, _ => 0
  | n + 1, t => match form m t with
    | none => 0
    | some ps => if (ps.map (cnt m n)).all (fun c => decide (0 < c)) = true then 1 + (ps.map (cnt m n)).sum else 0
def okN (c : Nat) : Bool := decide (0 < c) && decide (c ≤ 60)
def spCount : DSp := fun ds μ Q => ∃ t, ds = [.v t] ∧ Q (.v (.bool (isWhole t && decide (1 ≤ intD t)))) μ
theorem len_spCount {μ : Mu} {Q : DK} {ds : List D} (h : spCount ds μ Q) : ds.length = 1 := by obtain ⟨_, rfl, _⟩ := h; rfl
def spForm : DSp := fun ds μ Q => ∃ (t : PyData) (m : Int), ds = [.v t, .v (.int m)] ∧ Sh t ∧ Q (.v (.bool (form m t).isSome)) μ
theorem len_spForm {μ : Mu} {Q : DK} {ds : List D} (h : spForm ds μ Q) : ds.length = 2 := by obtain ⟨_, _, rfl, _⟩ := h; rfl
def spParts : DSp := fun ds μ Q => ∃ (t : PyData) (m : Int) (ps : List PyData), ds = [.v t] ∧ Sh t ∧ form m t = some ps ∧ Q (.v (.list ps)) μ
theorem len_spParts {μ : Mu} {Q : DK} {ds : List D} (h : spParts ds μ Q) : ds.length = 1 := by obtain ⟨_, _, _, rfl, _⟩ := h; rfl
def spIsPlanP : DSp := fun ds μ Q => ∃ (t : PyData) (m : Int), ds = [.v t, .v (.int m)] ∧ Sh t ∧ ∀ μ', (∀ b ds, μ b = some ds → μ' b = some ds) → Q (.v (.bool (okN (cnt m 12 t)))) μ'
theorem len_spIsPlanP {μ : Mu} {Q : DK} {ds : List D} (h : spIsPlanP ds μ Q) : ds.length = 2 := by obtain ⟨_, _, rfl, _⟩ := h; rfl
theorem s_isS {x : Str} : isT "str" (.str x) = true := rfl
theorem s_isT {xs : List PyData} : isT "tuple" (.tuple xs) = true := rfl
theorem s_wh {u : Int} : isWhole (.int u) = true := rfl
theorem n_22l : decide (((2 : Nat) : Int) < 2) = false := rfl
theorem n_02l : decide (((0 : Nat) : Int) < 2) = true := rfl
theorem n_12l : decide (((1 : Nat) : Int) < 2) = true := rfl
theorem n_32l : decide (((3 : Nat) : Int) < 2) = false := rfl
theorem n_42l : decide (((4 : Nat) : Int) < 2) = false := rfl
theorem n_22 : decide (((2 : Nat) : Int) = 2) = true := rfl
theorem n_32 : decide (((3 : Nat) : Int) = 2) = false := rfl
theorem n_42 : decide (((4 : Nat) : Int) = 2) = false := rfl
theorem n_24 : decide (((2 : Nat) : Int) = 4) = false := rfl
theorem n_34 : decide (((3 : Nat) : Int) = 4) = false := rfl
theorem n_44 : decide (((4 : Nat) : Int) = 4) = true := rfl
theorem n_52l {n : Nat} : decide (((n + 1 + 1 + 1 + 1 + 1 : Nat) : Int) < 2) = false := decide_eq_false (by omega)
theorem n_52 {n : Nat} : decide (((n + 1 + 1 + 1 + 1 + 1 : Nat) : Int) = 2) = false := decide_eq_false (by omega)
theorem n_54 {n : Nat} : decide (((n + 1 + 1 + 1 + 1 + 1 : Nat) : Int) = 4) = false := decide_eq_false (by omega)
theorem n_deep {m : Nat} : decide (((m + 1 : Nat) : Int) = 0) = false := decide_eq_false (by omega)
theorem n_i0 {m : Nat} : decide ((0 : Int) ≤ (m : Int)) = true := decide_eq_true (by omega)
theorem t_tk : isStrD "kind" (.str "turn") = false := by decide
theorem t_uk : isStrD "kind" (.str "upon") = false := by decide
theorem t_bk : isStrD "kind" (.str "beside") = false := by decide
theorem t_gk : isStrD "kind" (.str "grid") = false := by decide
theorem t_kk : isStrD "kind" (.str "kind") = true := by decide
theorem t_uu : isStrD "upon" (.str "upon") = true := by decide
theorem t_bu : isStrD "upon" (.str "beside") = false := by decide
theorem t_tu : isStrD "upon" (.str "turn") = false := by decide
theorem t_gu : isStrD "upon" (.str "grid") = false := by decide
theorem t_bb : isStrD "beside" (.str "beside") = true := by decide
theorem t_tb : isStrD "beside" (.str "turn") = false := by decide
theorem t_gb : isStrD "beside" (.str "grid") = false := by decide
local macro_rules | `(tactic| walk_at "rt") => `(tactic| simp only [↓q_sum, ↓q_gdLst, ↓q_repT, asInts, s_isS, s_isT, s_wh, n_22l, n_02l, n_12l, n_32l, n_42l, n_22, n_32, n_42, n_24, n_34, n_44, n_52l, n_52, n_54, n_deep, n_i0, decide_true, decide_false, Bool.xor_true, Bool.true_xor, ↓q_var11, ↓q_var12, ↓q_var13, ↓q_var14, ↓q_pop, ↓q_popAt, ↓q_truM, ↓q_min, ↓q_max, ↓q_isNot, ↓q_var0, ↓q_var1, ↓q_var2, ↓q_var3, ↓q_var4, ↓q_var5, ↓q_var6, ↓q_var7, ↓q_var8, ↓q_var9, ↓q_var10, ↓q_c, ↓q_op, ↓q_B, ↓q_II, ↓q_I00, ↓q_neg, ↓q_andT, ↓q_orT, ↓q_notT, ↓q_andV, ↓q_orV, ↓q_notV, ↓q_if, ↓q_nil, ↓q_cons, ↓q_tup, ↓q_lst, ↓q_lstM, ↓q_asN, ↓q_asC, ↓q_eqI, ↓q_eqT, ↓q_eqL, ↓q_eqB, ↓q_inD, ↓q_ixL0, ↓q_ixL1, ↓q_ixL2, ↓q_ixT0, ↓q_ixT1, ↓q_ixT2, ↓q_ixT3, ↓q_ixL, ↓q_ixT, ↓q_ixM, ↓q_ixS, ↓q_cat, ↓q_catT, ↓q_addI, ↓q_addT, ↓q_addL, ↓q_addM, ↓q_sl, ↓q_noPart, ↓q_part, ↓q_slT, ↓q_slL, ↓q_rev, ↓q_cb, ↓q_lenL, ↓q_lenT, ↓q_lenS, ↓q_lenM, ↓q_abs, ↓q_2I, ↓q_intB, ↓q_intI, ↓q_listL, ↓q_listT, ↓q_all, ↓q_isi, ↓q_isB, ↓q_isN, ↓q_gName, ↓q_gNil, ↓q_gCons, ↓q_gTup, ↓q_gSub, ↓q_asg, ↓q_par, ↓q_next, ↓q_seq, ↓q_ret, ↓q_drop, ↓q_ifS, ↓q_never, ↓q_call, ↓q_app, ↓q_ext, ↓q_bits, ↓q_chain, ↓q_true, ↓q_diList, ↓q_diTup, ↓q_diRng1, ↓q_diRng2, ↓q_diZip, ↓q_tupOfL, ↓q_tupOfT, ↓q_tupOfM, ↓q_rep, zipD, ↓q_comp, ↓q_compI, q_capN, q_capC, q_leN, q_le0, q_le1, Option.bind_none, Option.bind_some, Option.join_some, List.getElem?_cons_zero, List.getElem?_cons_succ, startD, fold3, q_ixN0, q_ixN1, q_ixN2, q_eqN, lstOf, atI_0, atI_1, atI_2, atI_3, List.map, List.append, List.replicate, List.length_cons, List.length_nil, Nat.reduceAdd, Nat.reduceSub, List.nil_append, List.cons_append, List.set_cons_zero, List.set_cons_succ, Option.map_some, ↓reduceIte, Bool.not_true, Bool.not_false, Bool.false_eq_true, Bool.true_eq_false, Bool.xor_false, Bool.false_xor])
def td_is_count : DTS :=
  (dRet (dAndV (dCall spWhole (dCons (dVar 0) dNil)) (dOp rGe (dVar 0) (dC (.int 1)))))
def td_has_form : DTS :=
  (dSeq (dIfS (dOrT (dNotT (dB (dIsi "tuple" (dVar 0)))) (dB (dOp rLt (dCB rLenD (dCons (dVar 0) dNil)) (dC (.int 2))))) (dRet (dC (.bool false))) dNext)
  (dSeq (dAsg (dOp rIxD (dVar 0) (dC (.int 0))) (gdName 2))
  (dSeq (dIfS (dB (dOp (rEqD false) (dVar 2) (dC (.str "grid")))) (dRet (dAndV (dOp (rEqD false) (dCB rLenD (dCons (dVar 0) dNil)) (dC (.int 4))) (dAndV (dCall spCount (dCons (dOp rIxD (dVar 0) (dC (.int 1))) dNil)) (dCall spCount (dCons (dOp rIxD (dVar 0) (dC (.int 2))) dNil))))) dNext)
  (dSeq (dIfS (dB (dOp (rEqD true) (dCB rLenD (dCons (dVar 0) dNil)) (dC (.int 2)))) (dRet (dC (.bool false))) dNext)
  (dSeq (dIfS (dB (dOp (rEqD false) (dVar 2) (dC (.str "kind")))) (dRet (dAndV (dCall spWhole (dCons (dOp rIxD (dVar 0) (dC (.int 1))) dNil)) (dAndV (dOp rGe (dOp rIxD (dVar 0) (dC (.int 1))) (dC (.int 0))) (dOp rLt (dOp rIxD (dVar 0) (dC (.int 1))) (dVar 1))))) dNext)
  (dSeq (dIfS (dOrT (dB (dOp (rEqD false) (dVar 2) (dC (.str "upon")))) (dB (dOp (rEqD false) (dVar 2) (dC (.str "beside"))))) (dRet (dAndV (dIsi "tuple" (dOp rIxD (dVar 0) (dC (.int 1)))) (dAndV (dOp rGe (dCB rLenD (dCons (dOp rIxD (dVar 0) (dC (.int 1))) dNil)) (dC (.int 2))) (dOp rLe (dCB rLenD (dCons (dOp rIxD (dVar 0) (dC (.int 1))) dNil)) (dC (.int 8)))))) dNext)
  (dRet (dOp (rEqD false) (dVar 2) (dC (.str "turn"))))))))))
def td_parts_of : DTS :=
  (dSeq (dAsg (dOp rIxD (dVar 0) (dC (.int 0))) (gdName 1))
  (dSeq (dIfS (dB (dOp (rEqD false) (dVar 1) (dC (.str "kind")))) (dRet (dLst dNil)) dNext)
  (dSeq (dIfS (dOrT (dB (dOp (rEqD false) (dVar 1) (dC (.str "upon")))) (dB (dOp (rEqD false) (dVar 1) (dC (.str "beside"))))) (dRet (dCB rListD (dCons (dOp rIxD (dVar 0) (dC (.int 1))) dNil))) dNext)
  (dRet (dLst (dCons (dOp rIxD (dVar 0) (dNeg (dC (.int 1)))) dNil))))))
def td_is_plan : DTS :=
  (dSeq (dAsg (dLstM (dCons (dTup (dCons (dVar 0) (dCons (dC (.int 1)) dNil))) dNil)) (gdName 2))
  (dSeq (dAsg (dC (.int 0)) (gdName 3))
  (dSeq (dWhile (dTruM (dVar 2)) (dSeq (dAsg (dPop (dVar 2)) (gdTup 2 (gdCons (gdName 4) (gdCons (gdName 5) gdNil))))
  (dSeq (dAug 3 (dC (.int 1)))
  (dSeq (dIfS (dOrT (dB (dOp rGt (dVar 3) (dC (.int 60)))) (dOrT (dB (dOp rGt (dVar 5) (dC (.int 12)))) (dNotT (dB (dCall spForm (dCons (dVar 4) (dCons (dVar 1) dNil))))))) (dRet (dC (.bool false))) dNext)
  (dFor (diList (dCall spParts (dCons (dVar 4) dNil))) (gdName 6) (dDrop (dApp (dVar 2) (dTup (dCons (dVar 6) (dCons (dAdd (dVar 5) (dC (.int 1))) dNil))))))))))
  (dRet (dC (.bool true))))))
section
variable {μ : Mu} {Qd : DK} {ds : List D}
theorem whole_form {t : PyData} (h : isWhole t = true) : ∃ i, t = .int i := by
  cases t <;> first | exact ⟨_, rfl⟩ | (exfalso; exact Bool.false_ne_true h)
theorem rd_is_count (h : spCount ds μ Qd) : td_is_count { nx := fun _ μ' => Qd (.v .none) μ', rt := Qd } (startD ["thing"] ds) μ := by
  obtain ⟨t, rfl, q⟩ := h
  unfold td_is_count
  walk_at "rt"
  refine ⟨t, rfl, ?_⟩
  walk_at "rt"
  cases e : isWhole t with
  | true =>
    obtain ⟨i, rfl⟩ := whole_form e
    walk_at "rt"
    exact q
  | false =>
    rw [e] at q
    walk_at "rt"
    exact q
theorem str_of {s : Str} {w : PyData} (h : isStrD s w = true) : w = .str s := by
  cases w <;> first | (exfalso; exact Bool.false_ne_true h) | (rename_i x; have : x = s := of_decide_eq_true h; rw [this])
theorem f2_grid {m : Int} {x : PyData} : form2 m (.str "grid") x = none := by
  unfold form2
  rw [if_neg (by decide), if_neg (by decide), if_neg (by decide)]
def formU : PyData → Option (List PyData)
  | .tuple xs => if 2 ≤ xs.length ∧ xs.length ≤ 8 then some xs else none
  | _ => none
theorem f2_upon {m : Int} {x : PyData} : form2 m (.str "upon") x = formU x := by
  unfold form2
  rw [if_neg (by decide), if_neg (by decide), if_pos (by decide)]
  unfold formU
  cases x <;> rfl
theorem f2_beside {m : Int} {x : PyData} : form2 m (.str "beside") x = formU x := by
  unfold form2
  rw [if_neg (by decide), if_neg (by decide), if_pos (by decide)]
  unfold formU
  cases x <;> rfl
theorem mid_upon {x : PyData} (q' : Qd (.v (.bool (formU x).isSome)) μ) : if isT "tuple" x = true then
      rLenD [.v x] μ fun x_1 μ1 => rGe x_1 (.v (.int 2)) μ1 fun x_2 μ1 => match x_2 with
        | .v (.bool c) => if c = true then rLenD [.v x] μ1 fun x μ1 => rLe x (.v (.int 8)) μ1 Qd else Qd (.v (.bool false)) μ1
        | _ => False
    else Qd (.v (.bool false)) μ := by
  rcases isT_tup x with ⟨xs, rfl, e⟩ | ⟨hn, e⟩
  · rw [e]
    walk_at "rt"
    have q2 : Qd (.v (.bool (if 2 ≤ xs.length ∧ xs.length ≤ 8 then some xs else none).isSome)) μ := q'
    by_cases c1 : 2 ≤ xs.length
    · rw [decide_eq_true (by omega : (2 : Int) ≤ (xs.length : Nat))]
      simp only [↓reduceIte]
      by_cases c2 : xs.length ≤ 8
      · rw [decide_eq_true (by omega : ((xs.length : Nat) : Int) ≤ 8)]
        rw [if_pos ⟨c1, c2⟩] at q2
        exact q2
      · rw [decide_eq_false (by omega : ¬ ((xs.length : Nat) : Int) ≤ 8)]
        rw [if_neg (fun z => c2 z.2)] at q2
        exact q2
    · rw [decide_eq_false (by omega : ¬ (2 : Int) ≤ (xs.length : Nat))]
      simp only [Bool.false_eq_true, ↓reduceIte]
      rw [if_neg (fun z => c1 z.1)] at q2
      exact q2
  · rw [e]
    have : formU x = none := by cases x <;> first | rfl | exact absurd rfl (hn _)
    rw [this] at q'
    simp only [Bool.false_eq_true, ↓reduceIte]
    exact q'
theorem rd_has_form (h : spForm ds μ Qd) : td_has_form { nx := fun _ μ' => Qd (.v .none) μ', rt := Qd } (startD ["thing", "many", "word"] ds) μ := by
  obtain ⟨t, m, rfl, hs, q⟩ := h
  unfold td_has_form
  rcases isT_tup t with ⟨xs, rfl, e⟩ | ⟨hn, e⟩
  · have hw := hs.mem
    rcases xs with _ | ⟨w, _ | ⟨x, _ | ⟨y, _ | ⟨z, _ | ⟨r, rs⟩⟩⟩⟩⟩
    · walk_at "rt"; exact q
    · walk_at "rt"; exact q
    · have sw := (hw w (by simp)).shaped
      have q' : Qd (.v (.bool (form2 m w x).isSome)) μ := q
      walk_at "rt"
      simp only [q_eqW sw s_sg, q_eqW sw s_sk, q_eqW sw s_su, q_eqW sw s_sb, q_eqW sw s_st, Bool.false_xor]
      cases e1 : isStrD "grid" w with
      | true =>
        have ew := str_of e1
        subst ew
        rw [f2_grid] at q'
        exact q'
      | false =>
        simp only [Bool.false_eq_true, ↓reduceIte]
        cases e2 : isStrD "kind" w with
        | true =>
          unfold form2 at q'
          rw [if_pos e2] at q'
          refine ⟨x, rfl, ?_⟩
          cases ex : isWhole x with
          | true =>
            obtain ⟨i, rfl⟩ := whole_form ex
            walk_at "rt"
            have q2 : Qd (.v (.bool (if (true && (decide (0 ≤ i) && decide (i < m))) = true then some ([] : List PyData) else none).isSome)) μ := q'
            by_cases c1 : 0 ≤ i
            · rw [decide_eq_true c1] at q2 ⊢
              simp only [Bool.true_and, ↓reduceIte] at q2 ⊢
              cases c2 : decide (i < m) <;> rw [c2] at q2 <;> exact q2
            · rw [decide_eq_false c1] at q2 ⊢
              simp only [Bool.true_and, Bool.false_and, Bool.false_eq_true, ↓reduceIte] at q2 ⊢
              exact q2
          | false =>
            rw [ex] at q'
            walk_at "rt"
            exact q'
        | false =>
          simp only [Bool.false_eq_true, ↓reduceIte]
          cases e3 : isStrD "upon" w with
          | true =>
            have ew := str_of e3
            subst ew
            rw [f2_upon] at q'
            simp only [↓reduceIte]
            exact mid_upon q'
          | false =>
            simp only [Bool.false_eq_true, ↓reduceIte]
            cases e4 : isStrD "beside" w with
            | true =>
              have ew := str_of e4
              subst ew
              rw [f2_beside] at q'
              simp only [↓reduceIte]
              exact mid_upon q'
            | false =>
              simp only [Bool.false_eq_true, ↓reduceIte]
              unfold form2 at q'
              rw [if_neg (by rw [e2]; decide), e3, e4] at q'
              cases e5 : isStrD "turn" w with
              | true => rw [if_pos e5] at q'; exact q'
              | false => rw [if_neg (by rw [e5]; decide), if_neg (by decide)] at q'; exact q'
    · have sw := (hw w (by simp)).shaped
      walk_at "rt"
      simp only [q_eqW sw s_sg, Bool.false_xor]
      cases e1 : isStrD "grid" w <;> exact q
    · have sw := (hw w (by simp)).shaped
      have q' : Qd (.v (.bool (form4 w x y z).isSome)) μ := q
      walk_at "rt"
      simp only [q_eqW sw s_sg, Bool.false_xor]
      unfold form4 at q'
      cases e1 : isStrD "grid" w with
      | true =>
        rw [if_pos e1] at q'
        simp only [↓reduceIte]
        refine ⟨x, rfl, ?_⟩
        cases c1 : (isWhole x && decide (1 ≤ intD x)) with
        | true =>
          walk_at "rt"
          refine ⟨y, rfl, ?_⟩
          rw [c1] at q'
          cases c2 : (isWhole y && decide (1 ≤ intD y)) <;> rw [c2] at q' <;> exact q'
        | false =>
          rw [c1] at q'
          walk_at "rt"
          exact q'
      | false => rw [if_neg (by rw [e1]; decide)] at q'; exact q'
    · have sw := (hw w (by simp)).shaped
      walk_at "rt"
      simp only [q_eqW sw s_sg, Bool.false_xor]
      cases e1 : isStrD "grid" w <;> exact q
  · walk_at "rt"
    rw [e]
    walk_at "rt"
    have : form m t = none := by cases t <;> first | rfl | exact absurd rfl (hn _)
    rw [this] at q
    exact q
theorem form_cases {m : Int} {t : PyData} {ps : List PyData} (h : form m t = some ps) : (∃ x, t = .tuple [.str "kind", x] ∧ ps = []) ∨ (∃ x, t = .tuple [.str "turn", x] ∧ ps = [x]) ∨ ((∃ xs, t = .tuple [.str "upon", .tuple xs] ∧ ps = xs ∧ 2 ≤ xs.length ∧ xs.length ≤ 8) ∨ (∃ xs, t = .tuple [.str "beside", .tuple xs] ∧ ps = xs ∧ 2 ≤ xs.length ∧ xs.length ≤ 8)) ∨ (∃ u v x, t = .tuple [.str "grid", u, v, x] ∧ ps = [x]) := by
  unfold form at h
  split at h
  · rename_i w x
    unfold form2 at h
    split at h
    · rename_i e
      rw [str_of e]
      split at h
      · cases h; exact .inl ⟨x, rfl, rfl⟩
      · cases h
    · split at h
      · rename_i e
        rw [str_of e]
        cases h; exact .inr (.inl ⟨x, rfl, rfl⟩)
      · split at h
        · rename_i e
          have hx : ∃ xs, x = .tuple xs ∧ (2 ≤ xs.length ∧ xs.length ≤ 8) ∧ ps = xs := by
            split at h
            · rename_i xs
              split at h
              · rename_i c; cases h; exact ⟨_, rfl, c, rfl⟩
              · cases h
            · cases h
          obtain ⟨xs, rfl, c, rfl⟩ := hx
          rw [Bool.or_eq_true] at e
          rcases e with e | e
          · rw [str_of e]; exact .inr (.inr (.inl (.inl ⟨_, rfl, rfl, c.1, c.2⟩)))
          · rw [str_of e]; exact .inr (.inr (.inl (.inr ⟨_, rfl, rfl, c.1, c.2⟩)))
        · cases h
  · rename_i w u v x
    unfold form4 at h
    split at h
    · rename_i e
      rw [str_of e]
      split at h
      · cases h; exact .inr (.inr (.inr ⟨u, v, x, rfl, rfl⟩))
      · cases h
    · cases h
  · cases h
theorem form_sh {m : Int} {t : PyData} {ps : List PyData} (h : form m t = some ps) (hs : Sh t) : (∀ p ∈ ps, Sh p) ∧ ps.length ≤ 8 := by
  rcases form_cases h with ⟨x, rfl, rfl⟩ | ⟨x, rfl, rfl⟩ | (⟨xs, rfl, rfl, c1, c2⟩ | ⟨xs, rfl, rfl, c1, c2⟩) | ⟨u, v, x, rfl, rfl⟩
  · exact ⟨fun _ z => (nomatch z), by simp⟩
  · exact ⟨fun p z => by rw [List.mem_singleton.mp z]; exact hs.mem x (by simp), by simp⟩
  · exact ⟨(hs.mem (.tuple ps) (by simp)).mem, c2⟩
  · exact ⟨(hs.mem (.tuple ps) (by simp)).mem, c2⟩
  · exact ⟨fun p z => by rw [List.mem_singleton.mp z]; exact hs.mem x (by simp), by simp⟩
theorem rd_parts_of (h : spParts ds μ Qd) : td_parts_of { nx := fun _ μ' => Qd (.v .none) μ', rt := Qd } (startD ["plan", "word"] ds) μ := by
  obtain ⟨t, m, ps, rfl, hs, hf, q⟩ := h
  unfold td_parts_of
  rcases form_cases hf with ⟨x, rfl, rfl⟩ | ⟨x, rfl, rfl⟩ | (⟨xs, rfl, rfl, c1, c2⟩ | ⟨xs, rfl, rfl, c1, c2⟩) | ⟨u, v, x, rfl, rfl⟩
  · walk_at "rt"
    simp only [q_eqW s_sk s_sk, q_eqW s_sk s_su, q_eqW s_sk s_sb, t_kk, Bool.false_xor, ↓reduceIte]
    exact q
  · walk_at "rt"
    simp only [q_eqW s_st s_sk, q_eqW s_st s_su, q_eqW s_st s_sb, t_tk, t_tu, t_tb, Bool.false_xor, Bool.false_eq_true, ↓reduceIte]
    exact q
  · walk_at "rt"
    simp only [q_eqW s_su s_sk, q_eqW s_su s_su, q_eqW s_su s_sb, t_uk, t_uu, Bool.false_xor, Bool.false_eq_true, ↓reduceIte]
    exact q
  · walk_at "rt"
    simp only [q_eqW s_sb s_sk, q_eqW s_sb s_su, q_eqW s_sb s_sb, t_bk, t_bu, t_bb, Bool.false_xor, Bool.false_eq_true, ↓reduceIte]
    exact q
  · walk_at "rt"
    simp only [q_eqW s_sg s_sk, q_eqW s_sg s_su, q_eqW s_sg s_sb, t_gk, t_gu, t_gb, Bool.false_xor, Bool.false_eq_true, ↓reduceIte]
    exact q
def ent (e : PyData × Nat) : PyData := .tuple [e.1, .int (e.2 : Nat)]
def wt (m : Int) (e : PyData × Nat) : Nat := cnt m (13 - e.2) e.1
def Good (m : Int) (S : List (PyData × Nat)) (c : Nat) : Prop := (∀ e ∈ S, 0 < wt m e) ∧ c + (S.map (wt m)).sum ≤ 60
theorem sum_app (xs ys : List Nat) : (xs ++ ys).sum = xs.sum + ys.sum := List.sum_append
theorem good_pos {m : Int} {L : List (PyData × Nat)} {e : PyData × Nat} {c : Nat} (h : Good m (L ++ [e]) c) : 0 < wt m e ∧ c + 1 ≤ 60 := by
  have p := h.1 e (by simp)
  have s := h.2
  rw [List.map_append, sum_app] at s
  simp only [List.map_cons, List.map_nil, List.sum_cons, List.sum_nil] at s
  exact ⟨p, by omega⟩
theorem cnt_none {m : Int} {n : Nat} {t : PyData} (h : form m t = none) : cnt m n t = 0 := by
  cases n with
  | zero => rfl
  | succ n => simp only [cnt, h]
theorem cnt_some {m : Int} {n : Nat} {t : PyData} {ps : List PyData} (h : form m t = some ps) : cnt m (n + 1) t = if (ps.map (cnt m n)).all (fun c => decide (0 < c)) = true then 1 + (ps.map (cnt m n)).sum else 0 := by
  simp only [cnt, h]
theorem good_step {m : Int} {L : List (PyData × Nat)} {t : PyData} {d c : Nat} {ps : List PyData} (hd : d ≤ 12) (hf : form m t = some ps) : Good m (L ++ ps.map (fun p => (p, d + 1))) (c + 1) ↔ Good m (L ++ [(t, d)]) c := by
  obtain ⟨n, hn⟩ : ∃ n, 13 - d = n + 1 := ⟨12 - d, by omega⟩
  have e1 : wt m (t, d) = if (ps.map (cnt m n)).all (fun c => decide (0 < c)) = true then 1 + (ps.map (cnt m n)).sum else 0 := by
    show cnt m (13 - d) t = _
    rw [hn, cnt_some hf]
  have e2 : ∀ p, wt m (p, d + 1) = cnt m n p := fun p => by show cnt m (13 - (d + 1)) p = _; congr 1; omega
  have e3 : (ps.map (fun p => (p, d + 1))).map (wt m) = ps.map (cnt m n) := by
    rw [List.map_map]; exact List.map_congr_left fun p _ => e2 p
  unfold Good
  rw [List.map_append, List.map_append, sum_app, sum_app, e3]
  simp only [List.map_cons, List.map_nil, List.sum_cons, List.sum_nil, Nat.add_zero]
  rw [e1]
  by_cases ha : (ps.map (cnt m n)).all (fun c => decide (0 < c)) = true
  · rw [if_pos ha]
    have hp : ∀ p ∈ ps, 0 < cnt m n p := fun p hp => by
      have := List.all_eq_true.mp ha (cnt m n p) (List.mem_map_of_mem hp)
      exact of_decide_eq_true this
    constructor
    · rintro ⟨h1, h2⟩
      refine ⟨fun e he => ?_, by omega⟩
      rcases List.mem_append.mp he with z | z
      · exact h1 e (List.mem_append_left _ z)
      · rw [List.mem_singleton.mp z, e1, if_pos ha]; omega
    · rintro ⟨h1, h2⟩
      refine ⟨fun e he => ?_, by omega⟩
      rcases List.mem_append.mp he with z | z
      · exact h1 e (List.mem_append_left _ z)
      · obtain ⟨p, hp', rfl⟩ := List.mem_map.mp z
        rw [e2]; exact hp p hp'
  · rw [if_neg ha]
    constructor
    · rintro ⟨h1, h2⟩
      exfalso
      apply ha
      rw [List.all_eq_true]
      intro x hx
      obtain ⟨p, hp', rfl⟩ := List.mem_map.mp hx
      have := h1 (p, d + 1) (List.mem_append_right _ (List.mem_map_of_mem hp'))
      rw [e2] at this
      exact decide_eq_true this
    · rintro ⟨h1, h2⟩
      exfalso
      have := h1 (t, d) (by simp)
      rw [e1, if_neg ha] at this
      omega
theorem good_start {m : Int} {t : PyData} : Good m [(t, 1)] 0 ↔ okN (cnt m 12 t) = true := by
  unfold Good okN
  have : wt m (t, 1) = cnt m 12 t := rfl
  simp only [List.mem_singleton, forall_eq, List.map_cons, List.map_nil, List.sum_cons, List.sum_nil, this, Bool.and_eq_true, decide_eq_true_eq]
  omega
theorem rd_is_plan (h : spIsPlanP ds μ Qd) : td_is_plan { nx := fun _ μ' => Qd (.v .none) μ', rt := Qd } (startD ["thing", "many", "waiting", "counted", "plan", "depth", "part"] ds) μ := by
  obtain ⟨t, m, rfl, hs, q⟩ := h
  unfold td_is_plan
  walk_at "rt"
  intro pw hpw
  rw [q_while]
  refine ⟨fun k ρ μ' => ∃ (S : List (PyData × Nat)) (c : Nat) (r4 r5 r6 : Option D), ρ = [some (.v t), some (.v (.int m)), some (.m pw), some (.v (.int c)), r4, r5, r6] ∧ μ' pw = some (S.map ent) ∧ (∀ b ds, b ≠ pw → μ b = some ds → μ' b = some ds) ∧ (∀ e ∈ S, Sh e.1) ∧ S.length ≤ 1 + 8 * c ∧ c ≤ 60 ∧ k = 61 - c ∧ (Good m S c ↔ okN (cnt m 12 t) = true),
    ⟨61, [(t, 1)], 0, none, none, none, rfl, muSet_same, fun b ds hb e => by rw [muSet_ne hb]; exact e, fun e he => by rw [List.mem_singleton.mp he]; exact hs, by simp, by omega, rfl, good_start⟩, ?_⟩
  rintro k ρ μ' ⟨S, c, r4, r5, r6, rfl, hm, hk, hS, hl, hc, rfl, hg⟩
  have keep : ∀ b ds, μ b = some ds → μ' b = some ds := fun b ds e => hk b ds (fun z => by rw [z, hpw] at e; cases e) e
  walk_at "rt"
  rw [hm]
  rcases List.eq_nil_or_concat S with rfl | ⟨L, e, rfl⟩
  · have : okN (cnt m 12 t) = true := hg.mp ⟨fun _ z => (nomatch z), by simpa using hc⟩
    have q' := q μ' keep
    rw [this] at q'
    exact q'
  · obtain ⟨t', d⟩ := e
    rw [List.concat_eq_append] at hm hS hl hg
    have nok : ¬ Good m (L ++ [(t', d)]) c → okN (cnt m 12 t) = false := fun h => by
      cases z : okN (cnt m 12 t) with
      | true => exact absurd (hg.mpr z) h
      | false => rfl
    have hemp : (List.map ent (L ++ [(t', d)])).isEmpty = false := by simp
    rw [List.concat_eq_append]
    dsimp only
    rw [hemp]
    simp only [Bool.not_false, ↓reduceIte]
    have hkw : ∀ b ds, μ b = some ds → muSet μ' pw (List.map ent L) b = some ds := fun b ds e => by
      have hb : b ≠ pw := fun z => by rw [z, hpw] at e; cases e
      rw [muSet_ne hb]; exact hk b ds hb e
    refine ⟨ent (t', d), by simp, ?_⟩
    have edl : (List.map ent (L ++ [(t', d)])).dropLast = List.map ent L := by simp
    rw [edl]
    show gdTup 2 (gdCons (gdName 4) (gdCons (gdName 5) gdNil)) (.v (.tuple [t', .int (d : Nat)])) _ _ _
    have q0 : okN (cnt m 12 t) = false → Qd (.v (.bool false)) (muSet μ' pw (List.map ent L)) := fun z => by
      have := q _ hkw
      rw [z] at this
      exact this
    have st' : Sh t' := hS (t', d) (by simp)
    walk_at "rt"
    refine ⟨trivial, ?_⟩
    rw [q_aug]
    refine ⟨c, rfl, ?_⟩
    walk_at "rt"
    by_cases c1 : 60 < (c : Int) + 1
    · rw [if_pos (by simpa using c1)]
      exact q0 (nok fun g => by have := good_pos g; omega)
    · rw [if_neg (by simpa using c1)]
      by_cases c2 : 12 < (d : Int)
      · rw [if_pos (by simpa using c2)]
        refine q0 (nok fun g => ?_)
        have h0 : wt m (t', d) = 0 := by show cnt m (13 - d) t' = 0; rw [show 13 - d = 0 by omega]; rfl
        have := good_pos g; omega
      · rw [if_neg (by simpa using c2)]
        refine ⟨t', m, rfl, st', ?_⟩
        walk_at "rt"
        cases hf : form m t' with
        | none =>
          simp only [Option.isSome_none, Bool.not_false, ↓reduceIte]
          refine q0 (nok fun g => ?_)
          have h0 : wt m (t', d) = 0 := cnt_none hf
          have := good_pos g; omega
        | some ps =>
          simp only [Option.isSome_some, Bool.not_true, Bool.false_eq_true, ↓reduceIte]
          obtain ⟨hps, lps⟩ := form_sh hf st'
          rw [q_for]
          walk_at "rt"
          refine ⟨t', m, ps, rfl, st', hf, ?_⟩
          rw [List.length_append, List.length_singleton] at hl
          refine ⟨fun i ρ μ2 => ∃ r6, ρ = [some (.v t), some (.v (.int m)), some (.m pw), some (.v (.int ((c : Int) + 1))), some (.v t'), some (.v (.int (d : Nat))), r6] ∧ μ2 pw = some (List.map ent (L ++ (ps.take i).map (fun p => (p, d + 1)))) ∧ ∀ b, b ≠ pw → μ2 b = μ' b, ⟨_, rfl, by rw [muSet_same]; simp, fun b hb => muSet_ne hb⟩, ?_, ?_⟩
          · rintro i x ρ μ2 hx ⟨r6, rfl, hm2, hk2⟩
            have hi : i < ps.length := by
              rcases Nat.lt_or_ge i ps.length with z | z
              · exact z
              · rw [List.getElem?_eq_none z] at hx; cases hx
            walk_at "rt"
            simp only [hm2]
            refine ⟨?_, _, rfl, ?_, fun b hb => by rw [muSet_ne hb]; exact hk2 b hb⟩
            · rw [List.length_map, List.length_append, List.length_map, List.length_take]; omega
            · rw [muSet_same, List.take_succ, hx]
              simp [ent]
          · rintro ρ μ2 ⟨r6, rfl, hm2, hk2⟩
            rw [List.take_length] at hm2
            refine ⟨61 - (c + 1), by omega, L ++ ps.map (fun p => (p, d + 1)), c + 1, _, _, _, rfl, hm2, fun b ds hb e => by rw [hk2 b hb]; exact hk b ds hb e, fun e he => ?_, ?_, by omega, rfl, (good_step (by omega) hf).trans hg⟩
            · rcases List.mem_append.mp he with z | z
              · exact hS e (List.mem_append_left _ z)
              · obtain ⟨p, hp, rfl⟩ := List.mem_map.mp z
                exact hps p hp
            · rw [List.length_append, List.length_map]; omega
end
open PySem PySem.Spec PyProof.Rows NM
def spPlansIn (n : Nat) : DSp := fun ds μ Q => ∃ (t : PyData) (m : Int) (deep : Nat), ds = [.v t, .v (.int m), .v (.int deep)] ∧ deep < n ∧ Sh t ∧ ∀ μ', (∀ b ds, μ b = some ds → μ' b = some ds) → Q (.v (.int (cnt m deep t))) μ'
theorem len_spPlansIn {n : Nat} {μ : Mu} {Q : DK} {ds : List D} (h : spPlansIn n ds μ Q) : ds.length = 3 := by obtain ⟨_, _, _, rfl, _⟩ := h; rfl
theorem spPlansIn0 {μ : Mu} {Q : DK} {ds : List D} (h : spPlansIn 0 ds μ Q) : False := by obtain ⟨_, _, _, _, h, _⟩ := h; omega
def spIsAPlan : DSp := fun ds μ Q => ∃ (t : PyData) (m : Int), ds = [.v t, .v (.int m)] ∧ Sh t ∧ ∀ μ', (∀ b ds, μ b = some ds → μ' b = some ds) → Q (.v (.bool (okN (cnt m 12 t)))) μ'
theorem len_spIsAPlan {μ : Mu} {Q : DK} {ds : List D} (h : spIsAPlan ds μ Q) : ds.length = 2 := by obtain ⟨_, _, rfl, _⟩ := h; rfl
def spGrid : DSp := fun ds μ Q => ∃ a : Addr, ds = [.m a] ∧ Bag μ a ∧ ∀ g μ', 1 ≤ g → g ≤ 1000000 → Step a μ μ' → Q (.v (.int g)) μ'
theorem len_spGrid {μ : Mu} {Q : DK} {ds : List D} (h : spGrid ds μ Q) : ds.length = 1 := by obtain ⟨_, rfl, _⟩ := h; rfl
theorem eqv_str' (s : Str) (x : PyData) : PyData.eqv (.str s) x = isStrD s x := by
  cases x with
  | str y =>
    have e : PyData.eqv (.str s) (.str y) = decide (s = y) := by simp [PyData.eqv]; rfl
    rw [e]
    show decide (s = y) = decide (y = s)
    rw [Bool.eq_iff_iff, decide_eq_true_eq, decide_eq_true_eq]
    exact eq_comm
  | _ => first | rfl | simp [PyData.eqv, isStrD]
theorem c_ub : PyData.canLayAll0 [.str "upon", .str "beside"] = true := by decide +kernel
theorem t_ut : isStrD "turn" (.str "upon") = false := by decide
theorem t_bt : isStrD "turn" (.str "beside") = false := by decide
theorem t_gt : isStrD "turn" (.str "grid") = false := by decide
theorem t_tt : isStrD "turn" (.str "turn") = true := by decide
theorem t_ug : isStrD "grid" (.str "upon") = false := by decide
theorem t_bg : isStrD "grid" (.str "beside") = false := by decide
theorem t_gg : isStrD "grid" (.str "grid") = true := by decide
def tot (cs : List Nat) : Nat := if cs = [] then 0 else if cs.all (fun c => decide (0 < c)) = true then 1 + cs.sum else 0
def td__law_plans_in_t (n : Nat) : DTS :=
  (dSeq (dAsg (dCompI [none, some 1, some 2] (diList (dVar 5)) (gdName 0) dTrue (dCall (spPlansIn n) (dCons (dVar 0) (dCons (dVar 1) (dCons (dSub (dVar 2) (dC (.int 1))) dNil))))) (gdName 6))
  (dSeq (dIfS (dOrT (dB (dOp (rEqD false) (dVar 6) (dLst dNil))) (dB (dOp (rEqD false) (dCB rMinD (dCons (dVar 6) dNil)) (dC (.int 0))))) (dRet (dC (.int 0))) dNext)
  (dRet (dAdd (dC (.int 1)) (dCB rSumD (dCons (dVar 6) dNil))))))
def td__law_plans_in (n : Nat) : DTS :=
  (dSeq (dIfS (dOrT (dB (dOp (rEqD false) (dVar 2) (dC (.int 0)))) (dOrT (dNotT (dB (dIsi "tuple" (dVar 0)))) (dB (dOp rLt (dCB rLenD (dCons (dVar 0) dNil)) (dC (.int 2)))))) (dRet (dC (.int 0))) dNext)
  (dSeq (dPar 3 4 (dCons (dOp rIxD (dVar 0) (dC (.int 0))) (dCons (dCB rLenD (dCons (dVar 0) dNil)) dNil)))
  (dSeq (dIfS (dB (dOp (rEqD false) (dVar 3) (dC (.str "kind")))) (dRet (dCB rIntD (dCons (dAndV (dOp (rEqD false) (dVar 4) (dC (.int 2))) (dAndV (dCall spWhole (dCons (dOp rIxD (dVar 0) (dC (.int 1))) dNil)) (dChain rLe rLt (dC (.int 0)) (dOp rIxD (dVar 0) (dC (.int 1))) (dVar 1)))) dNil))) dNext)
  (dSeq (dAsg (dLst dNil) (gdName 5))
  (dSeq (dIfS (dAndT (dB (dOp (rEqD false) (dVar 3) (dC (.str "turn")))) (dB (dOp (rEqD false) (dVar 4) (dC (.int 2))))) (dAsg (dLst (dCons (dOp rIxD (dVar 0) (dC (.int 1))) dNil)) (gdName 5)) (dIfS (dAndT (dB (dOp (rInD false) (dVar 3) (dLst (dCons (dC (.str "upon")) (dCons (dC (.str "beside")) dNil))))) (dAndT (dB (dOp (rEqD false) (dVar 4) (dC (.int 2)))) (dB (dIsi "tuple" (dOp rIxD (dVar 0) (dC (.int 1))))))) (dAsg (dIf (dB (dChain rLe rLe (dC (.int 2)) (dCB rLenD (dCons (dOp rIxD (dVar 0) (dC (.int 1))) dNil)) (dC (.int 8)))) (dCB rListD (dCons (dOp rIxD (dVar 0) (dC (.int 1))) dNil)) (dLst dNil)) (gdName 5)) (dIfS (dAndT (dB (dOp (rEqD false) (dVar 3) (dC (.str "grid")))) (dAndT (dB (dOp (rEqD false) (dVar 4) (dC (.int 4)))) (dB (dCB rAllD (dCons (dComp [none] (diTup (dSl (dVar 0) (dPart (dC (.int 1))) (dPart (dC (.int 3))))) (gdName 0) dTrue (dAndV (dCall spWhole (dCons (dVar 0) dNil)) (dOp rGt (dVar 0) (dC (.int 0))))) dNil))))) (dAsg (dLst (dCons (dOp rIxD (dVar 0) (dC (.int 3))) dNil)) (gdName 5)) dNext)))
  (td__law_plans_in_t n))))))
def td__law_is_a_plan : DTS :=
  (dRet (dChain rLt rLe (dC (.int 0)) (dCall (spPlansIn 31) (dCons (dVar 0) (dCons (dVar 1) (dCons (dC (.int 12)) dNil)))) (dC (.int 60))))
def td__law_grid_size : DTS :=
  (dRet (dAdd (dC (.int 1)) (dCall spTake (dCons (dVar 0) (dCons (dOp rIxD (dLst (dCons (dC (.int 2)) (dCons (dC (.int 3)) (dCons (dC (.int 5)) (dCons (dC (.int 3)) (dCons (dC (.int 2)) (dCons (dC (.int 9)) (dCons (dC (.int 4)) (dCons (dPow (dC (.int 10)) (dC (.int 6))) dNil))))))))) (dCall spTake (dCons (dVar 0) (dCons (dC (.int 8)) dNil)))) dNil)))))
section
variable {μ : Mu} {Qd : DK} {ds : List D}
theorem ints_as (cs : List Nat) : asInts (cs.map fun (c : Nat) => PyData.int (c : Int)) = some (cs.map fun (c : Nat) => (c : Int)) := by
  induction cs with
  | nil => rfl
  | cons c r ih => simp only [List.map_cons, asInts, ih, Option.map_some]
theorem sum_cast (cs : List Nat) : (cs.map fun (c : Nat) => (c : Int)).sum = ((cs.sum : Nat) : Int) := by
  induction cs with
  | nil => rfl
  | cons c r ih => simp only [List.map_cons, List.sum_cons, ih]; omega
theorem min_zero {cs : List Nat} {M : Int} (h1 : M ∈ cs.map fun (c : Nat) => (c : Int)) (h2 : ∀ a ∈ cs.map fun (c : Nat) => (c : Int), M ≤ a) : M = 0 ↔ cs.all (fun c => decide (0 < c)) = false := by
  obtain ⟨c, hc, rfl⟩ := List.mem_map.mp h1
  constructor
  · intro z
    rw [Bool.eq_false_iff]
    intro ha
    have := List.all_eq_true.mp ha c hc
    have := of_decide_eq_true this
    omega
  · intro hf
    have : ∃ x ∈ cs, ¬ 0 < x := by
      rcases Classical.em (∃ x ∈ cs, ¬ 0 < x) with z | z
      · exact z
      · exfalso
        rw [Bool.eq_false_iff] at hf
        apply hf
        rw [List.all_eq_true]
        intro x hx
        rcases Nat.lt_or_ge 0 x with w | w
        · exact decide_eq_true w
        · exact absurd ⟨x, hx, by omega⟩ z
    obtain ⟨x, hx, hx0⟩ := this
    have := h2 (x : Int) (List.mem_map_of_mem hx)
    omega
theorem shaped_ints (cs : List Nat) : SeqAt.shaped (.list (cs.map fun (c : Nat) => PyData.int (c : Int))) = true := by
  have h1 : PyData.canLayAll0 (cs.map fun (c : Nat) => PyData.int (c : Int)) = true := by
    induction cs with
    | nil => rfl
    | cons c r ih => simp only [List.map_cons, PyData.canLayAll0, PyData.canLay0, ih, Bool.and_true]
  have h2 : PyData.depthAll (cs.map fun (c : Nat) => PyData.int (c : Int)) = 0 := by
    induction cs with
    | nil => rfl
    | cons c r ih => simp only [List.map_cons, PyData.depthAll, PyData.depth, PyData.canLayAll0, PyData.canLay0, Bool.and_eq_true] at *; rw [ih (by simpa [PyData.canLayAll0, PyData.canLay0] using h1)]; rfl
  unfold SeqAt.shaped
  rw [PyData.canLay0, h1, PyData.depth, h2]
  rfl
theorem rd_plans_t {n k : Nat} {t w s : D} {m : Int} {ps : List PyData} {r6 : Option D} {Dd : DEnds} (hk : k < n) (hps : ∀ p ∈ ps, Sh p) (lps : ps.length ≤ 8)
    (q : ∀ μ', (∀ b ds, μ b = some ds → μ' b = some ds) → Dd.rt (.v (.int (tot (ps.map (cnt m k))))) μ') :
    td__law_plans_in_t n Dd [some t, some (.v (.int m)), some (.v (.int ((k + 1 : Nat) : Int))), some w, some s, some (.v (.list ps)), r6] μ := by
  unfold td__law_plans_in_t
  walk_at "rt"
  refine ⟨by omega, fun a ha => ⟨fun i acc μ' => acc = ((ps.take i).map fun p => PyData.int (cnt m k p : Nat)) ∧ ∀ b ds, b ≠ a → μ b = some ds → μ' b = some ds, ⟨by simp, fun b ds hb e => by rw [muSet_ne hb]; exact e⟩, ?_, ?_⟩⟩
  · rintro i x acc μ' hx hacc ⟨rfl, hk'⟩
    refine ⟨⟨trivial, trivial, trivial⟩, x, m, k, ?_, hk, hps x (List.mem_of_getElem? hx), fun μ4 h4 => ⟨h4 _ _ hacc, ?_, fun b ds hb e => by rw [muSet_ne hb]; exact h4 b ds (hk' b ds hb e)⟩⟩
    · congr 1; congr 1; congr 1; congr 1; congr 1; omega
    · rw [List.take_succ, hx]; simp
  · rintro acc μ' ⟨rfl, hk'⟩ hacc
    have q' := q (muDel μ' a) fun b ds e => by
      have hb : b ≠ a := fun z => by rw [z, ha] at e; cases e
      rw [muDel_ne hb]; exact hk' b ds hb e
    rw [List.take_length]
    have em : (ps.map fun p => PyData.int (cnt m k p : Nat)) = (ps.map (cnt m k)).map fun (c : Nat) => PyData.int (c : Int) := by rw [List.map_map]; rfl
    rw [em]
    generalize ps.map (cnt m k) = cs at q'
    refine ⟨shaped_ints cs, rfl, ?_⟩
    cases cs with
    | nil => exact q'
    | cons c r =>
      have e0 : PyData.eqv (.list ((c :: r).map fun (c : Nat) => PyData.int (c : Int))) (.list []) = false := by simp [PyData.eqv, PyData.eqvAll]
      rw [e0, ints_as]
      simp only [Bool.false_eq_true, ↓reduceIte]
      refine ⟨by simp, fun M h1 h2 => ?_⟩
      have hz := min_zero h1 h2
      have q2 : Dd.rt (.v (.int ((if (c :: r).all (fun c => decide (0 < c)) = true then 1 + (c :: r).sum else 0 : Nat) : Int))) (muDel μ' a) := q'
      cases ea : (c :: r).all (fun c => decide (0 < c)) with
      | true =>
        rw [if_pos ea] at q2
        rw [decide_eq_false (fun z => by rw [hz, ea] at z; cases z)]
        simp only [Bool.false_eq_true, ↓reduceIte]
        rw [sum_cast]
        have e1 : (1 : Int) + (((c :: r).sum : Nat) : Int) = ((1 + (c :: r).sum : Nat) : Int) := by omega
        rw [e1]
        exact q2
      | false =>
        rw [if_neg (by rw [ea]; decide)] at q2
        rw [decide_eq_true (hz.mpr ea)]
        exact q2
theorem cnt_of {m : Int} {k : Nat} {t : PyData} {ps : List PyData} (h : form m t = some ps) (hne : ps ≠ []) : cnt m (k + 1) t = tot (ps.map (cnt m k)) := by
  rw [cnt_some h]
  unfold tot
  rw [if_neg (fun z => hne (List.map_eq_nil_iff.mp z))]
theorem rd__law_plans_in (n : Nat) (h : spPlansIn (n + 1) ds μ Qd) : td__law_plans_in n { nx := fun _ μ' => Qd (.v .none) μ', rt := Qd } (startD ["_law_thing", "_law_many", "_law_deep", "_law_word", "_law_size", "_law_parts", "_law_counts"] ds) μ := by
  obtain ⟨t, m, deep, rfl, hn, hs, q⟩ := h
  unfold td__law_plans_in
  cases deep with
  | zero =>
    walk_at "rt"
    exact q μ fun _ _ e => e
  | succ k =>
    have q0 : form m t = none → Qd (.v (.int 0)) μ := fun z => by
      have := q μ fun _ _ e => e
      rw [cnt_none z] at this
      exact this
    have kn : k < n := by omega
    have tail0 : ∀ {w s : D} {r6 : Option D}, form m t = none → td__law_plans_in_t n { nx := fun _ μ' => Qd (.v .none) μ', rt := Qd } [some (.v t), some (.v (.int m)), some (.v (.int ((k + 1 : Nat) : Int))), some w, some s, some (.v (.list [])), r6] μ := fun {w s r6} z =>
      rd_plans_t kn (fun _ z => (nomatch z)) (by simp) fun μ' h => by
        have := q μ' h
        rw [cnt_none z] at this
        exact this
    have tail1 : ∀ {w s : D} {r6 : Option D} {ps : List PyData}, form m t = some ps → ps ≠ [] → td__law_plans_in_t n { nx := fun _ μ' => Qd (.v .none) μ', rt := Qd } [some (.v t), some (.v (.int m)), some (.v (.int ((k + 1 : Nat) : Int))), some w, some s, some (.v (.list ps)), r6] μ := fun {w s r6 ps} z hne =>
      rd_plans_t kn (form_sh z hs).1 (form_sh z hs).2 fun μ' h => by
        have := q μ' h
        rw [cnt_of z hne] at this
        exact this
    rcases isT_tup t with ⟨xs, rfl, e⟩ | ⟨hn', e⟩
    · have hw := hs.mem
      rcases xs with _ | ⟨w, _ | ⟨x, _ | ⟨y, _ | ⟨z, _ | ⟨r, rs⟩⟩⟩⟩⟩
      · walk_at "rt"; exact q0 rfl
      · walk_at "rt"; exact q0 rfl
      · have sw := hw w (by simp)
        walk_at "rt"
        simp only [q_eqW sw.shaped s_sk, q_eqW sw.shaped s_st, q_eqW sw.shaped s_sg, Bool.false_xor]
        have f0 : form m (.tuple [w, x]) = form2 m w x := rfl
        have eany : ([PyData.str "upon", .str "beside"].any fun b => PyData.eqv b w) = (isStrD "upon" w || isStrD "beside" w) := by simp only [List.any_cons, List.any_nil, eqv_str', Bool.or_false]
        cases e1 : isStrD "kind" w with
        | true =>
          simp only [↓reduceIte]
          have f1 : form2 m w x = if (isWhole x && (decide (0 ≤ intD x) && decide (intD x < m))) = true then some [] else none := by unfold form2; rw [if_pos e1]
          have qk := q μ fun _ _ e => e
          refine ⟨x, rfl, ?_⟩
          cases ex : isWhole x with
          | true =>
            obtain ⟨i, rfl⟩ := whole_form ex
            have f2 : form2 m w (.int i) = if (decide (0 ≤ i) && decide (i < m)) = true then some [] else none := f1
            walk_at "rt"
            by_cases c1 : 0 ≤ i
            · rw [decide_eq_true c1] at f2 ⊢
              simp only [Bool.true_and, ↓reduceIte] at f2 ⊢
              by_cases c2 : i < m
              · rw [decide_eq_true c2] at f2 ⊢
                rw [cnt_some (f0.trans f2)] at qk
                exact qk
              · rw [decide_eq_false c2] at f2 ⊢
                exact q0 (f0.trans f2)
            · rw [decide_eq_false c1] at f2 ⊢
              simp only [Bool.false_and, Bool.false_eq_true, ↓reduceIte] at f2 ⊢
              exact q0 (f0.trans f2)
          | false =>
            walk_at "rt"
            exact q0 (by rw [f0, f1, ex]; rfl)
        | false =>
          simp only [Bool.false_eq_true, ↓reduceIte]
          cases e2 : isStrD "turn" w with
          | true =>
            simp only [↓reduceIte]
            exact tail1 (by rw [f0]; unfold form2; rw [if_neg (by rw [e1]; decide), if_pos e2]) (by simp)
          | false =>
            simp only [Bool.false_eq_true, ↓reduceIte]
            refine ⟨c_ub, sw.lay, sw.dep, ?_⟩
            rw [eany]
            have f3 : form2 m w x = if (isStrD "upon" w || isStrD "beside" w) = true then formU x else none := by
              unfold form2
              rw [if_neg (by rw [e1]; decide), if_neg (by rw [e2]; decide)]
              unfold formU
              cases x <;> rfl
            cases e3 : (isStrD "upon" w || isStrD "beside" w) with
            | true =>
              rw [e3] at f3
              simp only [↓reduceIte] at f3 ⊢
              rcases isT_tup x with ⟨xs, rfl, et⟩ | ⟨hx, et⟩
              · rw [et]
                walk_at "rt"
                have f4 : form2 m w (.tuple xs) = if 2 ≤ xs.length ∧ xs.length ≤ 8 then some xs else none := f3
                by_cases c1 : 2 ≤ xs.length
                · rw [decide_eq_true (by omega : (2 : Int) ≤ (xs.length : Nat))]
                  simp only [↓reduceIte]
                  by_cases c2 : xs.length ≤ 8
                  · rw [decide_eq_true (by omega : ((xs.length : Nat) : Int) ≤ 8)]
                    simp only [↓reduceIte]
                    exact tail1 (by rw [f0, f4, if_pos ⟨c1, c2⟩]) (fun z => by rw [z] at c1; simp at c1)
                  · rw [decide_eq_false (by omega : ¬ ((xs.length : Nat) : Int) ≤ 8)]
                    simp only [Bool.false_eq_true, ↓reduceIte]
                    exact tail0 (by rw [f0, f4, if_neg (fun z => c2 z.2)])
                · rw [decide_eq_false (by omega : ¬ (2 : Int) ≤ (xs.length : Nat))]
                  simp only [Bool.false_eq_true, ↓reduceIte]
                  exact tail0 (by rw [f0, f4, if_neg (fun z => c1 z.1)])
              · rw [et]
                simp only [Bool.false_eq_true, ↓reduceIte]
                have fn : form m (.tuple [w, x]) = none := by rw [f0, f3]; cases x <;> first | rfl | exact absurd rfl (hx _)
                cases isStrD "grid" w <;> exact tail0 fn
            | false =>
              rw [e3] at f3
              simp only [Bool.false_eq_true, ↓reduceIte] at f3 ⊢
              cases isStrD "grid" w <;> exact tail0 (f0.trans f3)
      · have sw := hw w (by simp)
        walk_at "rt"
        simp only [q_eqW sw.shaped s_sk, q_eqW sw.shaped s_st, q_eqW sw.shaped s_sg, Bool.false_xor]
        cases e1 : isStrD "kind" w with
        | true => simp only [↓reduceIte]; exact q0 rfl
        | false =>
          simp only [Bool.false_eq_true, ↓reduceIte]
          cases e2 : isStrD "turn" w <;> simp only [Bool.false_eq_true, ↓reduceIte] <;> refine ⟨c_ub, sw.lay, sw.dep, ?_⟩ <;> split <;> (try cases isStrD "grid" w) <;> exact tail0 rfl
      · have sw := hw w (by simp)
        walk_at "rt"
        simp only [q_eqW sw.shaped s_sk, q_eqW sw.shaped s_st, q_eqW sw.shaped s_sg, Bool.false_xor]
        have f0 : form m (.tuple [w, x, y, z]) = form4 w x y z := rfl
        cases eg : isStrD "grid" w with
        | true =>
          have ew := str_of eg
          subst ew
          have f1 : form4 (.str "grid") x y z = if ((isWhole x && decide (1 ≤ intD x)) && (isWhole y && decide (1 ≤ intD y))) = true then some [z] else none := by unfold form4; rw [if_pos t_gg]
          have eany : ([PyData.str "upon", .str "beside"].any fun b => PyData.eqv b (.str "grid")) = false := by simp only [List.any_cons, List.any_nil, eqv_str', t_gu, t_gb, Bool.or_false]
          simp only [t_gk, t_gt, Bool.false_eq_true, ↓reduceIte]
          refine ⟨c_ub, sw.lay, sw.dep, ?_⟩
          rw [eany]
          simp only [Bool.false_eq_true, ↓reduceIte]
          have ec : cutP [PyData.str "grid", x, y, z] (some 1) (some 3) = [x, y] := rfl
          rw [ec]
          refine ⟨(by show 2 ≤ 1000; decide), fun t => some (.bool (isWhole t && decide (1 ≤ intD t))), fun t ht μ' _ => ⟨trivial, t, rfl, ?_⟩, ?_⟩
          · cases et : isWhole t with
            | true =>
              obtain ⟨i, rfl⟩ := whole_form et
              walk_at "rt"
              refine ⟨trivial, ?_⟩
              have : decide (0 < i) = decide (1 ≤ i) := by rw [Bool.eq_iff_iff, decide_eq_true_eq, decide_eq_true_eq]; omega
              rw [this]
              rfl
            | false =>
              walk_at "rt"
              exact ⟨trivial, by rw [et]; rfl⟩
          · rw [fm_some (fun t => PyData.bool (isWhole t && decide (1 ≤ intD t))), asBools_map]
            simp only [List.map_cons, List.map_nil, List.all_cons, List.all_nil, id, Bool.and_true]
            cases ea : ((isWhole x && decide (1 ≤ intD x)) && (isWhole y && decide (1 ≤ intD y))) with
            | true =>
              rw [ea] at f1
              simp only [↓reduceIte]
              exact tail1 (f0.trans f1) (by simp)
            | false =>
              rw [ea] at f1
              simp only [Bool.false_eq_true, ↓reduceIte]
              exact tail0 (f0.trans f1)
        | false =>
          have f1 : form m (.tuple [w, x, y, z]) = none := by rw [f0]; unfold form4; rw [if_neg (by rw [eg]; decide)]
          cases e1 : isStrD "kind" w with
          | true => simp only [↓reduceIte]; exact q0 f1
          | false =>
            simp only [Bool.false_eq_true, ↓reduceIte]
            cases e2 : isStrD "turn" w <;> simp only [Bool.false_eq_true, ↓reduceIte] <;> refine ⟨c_ub, sw.lay, sw.dep, ?_⟩ <;> split <;> exact tail0 f1
      · have sw := hw w (by simp)
        walk_at "rt"
        simp only [q_eqW sw.shaped s_sk, q_eqW sw.shaped s_st, q_eqW sw.shaped s_sg, Bool.false_xor]
        cases e1 : isStrD "kind" w with
        | true => simp only [↓reduceIte]; exact q0 rfl
        | false =>
          simp only [Bool.false_eq_true, ↓reduceIte]
          cases e2 : isStrD "turn" w <;> simp only [Bool.false_eq_true, ↓reduceIte] <;> refine ⟨c_ub, sw.lay, sw.dep, ?_⟩ <;> split <;> (try cases isStrD "grid" w) <;> exact tail0 rfl
    · walk_at "rt"
      rw [e]
      walk_at "rt"
      exact q0 (by cases t <;> first | rfl | exact absurd rfl (hn' _))
theorem rd__law_is_a_plan (h : spIsAPlan ds μ Qd) : td__law_is_a_plan { nx := fun _ μ' => Qd (.v .none) μ', rt := Qd } (startD ["_law_thing", "_law_many"] ds) μ := by
  obtain ⟨t, m, rfl, hs, q⟩ := h
  unfold td__law_is_a_plan
  walk_at "rt"
  refine ⟨t, m, 12, rfl, by decide, hs, fun μ' h => ?_⟩
  have q' := q μ' h
  unfold okN at q'
  walk_at "rt"
  generalize cnt m 12 t = c at q'
  by_cases c1 : 0 < c
  · rw [decide_eq_true (by omega : (0 : Int) < (c : Int))]
    rw [decide_eq_true c1, Bool.true_and] at q'
    simp only [↓reduceIte]
    have : decide ((c : Int) ≤ 60) = decide (c ≤ 60) := by rw [Bool.eq_iff_iff, decide_eq_true_eq, decide_eq_true_eq]; omega
    rw [this]
    exact q'
  · rw [decide_eq_false (by omega : ¬ (0 : Int) < (c : Int))]
    rw [decide_eq_false c1, Bool.false_and] at q'
    exact q'
theorem rd__law_grid_size (h : spGrid ds μ Qd) : td__law_grid_size { nx := fun _ μ' => Qd (.v .none) μ', rt := Qd } (startD ["_law_bag_here"] ds) μ := by
  obtain ⟨a, rfl, hb, q⟩ := h
  unfold td__law_grid_size
  walk_at "rt"
  refine ⟨⟨by decide, by decide, by decide⟩, a, 8, rfl, by decide, by decide, hb, fun r μ1 r0 r1 s1 => ?_⟩
  have e6 : (10 : Int) ^ Int.toNat 6 = 1000000 := by decide
  rw [e6]
  obtain ⟨_, e1, w, rfl, w0, w1⟩ := pick (P := fun v => ∃ w : Int, v = .int w ∧ 1 ≤ w ∧ w ≤ 1000000) (xs := [.int 2, .int 3, .int 5, .int 3, .int 2, .int 9, .int 4, .int 1000000]) r0 (by exact r1) (by
    intro v hv
    simp only [List.mem_cons, List.not_mem_nil, or_false] at hv
    rcases hv with rfl | rfl | rfl | rfl | rfl | rfl | rfl | rfl <;> exact ⟨_, rfl, by decide, by decide⟩)
  walk_at "rt"
  rw [e1]
  refine ⟨a, w, rfl, by omega, by omega, s1.1, fun u μ2 u0 u1 s2 => ?_⟩
  walk_at "rt"
  exact q _ μ2 (by omega) (by omega) (s1.trans s2)
end
open PySem PySem.Spec PyProof.Rows NM
inductive IsP (m : Int) : Nat → Nat → PyData → Prop
  | kind (i : Int) : 0 ≤ i → i < m → IsP m 1 1 (.tuple [.str "kind", .int i])
  | turn {d c : Nat} {t : PyData} : IsP m d c t → IsP m (d + 1) (c + 1) (.tuple [.str "turn", t])
  | grid {d c : Nat} {t : PyData} (u v : Int) : 1 ≤ u → 1 ≤ v → u ≤ 1000000 → v ≤ 1000000 → IsP m d c t → IsP m (d + 1) (c + 1) (.tuple [.str "grid", .int u, .int v, t])
  | upon {d : Nat} (es : List (Nat × Nat × PyData)) : 2 ≤ es.length → es.length ≤ 8 → (∀ e ∈ es, e.1 ≤ d) → (∀ e ∈ es, IsP m e.1 e.2.1 e.2.2) → IsP m (d + 1) ((es.map (·.2.1)).sum + 1) (.tuple [.str "upon", .tuple (es.map (·.2.2))])
  | beside {d : Nat} (es : List (Nat × Nat × PyData)) : 2 ≤ es.length → es.length ≤ 8 → (∀ e ∈ es, e.1 ≤ d) → (∀ e ∈ es, IsP m e.1 e.2.1 e.2.2) → IsP m (d + 1) ((es.map (·.2.1)).sum + 1) (.tuple [.str "beside", .tuple (es.map (·.2.2))])
structure Lt (n : Nat) (t : PyData) : Prop where
  lay : t.canLay0 = true
  dep : t.depth ≤ n
theorem Lt.sh {n : Nat} {t : PyData} (h : Lt n t) (hn : n ≤ 60) : Sh t := ⟨h.lay, Nat.le_trans h.dep hn⟩
theorem Lt.mono {n k : Nat} {t : PyData} (h : Lt n t) (hn : n ≤ k) : Lt k t := ⟨h.lay, Nat.le_trans h.dep hn⟩
theorem lay_all {xs : List PyData} (h : ∀ x ∈ xs, x.canLay0 = true) : PyData.canLayAll0 xs = true := by
  induction xs with
  | nil => rfl
  | cons x r ih => rw [PyData.canLayAll0, h x (by simp), ih (fun y hy => h y (by simp [hy]))]; rfl
theorem depth_all {xs : List PyData} {n : Nat} (h : ∀ x ∈ xs, x.depth ≤ n) : PyData.depthAll xs ≤ n := by
  induction xs with
  | nil => exact Nat.zero_le _
  | cons x r ih =>
    rw [PyData.depthAll]
    have h1 := h x (by simp)
    have h2 := ih (fun y hy => h y (by simp [hy]))
    omega
theorem lt_tup {xs : List PyData} {n : Nat} (h : ∀ x ∈ xs, Lt n x) : Lt (n + 1) (.tuple xs) :=
  ⟨by rw [PyData.canLay0]; exact lay_all fun x hx => (h x hx).lay, by rw [PyData.depth]; have := depth_all (n := n) fun x hx => (h x hx).dep; omega⟩
theorem lt_int {n : Nat} {i : Int} : Lt n (.int i) := ⟨rfl, Nat.zero_le _⟩
theorem lt_k {n : Nat} : Lt n (.str "kind") := ⟨by decide +kernel, Nat.zero_le _⟩
theorem lt_t {n : Nat} : Lt n (.str "turn") := ⟨by decide +kernel, Nat.zero_le _⟩
theorem lt_g {n : Nat} : Lt n (.str "grid") := ⟨by decide +kernel, Nat.zero_le _⟩
theorem lt_u {n : Nat} : Lt n (.str "upon") := ⟨by decide +kernel, Nat.zero_le _⟩
theorem lt_b {n : Nat} : Lt n (.str "beside") := ⟨by decide +kernel, Nat.zero_le _⟩
theorem all2 {P : PyData → Prop} {a b : PyData} (ha : P a) (hb : P b) : ∀ x ∈ [a, b], P x := fun x hx => by
  simp only [List.mem_cons, List.not_mem_nil, or_false] at hx
  rcases hx with rfl | rfl <;> assumption
theorem all4 {P : PyData → Prop} {a b c d : PyData} (ha : P a) (hb : P b) (hc : P c) (hd : P d) : ∀ x ∈ [a, b, c, d], P x := fun x hx => by
  simp only [List.mem_cons, List.not_mem_nil, or_false] at hx
  rcases hx with rfl | rfl | rfl | rfl <;> assumption
theorem IsP.pos {m : Int} {d c : Nat} {t : PyData} (h : IsP m d c t) : 1 ≤ d ∧ 1 ≤ c := by cases h <;> exact ⟨by omega, by omega⟩
theorem IsP.lt {m : Int} {d c : Nat} {t : PyData} (h : IsP m d c t) : Lt (2 * d) t := by
  induction h with
  | kind i h0 h1 => exact (lt_tup (n := 0) (all2 lt_k lt_int)).mono (by omega)
  | turn _ ih => exact (lt_tup (all2 lt_t ih)).mono (by omega)
  | grid u v _ _ _ _ _ ih => exact (lt_tup (all4 lt_g lt_int lt_int ih)).mono (by omega)
  | @upon d es _ _ hd _ ih => exact (lt_tup (all2 lt_u (lt_tup (n := 2 * d) fun x hx => by obtain ⟨e, he, rfl⟩ := List.mem_map.mp hx; exact (ih e he).mono (by have := hd e he; omega)))).mono (by omega)
  | @beside d es _ _ hd _ ih => exact (lt_tup (all2 lt_b (lt_tup (n := 2 * d) fun x hx => by obtain ⟨e, he, rfl⟩ := List.mem_map.mp hx; exact (ih e he).mono (by have := hd e he; omega)))).mono (by omega)
theorem form_many {m : Int} {w : Str} {xs : List PyData} (hw : w = "upon" ∨ w = "beside") (h2 : 2 ≤ xs.length) (h8 : xs.length ≤ 8) : form m (.tuple [.str w, .tuple xs]) = some xs := by
  rcases hw with rfl | rfl
  · show form2 m (.str "upon") (.tuple xs) = _
    rw [f2_upon]
    show (if 2 ≤ xs.length ∧ xs.length ≤ 8 then some xs else none) = some xs
    rw [if_pos ⟨h2, h8⟩]
  · show form2 m (.str "beside") (.tuple xs) = _
    rw [f2_beside]
    show (if 2 ≤ xs.length ∧ xs.length ≤ 8 then some xs else none) = some xs
    rw [if_pos ⟨h2, h8⟩]
theorem cnt_many {m : Int} {n : Nat} {t : PyData} {es : List (Nat × Nat × PyData)} (hf : form m t = some (es.map (·.2.2))) (h : ∀ e ∈ es, cnt m n e.2.2 = e.2.1 ∧ 1 ≤ e.2.1) : cnt m (n + 1) t = (es.map (·.2.1)).sum + 1 := by
  have e1 : (es.map (·.2.2)).map (cnt m n) = es.map (·.2.1) := by rw [List.map_map]; exact List.map_congr_left fun e he => (h e he).1
  rw [cnt_some hf, e1, if_pos, Nat.add_comm]
  rw [List.all_eq_true]
  intro x hx
  obtain ⟨e, he, rfl⟩ := List.mem_map.mp hx
  exact decide_eq_true (h e he).2
theorem IsP.cnt {m : Int} {d c : Nat} {t : PyData} (h : IsP m d c t) : ∀ n, d ≤ n → cnt m n t = c := by
  induction h with
  | kind i h0 h1 =>
    intro n hn
    obtain ⟨k, rfl⟩ : ∃ k, n = k + 1 := ⟨n - 1, by omega⟩
    have hf : form m (.tuple [.str "kind", .int i]) = some [] := by
      show form2 m (.str "kind") (.int i) = _
      unfold form2
      rw [if_pos t_kk, if_pos]
      show (true && (decide (0 ≤ i) && decide (i < m))) = true
      rw [decide_eq_true h0, decide_eq_true h1]; rfl
    rw [cnt_some hf]; rfl
  | @turn d c t hh ih =>
    intro n hn
    obtain ⟨k, rfl⟩ : ∃ k, n = k + 1 := ⟨n - 1, by omega⟩
    have hf : form m (.tuple [.str "turn", t]) = some [t] := by
      show form2 m (.str "turn") t = _
      unfold form2
      rw [if_neg (by rw [t_tk]; decide), if_pos t_tt]
    have := cnt_many (n := k) (es := [(d, c, t)]) hf fun e he => by rw [List.mem_singleton.mp he]; exact ⟨ih k (by omega), hh.pos.2⟩
    exact this
  | @grid d c t u v hu hv _ _ hh ih =>
    intro n hn
    obtain ⟨k, rfl⟩ : ∃ k, n = k + 1 := ⟨n - 1, by omega⟩
    have hf : form m (.tuple [.str "grid", .int u, .int v, t]) = some [t] := by
      show form4 (.str "grid") (.int u) (.int v) t = _
      unfold form4
      rw [if_pos t_gg, if_pos]
      show ((true && decide (1 ≤ u)) && (true && decide (1 ≤ v))) = true
      rw [decide_eq_true hu, decide_eq_true hv]; rfl
    have := cnt_many (n := k) (es := [(d, c, t)]) hf fun e he => by rw [List.mem_singleton.mp he]; exact ⟨ih k (by omega), hh.pos.2⟩
    exact this
  | upon es h2 h8 hd hh ih =>
    intro n hn
    obtain ⟨k, rfl⟩ : ∃ k, n = k + 1 := ⟨n - 1, by omega⟩
    exact cnt_many (form_many (.inl rfl) (by simpa using h2) (by simpa using h8)) fun e he => ⟨ih e he k (by have := hd e he; omega), (hh e he).pos.2⟩
  | beside es h2 h8 hd hh ih =>
    intro n hn
    obtain ⟨k, rfl⟩ : ∃ k, n = k + 1 := ⟨n - 1, by omega⟩
    exact cnt_many (form_many (.inr rfl) (by simpa using h2) (by simpa using h8)) fun e he => ⟨ih e he k (by have := hd e he; omega), (hh e he).pos.2⟩
def StepW (a : Addr) (μ μ' : Mu) : Prop := Bag μ' a ∧ ∀ b, b ≠ a → ∀ ds, μ b = some ds → μ' b = some ds
theorem StepW.trans {a : Addr} {μ μ1 μ2 : Mu} (h : StepW a μ μ1) (g : StepW a μ1 μ2) : StepW a μ μ2 := ⟨g.1, fun b n ds e => g.2 b n ds (h.2 b n ds e)⟩
theorem Step.w {a : Addr} {μ μ' : Mu} (h : Step a μ μ') : StepW a μ μ' := ⟨h.1, fun b n ds e => by rw [h.2 b n]; exact e⟩
theorem StepW.of {a : Addr} {μ μ' : Mu} (hb : Bag μ a) (h : ∀ b ds, μ b = some ds → μ' b = some ds) : StepW a μ μ' := ⟨by obtain ⟨g, m, e, z⟩ := hb; exact ⟨g, m, h _ _ e, z⟩, fun b _ ds e => h b ds e⟩
def spPlanG : DSp := fun ds μ Q => ∃ (a : Addr) (m : Int), ds = [.m a, .v (.int m)] ∧ 1 ≤ m ∧ m ≤ 3 ∧ Bag μ a ∧ ∀ d c t μ', IsP m d c t → d ≤ 12 → c ≤ 60 → StepW a μ μ' → Q (.v t) μ'
theorem len_spPlanG {μ : Mu} {Q : DK} {ds : List D} (h : spPlanG ds μ Q) : ds.length = 2 := by obtain ⟨_, _, rfl, _⟩ := h; rfl
section
variable {μ : Mu} {Qd : DK} {ds : List D}
end
open PySem PySem.Spec PyProof.Rows NM
abbrev E3 := Nat × Nat × PyData
def entP (e : E3) : PyData := .tuple [.int (e.1 : Nat), .int (e.2.1 : Nat), e.2.2]
def Gd (m : Int) (e : E3) : Prop := IsP m e.1 e.2.1 e.2.2 ∧ e.1 ≤ 12 ∧ e.2.1 ≤ 60
structure Pl (a l : Addr) (m : Int) (μ0 μ : Mu) (es : List E3) : Prop where
  ne : l ≠ a
  bag : Bag μ a
  at_ : μ l = some (es.map entP)
  gd : ∀ e ∈ es, Gd m e
  kept : ∀ b, b ≠ a → b ≠ l → ∀ ds, μ0 b = some ds → μ b = some ds
local macro_rules | `(tactic| walk_at "ru") => `(tactic| simp only [↓q_sum, ↓q_gdLst, ↓q_repT, asInts, s_isS, s_isT, s_wh, n_22l, n_02l, n_12l, n_32l, n_42l, n_22, n_32, n_42, n_24, n_34, n_44, n_52l, n_52, n_54, n_deep, n_i0, decide_true, decide_false, Bool.xor_true, Bool.true_xor, ↓q_var11, ↓q_var12, ↓q_var13, ↓q_var14, ↓q_pop, ↓q_truM, ↓q_min, ↓q_max, ↓q_isNot, ↓q_var0, ↓q_var1, ↓q_var2, ↓q_var3, ↓q_var4, ↓q_var5, ↓q_var6, ↓q_var7, ↓q_var8, ↓q_var9, ↓q_var10, ↓q_c, ↓q_op, ↓q_B, ↓q_II, ↓q_I00, ↓q_neg, ↓q_andT, ↓q_orT, ↓q_notT, ↓q_andV, ↓q_orV, ↓q_notV, ↓q_if, ↓q_nil, ↓q_cons, ↓q_tup, ↓q_lst, ↓q_lstM, ↓q_asN, ↓q_asC, ↓q_eqI, ↓q_eqT, ↓q_eqL, ↓q_eqB, ↓q_inD, ↓q_ixL0, ↓q_ixL1, ↓q_ixL2, ↓q_ixT0, ↓q_ixT1, ↓q_ixT2, ↓q_ixT3, ↓q_ixL, ↓q_ixT, ↓q_ixM, ↓q_ixS, ↓q_cat, ↓q_catT, ↓q_addI, ↓q_addT, ↓q_addL, ↓q_addM, ↓q_sl, ↓q_noPart, ↓q_part, ↓q_slT, ↓q_slL, ↓q_rev, ↓q_cb, ↓q_lenL, ↓q_lenT, ↓q_lenS, ↓q_lenM, ↓q_abs, ↓q_2I, ↓q_intB, ↓q_intI, ↓q_listL, ↓q_listT, ↓q_all, ↓q_isi, ↓q_isB, ↓q_isN, ↓q_gName, ↓q_gNil, ↓q_gCons, ↓q_gTup, ↓q_gSub, ↓q_asg, ↓q_par, ↓q_next, ↓q_seq, ↓q_ret, ↓q_drop, ↓q_ifS, ↓q_never, ↓q_call, ↓q_app, ↓q_ext, ↓q_bits, ↓q_chain, ↓q_true, ↓q_diList, ↓q_diTup, ↓q_diRng1, ↓q_diRng2, ↓q_diZip, ↓q_tupOfL, ↓q_tupOfT, ↓q_tupOfM, ↓q_rep, zipD, q_capN, q_capC, q_leN, q_le0, q_le1, Option.bind_none, Option.bind_some, Option.join_some, List.getElem?_cons_zero, List.getElem?_cons_succ, startD, fold3, q_ixN0, q_ixN1, q_ixN2, q_eqN, lstOf, atI_0, atI_1, atI_2, atI_3, List.append, List.replicate, List.length_cons, List.length_nil, Nat.reduceAdd, Nat.reduceSub, List.nil_append, List.cons_append, List.set_cons_zero, List.set_cons_succ, Option.map_some, ↓reduceIte, Bool.not_true, Bool.not_false, Bool.false_eq_true, Bool.true_eq_false, Bool.xor_false, Bool.false_xor])
def td__law_plan_n : DTS :=
  (dSeq (dAsg (dCB rTupOfD (dCons (dCompI [none, none, none] (diList (dVar 11)) (gdTup 3 (gdCons (gdName 0) (gdCons (gdName 1) (gdCons (gdName 2) gdNil)))) dTrue (dVar 2)) dNil)) (gdName 12))
  (dSeq (dAsg (dCompI [none, none, none] (diList (dVar 11)) (gdTup 3 (gdCons (gdName 0) (gdCons (gdName 1) (gdCons (gdName 2) gdNil)))) dTrue (dVar 1)) (gdName 13))
  (dSeq (dAsg (dAdd (dC (.int 1)) (dCB rMaxD (dCons (dCompI [none, none, none] (diList (dVar 11)) (gdTup 3 (gdCons (gdName 0) (gdCons (gdName 1) (gdCons (gdName 2) gdNil)))) dTrue (dVar 0)) dNil))) (gdName 14))
  (dAsg (dTup (dCons (dVar 14) (dCons (dAdd (dC (.int 1)) (dCB rSumD (dCons (dVar 13) dNil))) (dCons (dTup (dCons (dOp rIxD (dLst (dCons (dC (.str "upon")) (dCons (dC (.str "beside")) dNil))) (dMod (dVar 8) (dC (.int 2)))) (dCons (dVar 12) dNil))) dNil)))) (gdName 9)))))
def td__law_plan_m : DTS :=
  (dSeq (dAsg (dCB (r2ID min) (dCons (dCB rLenD (dCons (dVar 3) dNil)) (dCons (dAdd (dC (.int 1)) (dCall spTake (dCons (dVar 0) (dCons (dOp rIxD (dLst (dCons (dC (.int 1)) (dCons (dC (.int 1)) (dCons (dC (.int 2)) (dCons (dC (.int 7)) dNil))))) (dCall spTake (dCons (dVar 0) (dCons (dC (.int 4)) dNil)))) dNil)))) dNil))) (gdName 10))
  (dSeq (dAsg (dOp rAddD (dLst (dCons (dTup (dCons (dVar 5) (dCons (dVar 6) (dCons (dVar 7) dNil)))) dNil)) (dCompI [none, some 3, some 0] (diRng1 (dCons (dVar 10) dNil)) (gdName 0) dTrue (dPopAt (dVar 1) (dCall spTake (dCons (dVar 2) (dCons (dCB rLenD (dCons (dVar 1) dNil)) dNil)))))) (gdName 11))
  (dSeq (dIfS (dB (dOp (rEqD false) (dCB rLenD (dCons (dVar 11) dNil)) (dC (.int 1)))) (dAsg (dOp rAddD (dVar 11) (dVar 11)) (gdName 11)) dNext)
  (td__law_plan_n))))
def td__law_plan_t : DTS :=
  (dSeq (dIfS (dOrT (dB (dOp rGt (dOp rIxD (dVar 9) (dC (.int 0))) (dC (.int 12)))) (dB (dOp rGt (dOp rIxD (dVar 9) (dC (.int 1))) (dC (.int 60))))) (dRet (dVar 7)) dNext)
  (dSeq (dDrop (dApp (dVar 3) (dVar 9)))
  (dIfS (dAndT (dB (dOp (rEqD false) (dCB rLenD (dCons (dVar 3) dNil)) (dC (.int 1)))) (dB (dOp (rEqD false) (dCall spTake (dCons (dVar 0) (dCons (dC (.int 3)) dNil))) (dC (.int 0))))) (dRet (dOp rIxD (dVar 9) (dC (.int 2)))) dNext)))
def td__law_plan_f : DTS :=
  (dSeq (dFor (diRng1 (dCons (dC (.int 30)) dNil)) (gdName 4) (dSeq (dAsg (dPopAt (dVar 3) (dCall spTake (dCons (dVar 0) (dCons (dCB rLenD (dCons (dVar 3) dNil)) dNil)))) (gdTup 3 (gdCons (gdName 5) (gdCons (gdName 6) (gdCons (gdName 7) gdNil)))))
  (dSeq (dAsg (dCall spTake (dCons (dVar 0) (dCons (dC (.int 6)) dNil))) (gdName 8))
  (dSeq (dIfS (dB (dOp (rEqD false) (dVar 8) (dC (.int 0)))) (dAsg (dTup (dCons (dAdd (dVar 5) (dC (.int 1))) (dCons (dAdd (dVar 6) (dC (.int 1))) (dCons (dTup (dCons (dC (.str "turn")) (dCons (dVar 7) dNil))) dNil)))) (gdName 9)) (dIfS (dB (dOp (rEqD false) (dVar 8) (dC (.int 1)))) (dAsg (dTup (dCons (dAdd (dVar 5) (dC (.int 1))) (dCons (dAdd (dVar 6) (dC (.int 1))) (dCons (dTup (dCons (dC (.str "grid")) (dCons (dCall spGrid (dCons (dVar 0) dNil)) (dCons (dCall spGrid (dCons (dVar 0) dNil)) (dCons (dVar 7) dNil))))) dNil)))) (gdName 9)) (td__law_plan_m)))
  (td__law_plan_t)))))
  (dRet (dOp rIxD (dOp rIxD (dVar 3) (dC (.int 0))) (dC (.int 2)))))
def td__law_plan : DTS :=
  (dSeq (dAsg (dAdd (dC (.int 1)) (dCall spTake (dCons (dVar 0) (dCons (dOp rIxD (dLst (dCons (dC (.int 2)) (dCons (dC (.int 4)) (dCons (dC (.int 12)) dNil)))) (dCall spTake (dCons (dVar 0) (dCons (dC (.int 3)) dNil)))) dNil)))) (gdName 2))
  (dSeq (dAsg (dCompM [none, some 0, some 1] (diRng1 (dCons (dVar 2) dNil)) (gdName 0) dTrue (dTup (dCons (dC (.int 1)) (dCons (dC (.int 1)) (dCons (dTup (dCons (dC (.str "kind")) (dCons (dCall spTake (dCons (dVar 1) (dCons (dVar 2) dNil))) dNil))) dNil))))) (gdName 3))
  (td__law_plan_f)))
section
variable {μ μ0 : Mu} {Qd : DK} {ds : List D} {a l : Addr} {m : Int} {es : List E3} {ρ : Rho} {i j : Nat}
theorem v_at {d : D} (h : ρ[i]? = some (some d)) : dVar i ρ μ Qd = Qd d μ := by unfold dVar; rw [h]
theorem er_map {α β : Type} (f : α → β) : ∀ (xs : List α) (i : Nat), (xs.map f).eraseIdx i = (xs.eraseIdx i).map f
  | [], _ => rfl
  | _ :: _, 0 => rfl
  | x :: r, i + 1 => by simp only [List.map_cons, List.eraseIdx_cons_succ, er_map f r i]
theorem Pl.step {μ' : Mu} (h : Pl a l m μ0 μ es) (s : Step a μ μ') : Pl a l m μ0 μ' es := ⟨h.ne, s.1, by rw [s.2 l h.ne]; exact h.at_, h.gd, fun b n1 n2 ds e => by rw [s.2 b n1]; exact h.kept b n1 n2 ds e⟩
theorem Bag.set {x : List PyData} (h : Bag μ a) (n : l ≠ a) : Bag (muSet μ l x) a := by
  obtain ⟨g, k, e, z⟩ := h
  exact ⟨g, k, by rw [muSet_ne (Ne.symm n)]; exact e, z⟩
theorem Pl.set {fs : List E3} (h : Pl a l m μ0 μ es) (g : ∀ e ∈ fs, Gd m e) : Pl a l m μ0 (muSet μ l (fs.map entP)) fs :=
  ⟨h.ne, h.bag.set h.ne, muSet_same, g, fun b n1 n2 ds e => by rw [muSet_ne n2]; exact h.kept b n1 n2 ds e⟩
theorem Pl.off {p : Addr} {x : List PyData} (h : Pl a l m μ0 μ es) (pa : p ≠ a) (pl : p ≠ l) (p0 : μ0 p = none) : Pl a l m μ0 (muSet μ p x) es :=
  ⟨h.ne, h.bag.set pa, by rw [muSet_ne (Ne.symm pl)]; exact h.at_, h.gd, fun b n1 n2 ds e => by
    have hb : b ≠ p := fun z => by rw [z, p0] at e; cases e
    rw [muSet_ne hb]; exact h.kept b n1 n2 ds e⟩
theorem Pl.del {p : Addr} (h : Pl a l m μ0 μ es) (pa : p ≠ a) (pl : p ≠ l) (p0 : μ0 p = none) : Pl a l m μ0 (muDel μ p) es :=
  ⟨h.ne, by obtain ⟨g, k, e, z⟩ := h.bag; exact ⟨g, k, by rw [muDel_ne (Ne.symm pa)]; exact e, z⟩, by rw [muDel_ne (Ne.symm pl)]; exact h.at_, h.gd, fun b n1 n2 ds e => by
    have hb : b ≠ p := fun z => by rw [z, p0] at e; cases e
    rw [muDel_ne hb]; exact h.kept b n1 n2 ds e⟩
theorem Pl.fresh {p : Addr} (h : Pl a l m μ0 μ es) (hp : μ p = none) : p ≠ a ∧ p ≠ l ∧ μ0 p = none := by
  have h1 : p ≠ a := fun z => by obtain ⟨g, k, e, _⟩ := h.bag; rw [z, e] at hp; cases hp
  have h2 : p ≠ l := fun z => by rw [z, h.at_] at hp; cases hp
  refine ⟨h1, h2, ?_⟩
  cases e : μ0 p with
  | none => rfl
  | some ds => rw [h.kept p h1 h2 ds e] at hp; cases hp
theorem Pl.w (h : Pl a l m μ0 μ es) (hl : μ0 l = none) : StepW a μ0 μ := ⟨h.bag, fun b n ds e => h.kept b n (fun z => by rw [z, hl] at e; cases e) ds e⟩
theorem pop_one (h : Pl a l m μ0 μ es) (h1 : 1 ≤ es.length) (h2 : es.length ≤ 100) (hi : ρ[i]? = some (some (.m l))) (hj : ρ[j]? = some (some (.m a)))
    (q : ∀ (e : E3) (fs : List E3) (μ' : Mu), Gd m e → fs.length + 1 = es.length → Pl a l m μ0 μ' fs → (∀ b, b ≠ a → b ≠ l → μ' b = μ b) → Qd (.v (entP e)) μ') :
    dPopAt (dVar i) (dCall spTake (dCons (dVar j) (dCons (dCB rLenD (dCons (dVar i) dNil)) dNil))) ρ μ Qd := by
  simp only [q_popAt, q_call, q_cons, q_nil, q_cb, v_at hi, v_at hj, q_lenM, h.at_, List.length_map]
  refine ⟨a, _, rfl, by omega, by omega, h.bag, fun r μ1 r0 r1 s1 => ?_⟩
  have h' := h.step s1
  simp only [h'.at_]
  obtain ⟨k, rfl⟩ : ∃ k : Nat, r = k := ⟨r.toNat, by omega⟩
  have hk : k < es.length := by omega
  refine ⟨⟨by omega, by omega⟩, entP es[k], by simp [hk], ?_⟩
  rw [er_map]
  have hs := h'.set (fs := es.eraseIdx k) fun e he => h.gd e (List.mem_of_mem_eraseIdx he)
  refine q es[k] _ _ (h.gd _ (List.getElem_mem hk)) (by rw [List.length_eraseIdx_of_lt hk]; omega) hs fun b n1 n2 => ?_
  rw [muSet_ne n2, s1.2 b n1]
theorem pops {k : Nat} (h : Pl a l m μ0 μ es) (hk : k ≤ es.length) (h2 : es.length ≤ 100) (h3 : ρ[3]? = some (some (.m l))) (h0 : ρ[0]? = some (some (.m a))) (h10 : ρ[10]? = some (some (.v (.int (k : Nat)))))
    (q : ∀ (gs fs : List E3) (μ' : Mu), (∀ e ∈ gs, Gd m e) → gs.length = k → fs.length ≤ es.length → Pl a l m μ0 μ' fs → Qd (.v (.list (gs.map entP))) μ') :
    dCompI [none, some 3, some 0] (diRng1 (dCons (dVar 10) dNil)) (gdName 0) dTrue (dPopAt (dVar 1) (dCall spTake (dCons (dVar 2) (dCons (dCB rLenD (dCons (dVar 1) dNil)) dNil)))) ρ μ Qd := by
  rw [q_compI]
  simp only [q_diRng1, q_cons, q_nil, v_at h10]
  refine ⟨⟨by omega, by omega⟩, by rw [rngLen]; omega, fun p hp => ?_⟩
  obtain ⟨pa, pl, p0⟩ := h.fresh hp
  refine ⟨fun i acc μ' => ∃ gs fs : List E3, acc = gs.map entP ∧ gs.length = i ∧ fs.length + i = es.length ∧ (∀ e ∈ gs, Gd m e) ∧ Pl a l m μ0 μ' fs, ⟨[], es, rfl, rfl, rfl, (fun _ z => nomatch z), h.off pa pl p0⟩, ?_, ?_⟩
  · rintro i x acc μ' hx hacc ⟨gs, fs, rfl, hg, hf, gd, hP⟩
    obtain ⟨rfl, hi⟩ := rngAt hx
    simp only [q_gName, q_capC, q_capN, h3, h0, Option.bind_some, Option.bind_none, Option.join_some, List.set_cons_zero, q_true, ↓reduceIte, q_le0, q_le1, q_leN, true_and, and_true]
    refine pop_one hP (by omega) (by omega) rfl rfl fun e fs' μ1 he hl P1 kp => ?_
    refine ⟨by rw [kp p pa pl]; exact hacc, gs ++ [e], fs', by simp, by simp [hg], by omega, fun e' he' => ?_, P1.off pa pl p0⟩
    rcases List.mem_append.mp he' with z | z
    · exact gd e' z
    · rw [List.mem_singleton.mp z]; exact he
  · rintro acc μ' ⟨gs, fs, rfl, hg, hf, gd, hP⟩ hacc
    rw [rngLen] at hg hf
    exact q gs fs _ gd (by omega) (by omega) (hP.del pa pl p0)
theorem comp3 {k : Nat} {f : E3 → PyData} {te : DTE} (hs : ∀ Q, te ρ μ Q = Q (.v (.list (es.map entP))) μ) (hl : es.length ≤ 100) (hf : ∀ (e : E3) (μ' : Mu) (Q : DK), dVar k [some (.v (.int (e.1 : Nat))), some (.v (.int (e.2.1 : Nat))), some (.v e.2.2)] μ' Q = Q (.v (f e)) μ')
    (q : Qd (.v (.list (es.map f))) μ) : dCompI [none, none, none] (diList te) (gdTup 3 (gdCons (gdName 0) (gdCons (gdName 1) (gdCons (gdName 2) gdNil)))) dTrue (dVar k) ρ μ Qd := by
  rw [q_compI, q_diList, hs]
  refine ⟨by rw [List.length_map]; omega, fun p hp => ⟨fun i acc μ' => acc = (es.take i).map f ∧ μ' = muSet μ p acc, ⟨by simp, rfl⟩, ?_, ?_⟩⟩
  · rintro i x acc μ' hx hacc ⟨rfl, rfl⟩
    rw [List.getElem?_map] at hx
    obtain ⟨e, he, rfl⟩ : ∃ e, es[i]? = some e ∧ entP e = x := by
      cases z : es[i]? with
      | none => rw [z] at hx; cases hx
      | some e => rw [z] at hx; exact ⟨e, rfl, by simpa using hx⟩
    unfold entP
    simp only [q_gTup, q_gCons, q_gNil, q_gName, q_capC, q_capN, Option.bind_none, List.set_cons_zero, List.set_cons_succ, q_true, ↓reduceIte, q_le0, q_leN, true_and, hf, List.length_cons, List.length_nil]
    refine ⟨hacc, ?_, ?_⟩
    · rw [List.take_succ, he]; simp
    · rw [muSet_set]
  · rintro acc μ' ⟨rfl, rfl⟩ hacc
    rw [muDel_set hp, List.length_map, List.take_length]
    exact q
theorem asInts_map (es : List E3) (f : E3 → Nat) : asInts (es.map fun e => PyData.int (f e : Nat)) = some (es.map fun e => ((f e : Nat) : Int)) := by
  induction es with
  | nil => rfl
  | cons c r ih => simp only [List.map_cons, asInts, ih, Option.map_some]
theorem sum_map (es : List E3) : (es.map fun e => ((e.2.1 : Nat) : Int)).sum = (((es.map (·.2.1)).sum : Nat) : Int) := by
  induction es with
  | nil => rfl
  | cons c r ih => simp only [List.map_cons, List.sum_cons, ih]; omega
theorem rd_plan_n {r0 r1 r2 r3 r4 r5 r6 r7 r9 r10 r12 r13 r14 : Option D} {Dd : DEnds} {w : Int} (h2 : 2 ≤ es.length) (h8 : es.length ≤ 8) (gd : ∀ e ∈ es, Gd m e)
    (q : ∀ (e : E3) (s12 s13 s14 : Option D), IsP m e.1 e.2.1 e.2.2 → Dd.nx [r0, r1, r2, r3, r4, r5, r6, r7, some (.v (.int w)), some (.v (entP e)), r10, some (.v (.list (es.map entP))), s12, s13, s14] μ) :
    td__law_plan_n Dd [r0, r1, r2, r3, r4, r5, r6, r7, some (.v (.int w)), r9, r10, some (.v (.list (es.map entP))), r12, r13, r14] μ := by
  unfold td__law_plan_n
  walk_at "ru"
  refine comp3 (f := fun e => e.2.2) (fun Q => q_var11) (by omega) (fun e μ' Q => q_var2) ?_
  walk_at "ru"
  refine comp3 (f := fun e => .int (e.2.1 : Nat)) (fun Q => q_var11) (by omega) (fun e μ' Q => q_var1) ?_
  walk_at "ru"
  refine comp3 (f := fun e => .int (e.1 : Nat)) (fun Q => q_var11) (by omega) (fun e μ' Q => q_var0) ?_
  walk_at "ru"
  simp only [asInts_map]
  refine ⟨by rw [List.length_map]; omega, fun M h1 hM => ?_⟩
  simp only [asInts_map, sum_map]
  refine ⟨by decide, ?_⟩
  obtain ⟨e, he, rfl⟩ := List.mem_map.mp h1
  obtain ⟨_, e1, ws, rfl, hws⟩ := pick (P := fun v => ∃ w : Str, v = .str w ∧ (w = "upon" ∨ w = "beside")) (xs := [.str "upon", .str "beside"]) (i := w.fmod 2) (Int.fmod_nonneg_of_pos _ (by decide)) (Int.fmod_lt_of_pos _ (by decide)) (by
    intro v hv
    simp only [List.mem_cons, List.not_mem_nil, or_false] at hv
    rcases hv with rfl | rfl
    · exact ⟨_, rfl, .inl rfl⟩
    · exact ⟨_, rfl, .inr rfl⟩)
  rw [e1]
  walk_at "ru"
  have hd : ∀ x ∈ es, x.1 ≤ e.1 := fun x hx => by have := hM (x.1 : Int) (List.mem_map.mpr ⟨x, hx, rfl⟩); omega
  have hp : ∀ x ∈ es, IsP m x.1 x.2.1 x.2.2 := fun x hx => (gd x hx).1
  have eA : (1 : Int) + (e.1 : Nat) = ((e.1 + 1 : Nat) : Int) := by omega
  have eB : (1 : Int) + ((es.map (·.2.1)).sum : Nat) = (((es.map (·.2.1)).sum + 1 : Nat) : Int) := by omega
  rcases hws with rfl | rfl
  · have hN := IsP.upon (d := e.1) es h2 h8 hd hp
    have := q (e.1 + 1, (es.map (·.2.1)).sum + 1, _) (some (.v (.tuple (es.map fun e => e.2.2)))) (some (.v (.list (es.map fun e => PyData.int (e.2.1 : Nat))))) (some (.v (.int ((e.1 + 1 : Nat) : Int)))) hN
    rw [eA, eB]
    exact this
  · have hN := IsP.beside (d := e.1) es h2 h8 hd hp
    have := q (e.1 + 1, (es.map (·.2.1)).sum + 1, _) (some (.v (.tuple (es.map fun e => e.2.2)))) (some (.v (.list (es.map fun e => PyData.int (e.2.1 : Nat))))) (some (.v (.int ((e.1 + 1 : Nat) : Int)))) hN
    rw [eA, eB]
    exact this
theorem rd_plan_m {r2 r4 r9 r10 r11 r12 r13 r14 : Option D} {Dd : DEnds} {e0 : E3} {w : Int} (h : Pl a l m μ0 μ es) (h2 : es.length ≤ 20) (g0 : Gd m e0)
    (q : ∀ (e : E3) (fs : List E3) (μ' : Mu) (s10 s11 s12 s13 s14 : Option D), IsP m e.1 e.2.1 e.2.2 → fs.length ≤ es.length → Pl a l m μ0 μ' fs → Dd.nx [some (.m a), some (.v (.int m)), r2, some (.m l), r4, some (.v (.int (e0.1 : Nat))), some (.v (.int (e0.2.1 : Nat))), some (.v e0.2.2), some (.v (.int w)), some (.v (entP e)), s10, s11, s12, s13, s14] μ') :
    td__law_plan_m Dd [some (.m a), some (.v (.int m)), r2, some (.m l), r4, some (.v (.int (e0.1 : Nat))), some (.v (.int (e0.2.1 : Nat))), some (.v e0.2.2), some (.v (.int w)), r9, r10, r11, r12, r13, r14] μ := by
  unfold td__law_plan_m
  walk_at "ru"
  simp only [h.at_, List.length_map]
  refine ⟨a, 4, rfl, by decide, by decide, h.bag, fun r μ1 r0 r1 s1 => ?_⟩
  walk_at "ru"
  obtain ⟨_, e1, n, rfl, n1, n7⟩ := pick (P := fun v => ∃ n : Int, v = .int n ∧ 1 ≤ n ∧ n ≤ 7) (xs := [.int 1, .int 1, .int 2, .int 7]) r0 (by exact r1) (by
    intro v hv
    simp only [List.mem_cons, List.not_mem_nil, or_false] at hv
    rcases hv with rfl | rfl | rfl | rfl <;> exact ⟨_, rfl, by decide, by decide⟩)
  rw [e1]
  refine ⟨a, n, rfl, n1, by omega, s1.1, fun u μ2 u0 u1 s2 => ?_⟩
  walk_at "ru"
  have P2 := (h.step s1).step s2
  obtain ⟨k, hk⟩ : ∃ k : Nat, min (es.length : Int) (1 + u) = k := ⟨(min (es.length : Int) (1 + u)).toNat, by omega⟩
  rw [hk]
  have hk7 : k ≤ 7 ∧ k ≤ es.length := by omega
  refine pops P2 hk7.2 (by omega) rfl rfl rfl fun gs fs μ3 gg hg hf P3 => ?_
  walk_at "ru"
  refine ⟨by rw [List.length_map]; omega, ?_⟩
  have fin : ∀ (xs : List E3), 2 ≤ xs.length → xs.length ≤ 8 → (∀ e ∈ xs, Gd m e) → td__law_plan_n Dd [some (.m a), some (.v (.int m)), r2, some (.m l), r4, some (.v (.int (e0.1 : Nat))), some (.v (.int (e0.2.1 : Nat))), some (.v e0.2.2), some (.v (.int w)), r9, some (.v (.int (k : Nat))), some (.v (.list (xs.map entP))), r12, r13, r14] μ3 := fun xs x2 x8 gx =>
    rd_plan_n x2 x8 gx fun e s12 s13 s14 he => q e fs μ3 _ _ _ _ _ he hf P3
  have g0' : ∀ e ∈ e0 :: gs, Gd m e := fun e he => by
    rcases List.mem_cons.mp he with z | z
    · rw [z]; exact g0
    · exact gg e z
  by_cases c : gs.length = 0
  · rw [if_pos (decide_eq_true (by rw [List.length_map, c]; rfl))]
    have : gs = [] := List.length_eq_zero_iff.mp c
    subst this
    refine ⟨by decide, fin [e0, e0] (by simp) (by simp) fun e he => ?_⟩
    simp only [List.mem_cons, List.not_mem_nil, or_false, or_self] at he
    rw [he]; exact g0
  · rw [if_neg (by rw [decide_eq_true_eq, List.length_map]; omega)]
    exact fin (e0 :: gs) (by rw [List.length_cons]; omega) (by rw [List.length_cons]; omega) g0'
theorem rd_plan_t {r2 r4 r5 r6 r8 r10 r11 r12 r13 r14 : Option D} {Dd : DEnds} {e0 e : E3} (h : Pl a l m μ0 μ es) (h2 : es.length ≤ 20) (g0 : Gd m e0) (he : IsP m e.1 e.2.1 e.2.2)
    (qr : ∀ (e : E3) (fs : List E3) (μ' : Mu), Gd m e → Pl a l m μ0 μ' fs → Dd.rt (.v e.2.2) μ')
    (qn : ∀ μ', Pl a l m μ0 μ' (es ++ [e]) → Dd.nx [some (.m a), some (.v (.int m)), r2, some (.m l), r4, r5, r6, some (.v e0.2.2), r8, some (.v (entP e)), r10, r11, r12, r13, r14] μ') :
    td__law_plan_t Dd [some (.m a), some (.v (.int m)), r2, some (.m l), r4, r5, r6, some (.v e0.2.2), r8, some (.v (entP e)), r10, r11, r12, r13, r14] μ := by
  unfold td__law_plan_t
  have ee : entP e = .tuple [.int (e.1 : Nat), .int (e.2.1 : Nat), e.2.2] := rfl
  rw [ee] at qn ⊢
  walk_at "ru"
  by_cases c1 : (12 : Int) < (e.1 : Nat)
  · rw [decide_eq_true c1]
    simp only [↓reduceIte]
    exact qr e0 es μ g0 h
  · rw [decide_eq_false c1]
    simp only [Bool.false_eq_true, ↓reduceIte]
    by_cases c2 : (60 : Int) < (e.2.1 : Nat)
    · rw [decide_eq_true c2]
      simp only [↓reduceIte]
      exact qr e0 es μ g0 h
    · rw [decide_eq_false c2]
      simp only [Bool.false_eq_true, ↓reduceIte, h.at_]
      have ge : Gd m e := ⟨he, by omega, by omega⟩
      refine ⟨by rw [List.length_map]; omega, ?_⟩
      have P1 : Pl a l m μ0 (muSet μ l (es.map entP ++ [entP e])) (es ++ [e]) := by
        have := h.set (fs := es ++ [e]) fun x hx => by
          rcases List.mem_append.mp hx with z | z
          · exact h.gd x z
          · rw [List.mem_singleton.mp z]; exact ge
        rw [List.map_append] at this
        exact this
      rw [ee] at P1
      simp only [P1.at_]
      split
      · refine ⟨a, 3, rfl, by decide, by decide, P1.bag, fun r μ1 r0 r1 s1 => ?_⟩
        walk_at "ru"
        split
        · exact qr e _ μ1 ge (P1.step s1)
        · exact qn μ1 (P1.step s1)
      · exact qn _ P1
theorem rd_plan_f {r2 r4 r5 r6 r7 r8 r9 r10 r11 r12 r13 r14 : Option D} {Dd : DEnds} (h : Pl a l m μ0 μ es) (h1 : 1 ≤ es.length) (h2 : es.length ≤ 20)
    (qr : ∀ (e : E3) (fs : List E3) (μ' : Mu), Gd m e → Pl a l m μ0 μ' fs → Dd.rt (.v e.2.2) μ') :
    td__law_plan_f Dd [some (.m a), some (.v (.int m)), r2, some (.m l), r4, r5, r6, r7, r8, r9, r10, r11, r12, r13, r14] μ := by
  unfold td__law_plan_f
  rw [q_seq, q_for]
  walk_at "ru"
  refine ⟨by decide, fun i ρ μ' => ∃ (fs : List E3) (s4 s5 s6 s7 s8 s9 s10 s11 s12 s13 s14 : Option D), ρ = [some (.m a), some (.v (.int m)), r2, some (.m l), s4, s5, s6, s7, s8, s9, s10, s11, s12, s13, s14] ∧ Pl a l m μ0 μ' fs ∧ 1 ≤ fs.length ∧ fs.length ≤ 20, ⟨es, _, _, _, _, _, _, _, _, _, _, _, rfl, h, h1, h2⟩, ?_, ?_⟩
  · rintro i x ρ μ1 hx ⟨fs, s4, s5, s6, s7, s8, s9, s10, s11, s12, s13, s14, rfl, P1, l1, l2⟩
    walk_at "ru"
    refine pop_one P1 l1 (by omega) rfl rfl fun e gs μ2 ge hl P2 _ => ?_
    have ee : entP e = .tuple [.int (e.1 : Nat), .int (e.2.1 : Nat), e.2.2] := rfl
    rw [ee]
    walk_at "ru"
    refine ⟨trivial, a, 6, rfl, by decide, by decide, P2.bag, fun w μ3 w0 w1 s3 => ?_⟩
    have P3 := P2.step s3
    have tail : ∀ {e' : E3} {hs : List E3} {μ4 : Mu} {t8 t10 t11 t12 t13 t14 : Option D}, Pl a l m μ0 μ4 hs → hs.length ≤ gs.length → IsP m e'.1 e'.2.1 e'.2.2 → td__law_plan_t { nx := fun ρ μ' => ∃ (fs : List E3) (s4 s5 s6 s7 s8 s9 s10 s11 s12 s13 s14 : Option D), ρ = [some (.m a), some (.v (.int m)), r2, some (.m l), s4, s5, s6, s7, s8, s9, s10, s11, s12, s13, s14] ∧ Pl a l m μ0 μ' fs ∧ 1 ≤ fs.length ∧ fs.length ≤ 20, rt := Dd.rt, bk := dRet (dOp rIxD (dOp rIxD (dVar 3) (dC (.int 0))) (dC (.int 2))) Dd, ct := fun ρ μ' => ∃ (fs : List E3) (s4 s5 s6 s7 s8 s9 s10 s11 s12 s13 s14 : Option D), ρ = [some (.m a), some (.v (.int m)), r2, some (.m l), s4, s5, s6, s7, s8, s9, s10, s11, s12, s13, s14] ∧ Pl a l m μ0 μ' fs ∧ 1 ≤ fs.length ∧ fs.length ≤ 20 }
        [some (.m a), some (.v (.int m)), r2, some (.m l), some (.v x), some (.v (.int (e.1 : Nat))), some (.v (.int (e.2.1 : Nat))), some (.v e.2.2), t8, some (.v (entP e')), t10, t11, t12, t13, t14] μ4 := fun P4 hh he' =>
      rd_plan_t P4 (by omega) ge he' (fun e fs μ' g P => qr e fs μ' g P) fun μ' P' => ⟨_, _, _, _, _, _, _, _, _, _, _, _, rfl, P', by rw [List.length_append, List.length_singleton]; omega, by rw [List.length_append, List.length_singleton]; omega⟩
    walk_at "ru"
    by_cases c0 : w = 0
    · rw [if_pos (decide_eq_true c0)]
      exact tail (e' := (e.1 + 1, e.2.1 + 1, _)) P3 (Nat.le_refl _) (.turn ge.1)
    · rw [if_neg (by rw [decide_eq_true_eq]; exact c0)]
      by_cases c1 : w = 1
      · rw [if_pos (decide_eq_true c1)]
        refine ⟨a, rfl, P3.bag, fun g μ4 g1 g2 s4 => ?_⟩
        refine ⟨a, rfl, s4.1, fun g' μ5 g1' g2' s5 => ?_⟩
        walk_at "ru"
        exact tail (e' := (e.1 + 1, e.2.1 + 1, _)) ((P3.step s4).step s5) (Nat.le_refl _) (.grid g g' g1 g1' g2 g2' ge.1)
      · rw [if_neg (by rw [decide_eq_true_eq]; exact c1)]
        exact rd_plan_m P3 (by omega) ge fun e' hs μ4 s10 s11 s12 s13 s14 he' hl' P4 => tail P4 hl' he'
  · rintro ρ μ1 ⟨fs, s4, s5, s6, s7, s8, s9, s10, s11, s12, s13, s14, rfl, P1, l1, l2⟩
    walk_at "ru"
    simp only [P1.at_]
    cases fs with
    | nil => simp at l1
    | cons e r =>
      rw [List.map_cons, atI_0]
      have ee : entP e = .tuple [.int (e.1 : Nat), .int (e.2.1 : Nat), e.2.2] := rfl
      simp only [ee]
      walk_at "ru"
      exact qr e _ μ1 (P1.gd e (by simp)) P1
theorem rd__law_plan (h : spPlanG ds μ Qd) : td__law_plan { nx := fun _ μ' => Qd (.v .none) μ', rt := Qd } (startD ["_law_bag_here", "_law_many", "_law_leaves", "_law_parts", "_law_turn", "_law_deep", "_law_size", "_law_plan_here", "_law_way", "_law_whole", "_law_count", "_law_some", "_law_inner", "_law_sizes", "_law_most"] ds) μ := by
  obtain ⟨a, m, rfl, m1, m3, hb, q⟩ := h
  unfold td__law_plan
  walk_at "ru"
  refine ⟨a, 3, rfl, by decide, by decide, hb, fun r μ1 r0 r1 s1 => ?_⟩
  walk_at "ru"
  obtain ⟨_, e1, n, rfl, n1, n7⟩ := pick (P := fun v => ∃ n : Int, v = .int n ∧ 1 ≤ n ∧ n ≤ 12) (xs := [.int 2, .int 4, .int 12]) r0 (by exact r1) (by
    intro v hv
    simp only [List.mem_cons, List.not_mem_nil, or_false] at hv
    rcases hv with rfl | rfl | rfl <;> exact ⟨_, rfl, by decide, by decide⟩)
  rw [e1]
  refine ⟨a, n, rfl, n1, by omega, s1.1, fun u μ2 u0 u1 s2 => ?_⟩
  walk_at "ru"
  have s12 := s1.trans s2
  obtain ⟨k, hk⟩ : ∃ k : Nat, 1 + u = k := ⟨(1 + u).toNat, by omega⟩
  rw [hk, q_compM]
  walk_at "ru"
  refine ⟨⟨by omega, by omega⟩, by rw [rngLen]; omega, fun p hp => ?_⟩
  have pa : p ≠ a := fun z => by obtain ⟨g, k, e, _⟩ := s12.1; rw [z, e] at hp; cases hp
  have p0 : μ p = none := by rw [← s12.2 p pa]; exact hp
  refine ⟨fun i acc μ' => ∃ fs : List E3, acc = fs.map entP ∧ fs.length = i ∧ (∀ b, b ≠ a → b ≠ p → ∀ ds, μ b = some ds → μ' b = some ds) ∧ Bag μ' a ∧ (∀ e ∈ fs, Gd m e), ⟨[], rfl, rfl, fun b n1 n2 ds e => by rw [muSet_ne n2, s12.2 b n1]; exact e, s12.1.set pa, (fun _ z => nomatch z)⟩, ?_, ?_⟩
  · rintro i x acc μ' hx hacc ⟨fs, rfl, hf, kp, hb', gd⟩
    refine ⟨⟨rfl, rfl, trivial⟩, a, m, rfl, m1, by omega, hb', fun v μ3 v0 v1 s3 => ?_⟩
    walk_at "ru"
    refine ⟨by rw [s3.2 p pa]; exact hacc, fs ++ [(1, 1, .tuple [.str "kind", .int v])], by rw [List.map_append]; rfl, by simp [hf], fun b n1 n2 ds e => by rw [muSet_ne n2, s3.2 b n1]; exact kp b n1 n2 ds e, s3.1.set pa, fun e he => ?_⟩
    rcases List.mem_append.mp he with z | z
    · exact gd e z
    · rw [List.mem_singleton.mp z]; exact ⟨.kind v v0 v1, by show 1 ≤ 12; decide, by show 1 ≤ 60; decide⟩
  · rintro acc μ' ⟨fs, rfl, hf, kp, hb', gd⟩ hacc
    rw [rngLen] at hf
    have P : Pl a p m μ μ' fs := ⟨pa, hb', hacc, gd, kp⟩
    exact rd_plan_f P (by omega) (by omega) fun e gs μ'' ge P' => q e.1 e.2.1 e.2.2 μ'' ge.1 ge.2.1 ge.2.2 (P'.w p0)
end
open PySem PySem.Spec PyProof.Rows NM
def aboveB (d : Int) : PyData → Bool
  | .tuple [.int a, .int b, .int c] => isNum (.tuple [.int a, .int b, .int c]) && decide (sg d a b = 1)
  | _ => false
def spAboveQ : DSp := fun ds μ Q => ∃ (d : Int) (t : PyData), ds = [.v (.int d), .v t] ∧ IsRoot d ∧ Few t ∧ (∀ x, t = dN x → Bd 8900 x) ∧ Q (.v (.bool (aboveB d t))) μ
theorem len_spAboveQ {μ : Mu} {Q : DK} {ds : List D} (h : spAboveQ ds μ Q) : ds.length = 2 := by obtain ⟨_, _, rfl, _⟩ := h; rfl
def spKindsQ : DSp := fun ds μ Q => ∃ (d : Int) (ks : List N3), ds = [.v (.int d), .v (.tuple (ks.map dN))] ∧ IsRoot d ∧ 1 ≤ ks.length ∧ ks.length ≤ 3 ∧ (∀ k ∈ ks, Ok k ∧ Bd 60 k ∧ sg d k.a k.b = 1) ∧ Q (.v (.bool true)) μ
theorem len_spKindsQ {μ : Mu} {Q : DK} {ds : List D} (h : spKindsQ ds μ Q) : ds.length = 2 := by obtain ⟨_, _, rfl, _⟩ := h; rfl
def spMustKinds : DSp := fun ds μ Q => ∃ (d : Int) (ks : List N3), ds = [.v (.int d), .v (.tuple (ks.map dN))] ∧ IsRoot d ∧ 1 ≤ ks.length ∧ ks.length ≤ 3 ∧ (∀ k ∈ ks, Ok k ∧ Bd 60 k ∧ sg d k.a k.b = 1) ∧ Q (.v .none) μ
theorem len_spMustKinds {μ : Mu} {Q : DK} {ds : List D} (h : spMustKinds ds μ Q) : ds.length = 2 := by obtain ⟨_, _, rfl, _⟩ := h; rfl
structure KindsOk (d : Int) (ks : List N3) : Prop where
  l1 : 1 ≤ ks.length
  l3 : ks.length ≤ 3
  ok : ∀ k ∈ ks, Ok k ∧ Bd 60 k ∧ sg d k.a k.b = 1
def spKindsL : DSp := fun ds μ Q => ∃ (a : Addr) (d : Int), ds = [.m a, .v (.int d)] ∧ IsRoot d ∧ Bag μ a ∧ ∀ ks μ', KindsOk d ks → StepW a μ μ' → Q (.v (.tuple (ks.map dN))) μ'
theorem len_spKindsL {μ : Mu} {Q : DK} {ds : List D} (h : spKindsL ds μ Q) : ds.length = 2 := by obtain ⟨_, _, rfl, _⟩ := h; rfl
def sumN (l : List N3) : N3 := l.foldl plus nought
def Sums (l : List N3) : Prop := (∀ x ∈ l, Ok x ∧ Bd 4300 x) ∧ ∀ j, Bd 4300 (sumN (l.take j))
def spMustPlan : DSp := fun ds μ Q => ∃ (t : PyData) (m : Int), ds = [.v t, .v (.int m)] ∧ Sh t ∧ okN (cnt m 12 t) = true ∧ ∀ μ', (∀ b ds, μ b = some ds → μ' b = some ds) → Q (.v .none) μ'
theorem len_spMustPlan {μ : Mu} {Q : DK} {ds : List D} (h : spMustPlan ds μ Q) : ds.length = 2 := by obtain ⟨_, _, rfl, _⟩ := h; rfl
def spSum : DSp := fun ds μ Q => ∃ l : List N3, ds = [.v (.list (l.map dN))] ∧ l.length ≤ 100 ∧ Sums l ∧ Q (.v (dN (sumN l))) μ
theorem len_spSum {μ : Mu} {Q : DK} {ds : List D} (h : spSum ds μ Q) : ds.length = 1 := by obtain ⟨_, rfl, _⟩ := h; rfl
local macro_rules | `(tactic| walk_at "ru") => `(tactic| simp only [↓q_sum, ↓q_gdLst, ↓q_repT, asInts, s_isS, s_isT, s_wh, n_22l, n_02l, n_12l, n_32l, n_42l, n_22, n_32, n_42, n_24, n_34, n_44, n_52l, n_52, n_54, n_deep, n_i0, decide_true, decide_false, Bool.xor_true, Bool.true_xor, ↓q_var11, ↓q_var12, ↓q_var13, ↓q_var14, ↓q_pop, ↓q_truM, ↓q_min, ↓q_max, ↓q_isNot, ↓q_var0, ↓q_var1, ↓q_var2, ↓q_var3, ↓q_var4, ↓q_var5, ↓q_var6, ↓q_var7, ↓q_var8, ↓q_var9, ↓q_var10, ↓q_c, ↓q_op, ↓q_B, ↓q_II, ↓q_I00, ↓q_neg, ↓q_andT, ↓q_orT, ↓q_notT, ↓q_andV, ↓q_orV, ↓q_notV, ↓q_if, ↓q_nil, ↓q_cons, ↓q_tup, ↓q_lst, ↓q_lstM, ↓q_asN, ↓q_asC, ↓q_eqI, ↓q_eqT, ↓q_eqL, ↓q_eqB, ↓q_inD, ↓q_ixL0, ↓q_ixL1, ↓q_ixL2, ↓q_ixT0, ↓q_ixT1, ↓q_ixT2, ↓q_ixT3, ↓q_ixL, ↓q_ixT, ↓q_ixM, ↓q_ixS, ↓q_cat, ↓q_catT, ↓q_addI, ↓q_addT, ↓q_addL, ↓q_addM, ↓q_sl, ↓q_noPart, ↓q_part, ↓q_slT, ↓q_slL, ↓q_rev, ↓q_cb, ↓q_lenL, ↓q_lenT, ↓q_lenS, ↓q_lenM, ↓q_abs, ↓q_2I, ↓q_intB, ↓q_intI, ↓q_listL, ↓q_listT, ↓q_all, ↓q_isi, ↓q_isB, ↓q_isN, ↓q_gName, ↓q_gNil, ↓q_gCons, ↓q_gTup, ↓q_gSub, ↓q_asg, ↓q_par, ↓q_next, ↓q_seq, ↓q_ret, ↓q_drop, ↓q_ifS, ↓q_never, ↓q_call, ↓q_app, ↓q_ext, ↓q_bits, ↓q_chain, ↓q_true, ↓q_diList, ↓q_diTup, ↓q_diRng1, ↓q_diRng2, ↓q_diZip, ↓q_tupOfL, ↓q_tupOfT, ↓q_tupOfM, ↓q_rep, zipD, q_capN, q_capC, q_leN, q_le0, q_le1, Option.bind_none, Option.bind_some, Option.join_some, List.getElem?_cons_zero, List.getElem?_cons_succ, startD, fold3, q_ixN0, q_ixN1, q_ixN2, q_eqN, lstOf, atI_0, atI_1, atI_2, atI_3, List.map_cons, List.map_nil, List.append, List.replicate, List.length_cons, List.length_nil, Nat.reduceAdd, Nat.reduceSub, List.nil_append, List.cons_append, List.set_cons_zero, List.set_cons_succ, Option.map_some, ↓reduceIte, Bool.not_true, Bool.not_false, Bool.false_eq_true, Bool.true_eq_false, Bool.xor_false, Bool.false_xor])
def td_is_above_nought : DTS :=
  (dRet (dAndV (dCall spNumQ (dCons (dVar 1) dNil)) (dOp (rEqD false) (dCall spSign (dCons (dVar 0) (dCons (dVar 1) dNil))) (dC (.int 1)))))
def td_is_kinds : DTS :=
  (dSeq (dIfS (dOrT (dNotT (dB (dIsi "tuple" (dVar 1)))) (dOrT (dB (dOp rLt (dCB rLenD (dCons (dVar 1) dNil)) (dC (.int 1)))) (dB (dOp rGt (dCB rLenD (dCons (dVar 1) dNil)) (dC (.int 3)))))) (dRet (dC (.bool false))) dNext)
  (dRet (dCB rAllD (dCons (dComp [none, some 0] (diTup (dVar 1)) (gdName 0) dTrue (dCall spAboveQ (dCons (dVar 1) (dCons (dVar 0) dNil)))) dNil))))
def td_must_be_kinds : DTS :=
  (dIfS (dNotT (dB (dCall spKindsQ (dCons (dVar 0) (dCons (dVar 1) dNil))))) dNever dNext)
def td__law_kinds : DTS :=
  (dSeq (dAsg (dLstM (dCons (dCall spAboveL (dCons (dVar 0) (dCons (dVar 1) dNil))) dNil)) (gdName 2))
  (dSeq (dFor (diRng1 (dCons (dCall spTake (dCons (dVar 0) (dCons (dC (.int 3)) dNil))) dNil)) (gdName 3) (dSeq (dAsg (dCall spTake (dCons (dVar 0) (dCons (dC (.int 6)) dNil))) (gdName 4))
  (dSeq (dAsg (dTup (dCons (dAdd (dC (.int 1)) (dCall spTake (dCons (dVar 0) (dCons (dC (.int 9)) dNil)))) (dCons (dC (.int 0)) (dCons (dAdd (dC (.int 1)) (dCall spTake (dCons (dVar 0) (dCons (dC (.int 9)) dNil)))) dNil)))) (gdName 5))
  (dSeq (dAsg (dOp rIxD (dLst (dCons (dOp rIxD (dVar 2) (dC (.int 0))) (dCons (dCall spContrary (dCons (dVar 1) (dCons (dOp rIxD (dVar 2) (dC (.int 0))) dNil))) dNil))) (dMod (dVar 4) (dC (.int 2)))) (gdName 6))
  (dSeq (dIfS (dB (dOp rGt (dVar 4) (dC (.int 3)))) (dAsg (dCall spAboveL (dCons (dVar 0) (dCons (dVar 1) dNil))) (gdName 6)) (dIfS (dB (dOp rGt (dVar 4) (dC (.int 1)))) (dAsg (dCall spTimes (dCons (dVar 1) (dCons (dVar 6) (dCons (dCall spNumber (dCons (dOp rIxD (dVar 5) (dC (.int 0))) (dCons (dOp rIxD (dVar 5) (dC (.int 1))) (dCons (dOp rIxD (dVar 5) (dC (.int 2))) dNil)))) dNil)))) (gdName 6)) dNext))
  (dDrop (dApp (dVar 2) (dVar 6))))))))
  (dRet (dCB rTupOfD (dCons (dVar 2) dNil)))))
def td_must_be_plan : DTS :=
  (dIfS (dNotT (dB (dCall spIsPlanP (dCons (dVar 0) (dCons (dVar 1) dNil))))) dNever dNext)
def td_sum_of : DTS :=
  (dSeq (dAsg (dC (.tuple [.int 0, .int 0, .int 1])) (gdName 1))
  (dSeq (dFor (diList (dVar 0)) (gdName 2) (dAsg (dCall spPlus (dCons (dVar 1) (dCons (dVar 2) dNil))) (gdName 1)))
  (dRet (dVar 1))))
def td__law_sum : DTS :=
  (dSeq (dAsg (dTup (dCons (dC (.int 0)) (dCons (dC (.int 0)) (dCons (dC (.int 1)) dNil)))) (gdName 1))
  (dSeq (dFor (diList (dVar 0)) (gdName 2) (dAsg (dCall spPlus (dCons (dVar 1) (dCons (dVar 2) dNil))) (gdName 1)))
  (dRet (dVar 1))))
section
variable {μ : Mu} {Qd : DK} {ds : List D}
theorem aboveB_N {d : Int} {x : N3} (ox : Ok x) : aboveB d (dN x) = decide (sg d x.a x.b = 1) := by
  show (isNum (dN x) && decide (sg d x.a x.b = 1)) = _
  rw [isNum_ok ox, Bool.true_and]
theorem aboveB_not {d : Int} {t : PyData} (h : isNum t = false) : aboveB d t = false := by
  unfold aboveB
  split
  · rw [h, Bool.false_and]
  · rfl
theorem isNum_form {t : PyData} (h : isNum t = true) : ∃ x : N3, t = dN x ∧ Ok x := by
  unfold isNum at h
  split at h
  · rename_i a b c
    simp only [Bool.and_eq_true, decide_eq_true_eq, beq_iff_eq] at h
    exact ⟨⟨a, b, c⟩, rfl, by show 0 < c; omega, h.2⟩
  · cases h
theorem rd_is_above_nought (h : spAboveQ ds μ Qd) : td_is_above_nought { nx := fun _ μ' => Qd (.v .none) μ', rt := Qd } (startD ["d", "thing"] ds) μ := by
  obtain ⟨d, t, rfl, hd, ft, bt, q⟩ := h
  unfold td_is_above_nought
  walk_at "rn"
  refine ⟨t, rfl, ft, ?_⟩
  walk_at "rn"
  cases e : isNum t with
  | true =>
    walk_at "rn"
    obtain ⟨x, rfl, ox⟩ := isNum_form e
    refine ⟨d, x, rfl, hd, bt x rfl, ?_⟩
    walk_at "rn"
    rw [aboveB_N ox] at q
    exact q
  | false =>
    walk_at "rn"
    rw [aboveB_not e] at q
    exact q
theorem dN_inj {x y : N3} (e : dN x = dN y) : x = y := by
  simp only [dN, PyData.tuple.injEq, List.cons.injEq, PyData.int.injEq, and_true] at e
  exact N3.ext' e.1 e.2.1 e.2.2
theorem rd_is_kinds (h : spKindsQ ds μ Qd) : td_is_kinds { nx := fun _ μ' => Qd (.v .none) μ', rt := Qd } (startD ["d", "thing"] ds) μ := by
  obtain ⟨d, ks, rfl, hd, l1, l3, hk, q⟩ := h
  unfold td_is_kinds
  have e0 : isT "tuple" (.tuple (ks.map dN)) = true := rfl
  walk_at "rn"
  rw [e0]
  walk_at "rn"
  have c1 : decide ((((ks.map dN).length : Nat) : Int) < 1) = false := by rw [List.length_map]; simp; omega
  have c2 : decide ((3 : Int) < (((ks.map dN).length : Nat) : Int)) = false := by rw [List.length_map]; simp; omega
  rw [c1, c2]
  simp only [Bool.false_eq_true, ↓reduceIte]
  refine ⟨by rw [List.length_map]; omega, fun _ => some (.bool true), fun t ht μ' _ => ⟨⟨trivial, trivial⟩, ?_⟩, ?_⟩
  · obtain ⟨k, hk', rfl⟩ := List.mem_map.mp ht
    obtain ⟨ok, bk, sk⟩ := hk k hk'
    refine ⟨d, dN k, rfl, hd, few_N, fun x e => by rw [← dN_inj e]; exact bk.mono (by decide), rfl, ?_⟩
    rw [aboveB_N ok, sk]; rfl
  · rw [fm_some (fun _ => PyData.bool true), asBools_map (fun _ => true)]
    have : ((ks.map dN).map fun _ => true).all id = true := by rw [List.all_eq_true]; intro x hx; obtain ⟨_, _, rfl⟩ := List.mem_map.mp hx; rfl
    dsimp only
    rw [this]
    exact q
theorem rd_must_be_kinds (h : spMustKinds ds μ Qd) : td_must_be_kinds { nx := fun _ μ' => Qd (.v .none) μ', rt := Qd } (startD ["d", "thing"] ds) μ := by
  obtain ⟨d, ks, rfl, hd, l1, l3, hk, q⟩ := h
  unfold td_must_be_kinds
  walk_at "rn"
  refine ⟨d, ks, rfl, hd, l1, l3, hk, ?_⟩
  walk_at "rn"
  exact q
def kindsInv (a p : Addr) (d : Int) (x : N3) (μ : Mu) (i : Nat) (ρ : Rho) (μ' : Mu) : Prop := ∃ (ks : List N3) (r3 r4 r5 r6 : Option D), ρ = [some (.m a), some (.v (.int d)), some (.m p), r3, r4, r5, r6] ∧ Bag μ' a ∧ (∀ b, b ≠ a → ∀ ds, μ b = some ds → μ' b = some ds) ∧ μ' p = some ((x :: ks).map dN) ∧ ks.length = i ∧ (∀ k ∈ x :: ks, Ok k ∧ Bd 60 k ∧ sg d k.a k.b = 1)
theorem rd__law_kinds (h : spKindsL ds μ Qd) : td__law_kinds { nx := fun _ μ' => Qd (.v .none) μ', rt := Qd } (startD ["_law_bag_here", "_law_d", "_law_found", "_law_turn", "_law_way", "_law_part", "_law_kind"] ds) μ := by
  obtain ⟨a, d, rfl, hd, hb, q⟩ := h
  have s5 := sz_d hd.1 hd.2.1
  unfold td__law_kinds
  walk_at "rn"
  refine ⟨a, d, rfl, hd, hb, fun x μ1 ox bx sx s1 => ?_⟩
  walk_at "rn"
  intro p hp
  have hap : a ≠ p := fun z => by obtain ⟨g, m, e, _⟩ := s1.1; rw [z, hp] at e; cases e
  have sb : Bag (muSet μ1 p [dN x]) a := by obtain ⟨g, m, e, z⟩ := s1.1; exact ⟨g, m, by rw [muSet_ne hap]; exact e, z⟩
  rw [q_for]
  walk_at "rn"
  refine ⟨a, 3, rfl, by decide, by decide, sb, fun n μ2 n0 n1 s2 => ?_⟩
  walk_at "rn"
  have keep2 : ∀ b, b ≠ a → ∀ ds, μ b = some ds → μ2 b = some ds := fun b hb' ds e => by
    have e1 := (s1.2 b hb').trans e
    have : b ≠ p := fun z => by rw [z, hp] at e1; cases e1
    rw [s2.2 b hb', muSet_ne this]; exact e1
  have hp2 : μ2 p = some ([x].map dN) := by rw [s2.2 p (fun z => hap z.symm)]; exact muSet_same
  refine ⟨⟨by omega, by omega⟩, kindsInv a p d x μ, ⟨[], _, _, _, _, rfl, s2.1, keep2, hp2, rfl, fun k hk => by rw [List.mem_singleton.mp hk]; exact ⟨ox, bx.mono (by decide), sx⟩⟩, ?_, ?_⟩
  · rintro i v ρ μ3 hv ⟨ks, r3, r4, r5, r6, rfl, hb3, kp, hpk, hl, hok⟩
    obtain ⟨rfl, hi⟩ := rngAt hv
    have hi2 : i < 2 := by omega
    walk_at "rn"
    refine ⟨a, 6, rfl, by decide, by decide, hb3, fun way μ4 w0 w1 s4 => ?_⟩
    walk_at "rn"
    refine ⟨a, 9, rfl, by decide, by decide, s4.1, fun t μ5 t0 t1 s5' => ?_⟩
    walk_at "rn"
    refine ⟨a, 9, rfl, by decide, by decide, s5'.1, fun u μ6 u0 u1 s6 => ?_⟩
    walk_at "rn"
    have s46 := s4.trans (s5'.trans s6)
    have hp6 : μ6 p = some (dN x :: ks.map dN) := by rw [s46.2 p (fun z => hap z.symm)]; exact hpk
    simp only [hp6]
    walk_at "rn"
    have nx := pos_norm hd ox sx
    have ocx := ok_contrary nx
    have bcx := bd_contrary s5 nx bx
    refine ⟨d, x, rfl, s5, nx, bx.mono (by decide), ?_⟩
    walk_at "rn"
    obtain ⟨m0, m1⟩ := fmod_rng way (show (0 : Int) < 2 by decide)
    obtain ⟨_, e1, k1, rfl, ok1, bk1, sk1⟩ := pick (P := fun v => ∃ k, v = dN k ∧ Ok k ∧ Bd 46 k ∧ sg d k.a k.b = 1) (xs := [dN x, dN (contrary d x)]) m0 (by exact m1) (by
      intro v hv
      simp only [List.mem_cons, List.not_mem_nil, or_false] at hv
      rcases hv with rfl | rfl
      · exact ⟨_, rfl, ox, bx.mono (by decide), sx⟩
      · exact ⟨_, rfl, ocx, bcx.mono (by decide), sg_contrary hd ox sx⟩)
    rw [e1]
    refine ⟨by decide, ?_⟩
    walk_at "rn"
    have fin : ∀ (μ7 : Mu) (k : N3) (r3 r4 r5 : Option D), Step a μ6 μ7 → Ok k → Bd 60 k → sg d k.a k.b = 1 → dApp (dVar 2) (dVar 6) [some (.m a), some (.v (.int d)), some (.m p), r3, r4, r5, some (.v (dN k))] μ7 (fun _ μ' => kindsInv a p d x μ (i + 1) [some (.m a), some (.v (.int d)), some (.m p), r3, r4, r5, some (.v (dN k))] μ') := fun μ7 k r3 r4 r5 s7 ok bk sk => by
      have s47 := s46.trans s7
      have hp7 : μ7 p = some (dN x :: ks.map dN) := by rw [s47.2 p (fun z => hap z.symm)]; exact hpk
      walk_at "rn"
      simp only [hp7]
      refine ⟨by simp; omega, ks ++ [k], _, _, _, _, rfl, ?_, fun b hb' ds e => ?_, ?_, by simp [hl], fun z hz => ?_⟩
      · obtain ⟨g, m, e, z⟩ := s47.1; exact ⟨g, m, by rw [muSet_ne hap]; exact e, z⟩
      · have h3 := kp b hb' ds e
        by_cases hbp : b = p
        · subst hbp
          exfalso
          have e1 := (s1.2 b hb').trans e
          rw [hp] at e1; cases e1
        · rw [muSet_ne hbp, s47.2 b hb']; exact h3
      · rw [muSet_same]; simp
      · rcases List.mem_cons.mp hz with z' | z'
        · exact hok z (by rw [z']; exact List.mem_cons_self)
        · rcases List.mem_append.mp z' with z'' | z''
          · exact hok z (List.mem_cons_of_mem _ z'')
          · rw [List.mem_singleton.mp z'']; exact ⟨ok, bk, sk⟩
    by_cases c1 : 3 < way
    · rw [if_pos (by simpa using c1)]
      refine ⟨a, d, rfl, hd, s6.1, fun k μ7 ok bk sk s7 => ?_⟩
      have := fin μ7 k (some (.v (.int (0 + (i : Int))))) (some (.v (.int way))) (some (.v (dN ⟨1 + t, 0, 1 + u⟩))) s7 ok (bk.mono (by decide)) sk
      walk_at "rn"
      exact this
    · rw [if_neg (by simpa using c1)]
      by_cases c2 : 1 < way
      · rw [if_pos (by simpa using c2)]
        have un : 1 + u ≠ 0 := by omega
        have z4 : ∀ v : Int, 0 ≤ v → v < 9 → Sz 4 (1 + v) := fun v h1 h2 => Sz.of (by show (1 + v).natAbs < 16; omega)
        have op := low_ok (1 + t) 0 un
        have bp : Bd 4 (low (1 + t) 0 (1 + u)) := low_bd un (z4 t t0 t1) (Sz.of (by show (0 : Int).natAbs < 16; decide)) (z4 u u0 u1)
        have hp' : sg d (low (1 + t) 0 (1 + u)).a (low (1 + t) 0 (1 + u)).b = 1 := by
          rw [sg_lowP hd (by omega)]
          unfold sg
          rw [if_neg (by omega), if_pos (by omega)]
        refine ⟨_, _, _, rfl, un, (z4 u u0 u1).mono (by decide), d, k1, _, rfl, s5, ok1, op, bk1.mono (by decide), bp.mono (by decide), ?_⟩
        exact fin μ6 _ _ _ _ (Step.refl s6.1) (ok_times ok1 op) ((bd_times s5 ok1 op bk1 bp).mono (by decide)) (by rw [sg_times hd ok1 op, sk1, hp']; rfl)
      · rw [if_neg (by simpa using c2)]
        exact fin μ6 k1 _ _ _ (Step.refl s6.1) ok1 (bk1.mono (by decide)) sk1
  · rintro ρ μ3 ⟨ks, r3, r4, r5, r6, rfl, hb3, kp, hpk, hl, hok⟩
    rw [rngLen] at hl
    walk_at "rn"
    simp only [hpk]
    exact q (x :: ks) μ3 ⟨by simp, by simp; omega, hok⟩ ⟨hb3, kp⟩
theorem rd_must_be_plan (h : spMustPlan ds μ Qd) : td_must_be_plan { nx := fun _ μ' => Qd (.v .none) μ', rt := Qd } (startD ["thing", "many"] ds) μ := by
  obtain ⟨t, m, rfl, hs, ho, q⟩ := h
  unfold td_must_be_plan
  walk_at "ru"
  refine ⟨t, m, rfl, hs, fun μ' k => ?_⟩
  walk_at "ru"
  rw [ho]
  simp only [Bool.not_true, Bool.false_eq_true, ↓reduceIte]
  exact q μ' k
theorem sum_step {l : List N3} {i : Nat} {x : N3} (h : l[i]? = some x) : sumN (l.take (i + 1)) = plus (sumN (l.take i)) x := by
  unfold sumN
  rw [List.take_succ, h]
  simp
theorem ok_sums {l : List N3} (h : ∀ x ∈ l, Ok x) : Ok (sumN l) := by
  unfold sumN
  have key : ∀ (l : List N3) (a : N3), Ok a → (∀ x ∈ l, Ok x) → Ok (l.foldl plus a) := fun l => by
    induction l with
    | nil => exact fun a oa _ => oa
    | cons x r ih => exact fun a oa h => ih _ (ok_plus oa (h x (by simp))) fun y hy => h y (by simp [hy])
  exact key l _ ok_nought h
theorem Sums.ok {l : List N3} (h : Sums l) (j : Nat) : Ok (sumN (l.take j)) := ok_sums fun x hx => (h.1 x (List.mem_of_mem_take hx)).1
theorem getN {l : List N3} {i : Nat} {x : PyData} (h : (l.map dN)[i]? = some x) : ∃ y, l[i]? = some y ∧ x = dN y := by
  rw [List.getElem?_map] at h
  cases e : l[i]? with
  | none => rw [e] at h; cases h
  | some y => rw [e] at h; exact ⟨y, rfl, by simpa using h.symm⟩
theorem rd_sum_of (h : spSum ds μ Qd) : td_sum_of { nx := fun _ μ' => Qd (.v .none) μ', rt := Qd } (startD ["shapes", "total", "shape"] ds) μ := by
  obtain ⟨l, rfl, hl, hs, q⟩ := h
  unfold td_sum_of
  walk_at "ru"
  rw [q_for]
  walk_at "ru"
  refine ⟨fun i ρ μ' => ∃ r2, ρ = [some (.v (.list (l.map dN))), some (.v (dN (sumN (l.take i)))), r2] ∧ μ' = μ, ⟨_, rfl, rfl⟩, ?_, ?_⟩
  · rintro i x ρ μ' hx ⟨r2, rfl, rfl⟩
    obtain ⟨y, hy, rfl⟩ := getN hx
    have hm := hs.1 y (List.mem_of_getElem? hy)
    walk_at "ru"
    refine ⟨_, y, rfl, hs.ok i, hm.1, hs.2 i, hm.2, ?_⟩
    exact ⟨_, by rw [sum_step hy], rfl⟩
  · rintro ρ μ' ⟨r2, rfl, rfl⟩
    walk_at "ru"
    rw [List.length_map, List.take_length]
    exact q
theorem rd__law_sum (h : spSum ds μ Qd) : td__law_sum { nx := fun _ μ' => Qd (.v .none) μ', rt := Qd } (startD ["_law_some", "_law_found", "_law_one"] ds) μ := rd_sum_of h
end
open PySem PySem.Spec PyProof.Rows NM
def G (d : Int) (x : N3) : Prop := Ok x ∧ norm d x ≠ 0 ∧ Bd 4300 x
inductive SP (d : Int) (ks : List N3) : Nat → PyData → N3 → Prop
  | kind {n : Nat} (i : Int) (k : N3) : 0 ≤ i → i < (ks.length : Nat) → ks[i.toNat]? = some k → SP d ks (n + 1) (.tuple [.str "kind", .int i]) k
  | turn {n : Nat} {t : PyData} {x : N3} : SP d ks n t x → G d x → SP d ks (n + 1) (.tuple [.str "turn", t]) (contrary d x)
  | grid {n : Nat} {t : PyData} {x : N3} (u v : Int) : 1 ≤ u → 1 ≤ v → u ≤ 1000000 → v ≤ 1000000 → SP d ks n t x → Ok x → Bd 4300 x → SP d ks (n + 1) (.tuple [.str "grid", .int u, .int v, t]) (times d x (low v 0 u))
  | upon {n : Nat} (es : List (PyData × N3)) : 2 ≤ es.length → es.length ≤ 8 → (∀ e ∈ es, SP d ks n e.1 e.2) → Sums (es.map (·.2)) → SP d ks (n + 1) (.tuple [.str "upon", .tuple (es.map (·.1))]) (sumN (es.map (·.2)))
  | beside {n : Nat} (es : List (PyData × N3)) : 2 ≤ es.length → es.length ≤ 8 → (∀ e ∈ es, SP d ks n e.1 e.2) → (∀ e ∈ es, G d e.2) → Sums ((es.map (·.2)).map (contrary d)) → G d (sumN ((es.map (·.2)).map (contrary d))) →
      SP d ks (n + 1) (.tuple [.str "beside", .tuple (es.map (·.1))]) (contrary d (sumN ((es.map (·.2)).map (contrary d))))
section
variable {d : Int} {ks : List N3} {n : Nat} {t : PyData} {x : N3}
theorem G.mate (h : G d x) : G d (mate x) := ⟨ok_mate h.1, by rw [norm_mate]; exact h.2.1, bd_mate h.2.2⟩
theorem sum_mate {l : List N3} (h : ∀ x ∈ l, Ok x) : sumN (l.map mate) = mate (sumN l) := by
  unfold sumN
  have key : ∀ (l : List N3) (a : N3), Ok a → (∀ x ∈ l, Ok x) → (l.map mate).foldl plus (mate a) = mate (l.foldl plus a) := fun l => by
    induction l with
    | nil => exact fun a _ _ => rfl
    | cons x r ih =>
        intro a oa h
        rw [List.map_cons, List.foldl_cons, List.foldl_cons, ← mate_plus oa (h x (by simp))]
        exact ih _ (ok_plus oa (h x (by simp))) fun y hy => h y (by simp [hy])
  exact key l nought ok_nought h
theorem Sums.mate {l : List N3} (h : Sums l) : Sums (l.map mate) := by
  refine ⟨fun x hx => ?_, fun j => ?_⟩
  · obtain ⟨y, hy, rfl⟩ := List.mem_map.mp hx
    exact ⟨ok_mate (h.1 y hy).1, bd_mate (h.1 y hy).2⟩
  · rw [← List.map_take, sum_mate fun x hx => (h.1 x (List.mem_of_mem_take hx)).1]
    exact bd_mate (h.2 j)
theorem SP.mate (h : SP d ks n t x) : SP d (ks.map mate) n t (mate x) := by
  induction h with
  | kind i k i0 i1 hk => exact .kind i _ i0 (by rw [List.length_map]; exact i1) (by rw [List.getElem?_map, hk]; rfl)
  | turn _ g ih => rw [mate_contrary g.1 g.2.1]; exact .turn ih g.mate
  | @grid n t x u v hu hv hu' hv' _ ox bx ih =>
    have e : NM.mate (times d x (low v 0 u)) = times d (NM.mate x) (low v 0 u) := by rw [mate_times ox (low_ok _ _ (by omega)), mate_frac]
    rw [e]
    exact .grid u v hu hv hu' hv' ih (ok_mate ox) (bd_mate bx)
  | @upon n es h2 h8 _ hs ih =>
    have := SP.upon (d := d) (ks := ks.map NM.mate) (n := n) (es.map fun e => (e.1, NM.mate e.2)) (by simpa using h2) (by simpa using h8) (fun e he => by obtain ⟨e', he', rfl⟩ := List.mem_map.mp he; exact ih e' he') (by
      have := hs.mate
      rw [List.map_map] at this ⊢
      exact this)
    rw [List.map_map, List.map_map] at this
    rw [← sum_mate fun x hx => (hs.1 x hx).1, List.map_map]
    exact this
  | @beside n es h2 h8 _ hg hs g ih =>
    have ec : ((es.map fun e => (e.1, NM.mate e.2)).map (·.2)).map (contrary d) = ((es.map (·.2)).map (contrary d)).map NM.mate := by
      rw [List.map_map, List.map_map, List.map_map, List.map_map]
      exact List.map_congr_left fun e he => (mate_contrary (hg e he).1 (hg e he).2.1).symm
    have es2 : sumN (((es.map (·.2)).map (contrary d)).map NM.mate) = NM.mate (sumN ((es.map (·.2)).map (contrary d))) := sum_mate fun x hx => (hs.1 x hx).1
    have := SP.beside (d := d) (ks := ks.map NM.mate) (n := n) (es.map fun e => (e.1, NM.mate e.2)) (by simpa using h2) (by simpa using h8) (fun e he => by obtain ⟨e', he', rfl⟩ := List.mem_map.mp he; exact ih e' he') (fun e he => by obtain ⟨e', he', rfl⟩ := List.mem_map.mp he; exact (hg e' he').mate)
      (by rw [ec]; exact hs.mate) (by rw [ec, es2]; exact g.mate)
    rw [ec, es2, ← mate_contrary g.1 g.2.1, List.map_map] at this
    exact this
theorem ht_sums (hd : Sz 5 d) {w : Nat} : ∀ (ys : List (Nat × N3)) (a : N3) (k : Nat), Ok a → Ht d k a → (∀ y ∈ ys, Ok y.2 ∧ 1 ≤ y.1 ∧ Ht d (y.1 * w - 7) y.2) → 26 ≤ w → Ht d (k + (ys.map (·.1)).sum * w) ((ys.map (·.2)).foldl plus a)
  | [], a, k, _, h, _, _ => h.mono (by simp)
  | y :: r, a, k, oa, h, g, hw => by
    obtain ⟨oy, c1, hy⟩ := g y (by simp)
    have h1 : Ht d (k + y.1 * w) (plus a y.2) := (ht_plus hd oa oy h hy).mono (by have : 7 ≤ y.1 * w := Nat.le_trans (by omega : 7 ≤ 1 * w) (Nat.mul_le_mul_right w c1); omega)
    have := ht_sums hd r (plus a y.2) _ (ok_plus oa oy) h1 (fun z hz => g z (by simp [hz])) hw
    rw [List.map_cons, List.map_cons, List.sum_cons, List.foldl_cons, Nat.add_mul, ← Nat.add_assoc]
    exact this
theorem pos_sums (h : IsRoot d) : ∀ (l : List N3) (a : N3), Ok a → (a = nought ∨ sg d a.a a.b = 1) → (∀ x ∈ l, Ok x ∧ sg d x.a x.b = 1) → l ≠ [] → sg d (l.foldl plus a).a (l.foldl plus a).b = 1
  | [], _, _, _, _, n => absurd rfl n
  | [x], a, oa, ha, g, _ => pos_plus h oa (g x (by simp)).1 ha (g x (by simp)).2
  | x :: y :: r, a, oa, ha, g, _ => pos_sums h (y :: r) (plus a x) (ok_plus oa (g x (by simp)).1) (.inr (pos_plus h oa (g x (by simp)).1 ha (g x (by simp)).2)) (fun z hz => g z (by simp [hz])) (by simp)
theorem choose_all {α β : Type} {R : α → β → Prop} : ∀ (l : List α), (∀ e ∈ l, ∃ x, R e x) → ∃ ys : List (α × β), ys.map (·.1) = l ∧ ∀ y ∈ ys, R y.1 y.2
  | [], _ => ⟨[], rfl, fun _ z => nomatch z⟩
  | e :: r, h => by
    obtain ⟨x, hx⟩ := h e (by simp)
    obtain ⟨ys, h1, h2⟩ := choose_all r fun e' he' => h e' (by simp [he'])
    refine ⟨(e, x) :: ys, by rw [List.map_cons, h1], fun y hy => ?_⟩
    rcases List.mem_cons.mp hy with z | z
    · rw [z]; exact hx
    · exact h2 y z
structure Fine (d : Int) (w c : Nat) (x : N3) : Prop where
  ok : Ok x
  pos : sg d x.a x.b = 1
  ht : Ht d (c * w - 7) x
theorem Fine.g {w c : Nat} (h : IsRoot d) (f : Fine d w c x) (hc : c * w ≤ 2140) : G d x := ⟨f.ok, pos_norm h f.ok f.pos, (bd_ht (sz_d h.1 h.2.1) f.ok f.ht).mono (by omega)⟩
theorem Fine.con {w c : Nat} (h : IsRoot d) (f : Fine d w c x) : Fine d w c (contrary d x) := ⟨ok_contrary (pos_norm h f.ok f.pos), sg_contrary h f.ok f.pos, ht_contrary f.ok (pos_norm h f.ok f.pos) f.ht⟩
theorem fine_sum (h : IsRoot d) {w : Nat} (hw : 26 ≤ w) (ys : List (Nat × N3)) (hy : ∀ y ∈ ys, 1 ≤ y.1 ∧ Fine d w y.1 y.2) (hc : ((ys.map (·.1)).sum + 1) * w ≤ 2140) (hne : ys ≠ []) :
    Sums (ys.map (·.2)) ∧ Fine d w ((ys.map (·.1)).sum + 1) (sumN (ys.map (·.2))) := by
  have hd : Sz 5 d := sz_d h.1 h.2.1
  have ht0 : Ht d 1 nought := ht_bd ok_nought ⟨Sz.of (by decide), Sz.of (by decide), Sz.of (by decide)⟩
  have all : ∀ y ∈ ys, Ok y.2 ∧ 1 ≤ y.1 ∧ Ht d (y.1 * w - 7) y.2 := fun y z => ⟨(hy y z).2.ok, (hy y z).1, (hy y z).2.ht⟩
  have tot := ht_sums hd ys nought 1 ok_nought ht0 all hw
  have e1 : ((ys.map (·.1)).sum + 1) * w = (ys.map (·.1)).sum * w + w := by rw [Nat.add_mul, Nat.one_mul]
  have oks : ∀ x ∈ ys.map (·.2), Ok x := fun x hx => by obtain ⟨y, z, rfl⟩ := List.mem_map.mp hx; exact (hy y z).2.ok
  have le_sum : ∀ (l : List (Nat × N3)) y, y ∈ l → y.1 ≤ (l.map (·.1)).sum := fun l => by
    induction l with
    | nil => exact fun y z => (nomatch z)
    | cons a r ih =>
        intro y z
        rw [List.map_cons, List.sum_cons]
        rcases List.mem_cons.mp z with q | q
        · rw [q]; omega
        · have := ih y q; omega
  have take_le : ∀ (l : List (Nat × N3)) (j : Nat), ((l.take j).map (·.1)).sum ≤ (l.map (·.1)).sum := fun l => by
    induction l with
    | nil => intro j; simp
    | cons a r ih => intro j; cases j with
      | zero => simp
      | succ j => rw [List.take_succ_cons, List.map_cons, List.map_cons, List.sum_cons, List.sum_cons]; have := ih j; omega
  refine ⟨⟨fun x hx => ?_, fun j => ?_⟩, ok_sums oks, pos_sums h _ _ ok_nought (.inl rfl) (fun x hx => ?_) (by simpa using hne), tot.mono (by omega)⟩
  · obtain ⟨y, z, rfl⟩ := List.mem_map.mp hx
    have := le_sum ys y z
    have m1 : y.1 * w ≤ (ys.map (·.1)).sum * w := Nat.mul_le_mul_right w this
    exact ⟨(hy y z).2.ok, (bd_ht hd (hy y z).2.ok (hy y z).2.ht).mono (by omega)⟩
  · have t1 := ht_sums hd (ys.take j) nought 1 ok_nought ht0 (fun y z => all y (List.mem_of_mem_take z)) hw
    have m1 : ((ys.take j).map (·.1)).sum * w ≤ (ys.map (·.1)).sum * w := Nat.mul_le_mul_right w (take_le ys j)
    rw [← List.map_take]
    exact (bd_ht hd (ok_sums fun x hx => oks x (by rw [List.map_take] at hx; exact List.mem_of_mem_take hx)) t1).mono (by omega)
  · obtain ⟨y, z, rfl⟩ := List.mem_map.mp hx
    exact ⟨(hy y z).2.ok, (hy y z).2.pos⟩
theorem ne_of_two {α β γ : Type} {f : α → β} {g : α → γ} {zs : List α} (h : 2 ≤ (zs.map f).length) : zs.map g ≠ [] := fun q => by
  have : zs = [] := by simpa using q
  subst this
  simp at h
theorem mk_sp (h : IsRoot d) {w : Nat} (hw : 26 ≤ w) (hk : ∀ k ∈ ks, Fine d w 1 k) {dd c : Nat} (p : IsP (ks.length : Nat) dd c t) : c * w ≤ 2140 → ∀ n, dd ≤ n → ∃ x, SP d ks n t x ∧ Fine d w c x := by
  have hd : Sz 5 d := sz_d h.1 h.2.1
  have many : ∀ {n : Nat} (es : List (Nat × Nat × PyData)) (d0 : Nat), 2 ≤ es.length → (∀ e ∈ es, e.1 ≤ d0) → (∀ e ∈ es, IsP (ks.length : Nat) e.1 e.2.1 e.2.2) → (∀ e ∈ es, e.2.1 * w ≤ 2140 → ∀ n, e.1 ≤ n → ∃ x, SP d ks n e.2.2 x ∧ Fine d w e.2.1 x) → ((es.map (·.2.1)).sum + 1) * w ≤ 2140 → d0 ≤ n →
      ∃ zs : List ((Nat × Nat × PyData) × N3), zs.map (·.1) = es ∧ ∀ z ∈ zs, SP d ks n z.1.2.2 z.2 ∧ Fine d w z.1.2.1 z.2 ∧ 1 ≤ z.1.2.1 := fun {n} es d0 _ he hp ih hc hn => by
    have le_sum : ∀ (l : List (Nat × Nat × PyData)) e, e ∈ l → e.2.1 ≤ (l.map (·.2.1)).sum := fun l => by
      induction l with
      | nil => exact fun y z => (nomatch z)
      | cons a r ih =>
          intro y z
          rw [List.map_cons, List.sum_cons]
          rcases List.mem_cons.mp z with q | q
          · rw [q]; omega
          · have := ih y q; omega
    refine choose_all (R := fun e x => SP d ks n e.2.2 x ∧ Fine d w e.2.1 x ∧ 1 ≤ e.2.1) es fun e hee => ?_
    have m1 : e.2.1 * w ≤ ((es.map (·.2.1)).sum + 1) * w := Nat.mul_le_mul_right w (by have := le_sum es e hee; omega)
    obtain ⟨x, h1, h2⟩ := ih e hee (by omega) n (by have := he e hee; omega)
    exact ⟨x, h1, h2, (hp e hee).pos.2⟩
  induction p with
  | kind i i0 i1 =>
    intro _ n hn
    obtain ⟨n, rfl⟩ : ∃ m, n = m + 1 := ⟨n - 1, by omega⟩
    have hi : i.toNat < ks.length := by omega
    exact ⟨ks[i.toNat], .kind i _ i0 i1 (by simp [hi]), hk _ (List.getElem_mem hi)⟩
  | @turn dd c t hh ih =>
    intro hc n hn
    obtain ⟨n, rfl⟩ : ∃ m, n = m + 1 := ⟨n - 1, by omega⟩
    have e1 : (c + 1) * w = c * w + w := by rw [Nat.add_mul, Nat.one_mul]
    obtain ⟨x, h1, h2⟩ := ih (by omega) n (by omega)
    have f := h2.con h
    exact ⟨_, .turn h1 (h2.g h (by omega)), f.ok, f.pos, f.ht.mono (by omega)⟩
  | @grid dd c t u v hu hv hu' hv' hh ih =>
    intro hc n hn
    obtain ⟨n, rfl⟩ : ∃ m, n = m + 1 := ⟨n - 1, by omega⟩
    have e1 : (c + 1) * w = c * w + w := by rw [Nat.add_mul, Nat.one_mul]
    obtain ⟨x, h1, h2⟩ := ih (by omega) n (by omega)
    have g := h2.g h (by omega)
    have of : Ok (low v 0 u) := low_ok _ _ (by omega)
    have bf : Bd 20 (low v 0 u) := low_bd (by omega) (Sz.of (by show v.natAbs < 1048576; omega)) sz0 (Sz.of (by show u.natAbs < 1048576; omega))
    have c1 : 7 ≤ c * w := Nat.le_trans (by omega : 7 ≤ 1 * w) (Nat.mul_le_mul_right w hh.pos.2)
    refine ⟨_, .grid u v hu hv hu' hv' h1 g.1 g.2.2, ok_times g.1 of, ?_, (ht_times hd g.1 of h2.ht (ht_bd of bf)).mono (by omega)⟩
    rw [sg_timesP h g.1 of, h2.pos, sg_lowP h (by omega)]
    have : sg d v 0 = 1 := (sg_one h).mpr (.inl ⟨by omega, by omega, by omega⟩)
    rw [this]; rfl
  | @upon d0 es h2 h8 he hp ih =>
    intro hc n hn
    obtain ⟨n, rfl⟩ : ∃ m, n = m + 1 := ⟨n - 1, by omega⟩
    obtain ⟨zs, rfl, hz⟩ := many es d0 h2 he hp ih hc (by omega : d0 ≤ n)
    have es1 : (zs.map fun z => (z.1.2.1, z.2)).map (·.1) = (zs.map (·.1)).map (·.2.1) := by rw [List.map_map, List.map_map]; rfl
    have es2 : (zs.map fun z => (z.1.2.1, z.2)).map (·.2) = zs.map (·.2) := by rw [List.map_map]; rfl
    obtain ⟨s1, s2⟩ := fine_sum h hw (zs.map fun z => (z.1.2.1, z.2)) (fun y hy => by obtain ⟨z, q, rfl⟩ := List.mem_map.mp hy; exact ⟨(hz z q).2.2, (hz z q).2.1⟩) (by rw [es1]; exact hc) (ne_of_two h2)
    rw [es1, es2] at s2
    rw [es2] at s1
    refine ⟨_, ?_, s2⟩
    have := SP.upon (d := d) (ks := ks) (n := n) (zs.map fun z => (z.1.2.2, z.2)) (by simpa using h2) (by simpa using h8) (fun e q => by obtain ⟨z, qz, rfl⟩ := List.mem_map.mp q; exact (hz z qz).1) (by rw [List.map_map]; exact s1)
    rw [List.map_map, List.map_map] at this
    rw [List.map_map]
    exact this
  | @beside d0 es h2 h8 he hp ih =>
    intro hc n hn
    obtain ⟨n, rfl⟩ : ∃ m, n = m + 1 := ⟨n - 1, by omega⟩
    obtain ⟨zs, rfl, hz⟩ := many es d0 h2 he hp ih hc (by omega : d0 ≤ n)
    have le_sum : ∀ (l : List ((Nat × Nat × PyData) × N3)) z, z ∈ l → z.1.2.1 ≤ ((l.map (·.1)).map (·.2.1)).sum := fun l => by
      induction l with
      | nil => exact fun y z => (nomatch z)
      | cons a r ih =>
          intro y z
          rw [List.map_cons, List.map_cons, List.sum_cons]
          rcases List.mem_cons.mp z with q | q
          · rw [q]; omega
          · have := ih y q; omega
    have es1 : (zs.map fun z => (z.1.2.1, contrary d z.2)).map (·.1) = (zs.map (·.1)).map (·.2.1) := by rw [List.map_map, List.map_map]; rfl
    have es2 : (zs.map fun z => (z.1.2.1, contrary d z.2)).map (·.2) = (zs.map (·.2)).map (contrary d) := by rw [List.map_map, List.map_map]; rfl
    obtain ⟨s1, s2⟩ := fine_sum h hw (zs.map fun z => (z.1.2.1, contrary d z.2)) (fun y hy => by obtain ⟨z, q, rfl⟩ := List.mem_map.mp hy; exact ⟨(hz z q).2.2, (hz z q).2.1.con h⟩) (by rw [es1]; exact hc) (ne_of_two h2)
    rw [es1, es2] at s2
    rw [es2] at s1
    refine ⟨_, ?_, s2.con h⟩
    have em : (zs.map fun z => (z.1.2.2, z.2)).map (·.2) = zs.map (·.2) := by rw [List.map_map]; rfl
    have := SP.beside (d := d) (ks := ks) (n := n) (zs.map fun z => (z.1.2.2, z.2)) (by simpa using h2) (by simpa using h8) (fun e q => by obtain ⟨z, qz, rfl⟩ := List.mem_map.mp q; exact (hz z qz).1)
      (fun e q => by
        obtain ⟨z, qz, rfl⟩ := List.mem_map.mp q
        have m1 : z.1.2.1 * w ≤ (((zs.map (·.1)).map (·.2.1)).sum + 1) * w := Nat.mul_le_mul_right w (by have := le_sum zs z qz; omega)
        exact (hz z qz).2.1.g h (by omega)) (by rw [em]; exact s1) (by rw [em]; exact s2.g h hc)
    rw [em, List.map_map] at this
    rw [List.map_map]
    exact this
end
open PySem PySem.Spec PyProof.Rows NM
def seqOf (b : Bool) (ks : List N3) : PyData := if b = true then .list (ks.map dN) else .tuple (ks.map dN)
def spMade (n : Nat) : DSp := fun ds μ Q => ∃ (d : Int) (ks : List N3) (b : Bool) (t : PyData) (x : N3), ds = [.v (.int d), .v (seqOf b ks), .v t] ∧ IsRoot d ∧ Sh t ∧ SP d ks n t x ∧ ∀ μ', (∀ b ds, μ b = some ds → μ' b = some ds) → Q (.v (dN x)) μ'
theorem len_spMade {n : Nat} {μ : Mu} {Q : DK} {ds : List D} (h : spMade n ds μ Q) : ds.length = 3 := by obtain ⟨_, _, _, _, _, rfl, _⟩ := h; rfl
theorem spMade0 {μ : Mu} {Q : DK} {ds : List D} (h : spMade 0 ds μ Q) : False := by obtain ⟨_, _, _, _, _, _, _, _, h, _⟩ := h; cases h
abbrev spShapeL (n : Nat) : DSp := spMade n
theorem len_spShapeL {n : Nat} {μ : Mu} {Q : DK} {ds : List D} (h : spShapeL n ds μ Q) : ds.length = 3 := len_spMade h
theorem spShapeL0 {μ : Mu} {Q : DK} {ds : List D} (h : spShapeL 0 ds μ Q) : False := spMade0 h
def spShapeOf : DSp := fun ds μ Q => ∃ (d : Int) (ks : List N3) (t : PyData) (x : N3), ds = [.v (.int d), .v (.tuple (ks.map dN)), .v t] ∧ IsRoot d ∧ KindsOk d ks ∧ Sh t ∧ okN (cnt (ks.length : Nat) 12 t) = true ∧ SP d ks 13 t x ∧ ∀ μ', (∀ b ds, μ b = some ds → μ' b = some ds) → Q (.v (dN x)) μ'
theorem len_spShapeOf {μ : Mu} {Q : DK} {ds : List D} (h : spShapeOf ds μ Q) : ds.length = 3 := by obtain ⟨_, _, _, _, rfl, _⟩ := h; rfl
def spMateShape : DSp := fun ds μ Q => ∃ (d : Int) (ks : List N3) (t : PyData) (x : N3), ds = [.v (.int d), .v (.tuple (ks.map dN)), .v t] ∧ IsRoot d ∧ KindsOk d ks ∧ Sh t ∧ okN (cnt (ks.length : Nat) 12 t) = true ∧ SP d ks 13 t x ∧ ∀ μ', (∀ b ds, μ b = some ds → μ' b = some ds) → Q (.v (dN (mate x))) μ'
theorem len_spMateShape {μ : Mu} {Q : DK} {ds : List D} (h : spMateShape ds μ Q) : ds.length = 3 := by obtain ⟨_, _, _, _, rfl, _⟩ := h; rfl
def spFew : DSp := fun ds μ Q => ∃ (a : Addr) (d : Int) (ks : List N3) (t : PyData) (dd c : Nat), ds = [.m a, .v (.int d), .v (.tuple (ks.map dN)), .v t] ∧ IsRoot d ∧ KindsOk d ks ∧ IsP (ks.length : Nat) dd c t ∧ dd ≤ 12 ∧ Bag μ a ∧
  ∀ ks' μ', KindsOk d ks' → ks'.length = ks.length → (c ≤ 12 ∨ ∀ k ∈ ks', Bd 4 k) → StepW a μ μ' → Q (.v (.tuple (ks'.map dN))) μ'
theorem len_spFew {μ : Mu} {Q : DK} {ds : List D} (h : spFew ds μ Q) : ds.length = 4 := by obtain ⟨_, _, _, _, _, _, rfl, _⟩ := h; rfl
def td_made_of (n : Nat) : DTS :=
  (dSeq (dAsg (dOp rIxD (dVar 2) (dC (.int 0))) (gdName 3))
  (dSeq (dIfS (dB (dOp (rEqD false) (dVar 3) (dC (.str "kind")))) (dRet (dOp rIxD (dVar 1) (dOp rIxD (dVar 2) (dC (.int 1))))) dNext)
  (dSeq (dAsg (dCompI [none, some 0, some 1] (diList (dCall spParts (dCons (dVar 2) dNil))) (gdName 0) dTrue (dCall (spMade n) (dCons (dVar 1) (dCons (dVar 2) (dCons (dVar 0) dNil))))) (gdName 4))
  (dSeq (dIfS (dB (dOp (rEqD false) (dVar 3) (dC (.str "turn")))) (dRet (dCall spContrary (dCons (dVar 0) (dCons (dOp rIxD (dVar 4) (dC (.int 0))) dNil)))) dNext)
  (dSeq (dIfS (dB (dOp (rEqD false) (dVar 3) (dC (.str "grid")))) (dRet (dCall spTimes (dCons (dVar 0) (dCons (dOp rIxD (dVar 4) (dC (.int 0))) (dCons (dCall spNumber (dCons (dOp rIxD (dVar 2) (dC (.int 2))) (dCons (dC (.int 0)) (dCons (dOp rIxD (dVar 2) (dC (.int 1))) dNil)))) dNil))))) dNext)
  (dSeq (dIfS (dB (dOp (rEqD false) (dVar 3) (dC (.str "upon")))) (dRet (dCall spSum (dCons (dVar 4) dNil))) dNext)
  (dRet (dCall spContrary (dCons (dVar 0) (dCons (dCall spSum (dCons (dCompI [none, some 0] (diList (dVar 4)) (gdName 0) dTrue (dCall spContrary (dCons (dVar 1) (dCons (dVar 0) dNil)))) dNil)) dNil))))))))))
def td__law_shape (n : Nat) : DTS :=
  (dSeq (dIfS (dB (dOp (rEqD false) (dOp rIxD (dVar 2) (dC (.int 0))) (dC (.str "kind")))) (dRet (dOp rIxD (dVar 1) (dOp rIxD (dVar 2) (dC (.int 1))))) dNext)
  (dSeq (dIfS (dB (dOp (rEqD false) (dOp rIxD (dVar 2) (dC (.int 0))) (dC (.str "turn")))) (dRet (dCall spContrary (dCons (dVar 0) (dCons (dCall (spShapeL n) (dCons (dVar 0) (dCons (dVar 1) (dCons (dOp rIxD (dVar 2) (dC (.int 1))) dNil)))) dNil)))) dNext)
  (dSeq (dIfS (dB (dOp (rEqD false) (dOp rIxD (dVar 2) (dC (.int 0))) (dC (.str "grid")))) (dRet (dCall spTimes (dCons (dVar 0) (dCons (dCall (spShapeL n) (dCons (dVar 0) (dCons (dVar 1) (dCons (dOp rIxD (dVar 2) (dC (.int 3))) dNil)))) (dCons (dCall spNumber (dCons (dOp rIxD (dVar 2) (dC (.int 2))) (dCons (dC (.int 0)) (dCons (dOp rIxD (dVar 2) (dC (.int 1))) dNil)))) dNil))))) dNext)
  (dSeq (dAsg (dCompI [none, some 0, some 1] (diTup (dOp rIxD (dVar 2) (dC (.int 1)))) (gdName 0) dTrue (dCall (spShapeL n) (dCons (dVar 1) (dCons (dVar 2) (dCons (dVar 0) dNil))))) (gdName 3))
  (dSeq (dIfS (dB (dOp (rEqD false) (dOp rIxD (dVar 2) (dC (.int 0))) (dC (.str "upon")))) (dRet (dCall spSum (dCons (dVar 3) dNil))) dNext)
  (dRet (dCall spContrary (dCons (dVar 0) (dCons (dCall spSum (dCons (dCompI [none, some 0] (diList (dVar 3)) (gdName 0) dTrue (dCall spContrary (dCons (dVar 1) (dCons (dVar 0) dNil)))) dNil)) dNil)))))))))
def td_shape_of : DTS :=
  (dSeq (dDrop (dCall spMustKinds (dCons (dVar 0) (dCons (dVar 1) dNil))))
  (dSeq (dDrop (dCall spMustPlan (dCons (dVar 2) (dCons (dCB rLenD (dCons (dVar 1) dNil)) dNil))))
  (dRet (dCall (spMade 13) (dCons (dVar 0) (dCons (dVar 1) (dCons (dVar 2) dNil)))))))
def td_mate_shape : DTS :=
  (dSeq (dDrop (dCall spMustKinds (dCons (dVar 0) (dCons (dVar 1) dNil))))
  (dSeq (dDrop (dCall spMustPlan (dCons (dVar 2) (dCons (dCB rLenD (dCons (dVar 1) dNil)) dNil))))
  (dRet (dCall (spMade 13) (dCons (dVar 0) (dCons (dComp [none] (diTup (dVar 1)) (gdName 0) dTrue (dCall spMate (dCons (dVar 0) dNil))) (dCons (dVar 2) dNil)))))))
section
variable {μ : Mu} {Qd : DK} {ds : List D} {ρ : Rho} {d : Int} {ks : List N3} {n : Nat} {b : Bool}
theorem ix_seq {i : Int} {k : N3} (i0 : 0 ≤ i) (h : ks[i.toNat]? = some k) (q : Qd (.v (dN k)) μ) : rIxD (.v (seqOf b ks)) (.v (.int i)) μ Qd := by
  have e : atI (ks.map dN) i = some (dN k) := by
    have := atI_nat (xs := ks.map dN) (j := i.toNat) (v := dN k) (by rw [List.getElem?_map, h]; rfl)
    rw [show ((i.toNat : Nat) : Int) = i by omega] at this
    exact this
  cases b with
  | true => show rIxD (.v (.list (ks.map dN))) _ _ _; rw [q_ixL, e]; exact q
  | false => show rIxD (.v (.tuple (ks.map dN))) _ _ _; rw [q_ixT, e]; exact q
theorem comp_made {src : DTI} {es : List (PyData × N3)} (hs : ∀ QI : List PyData → Mu → Prop, QI (es.map (·.1)) μ → src ρ μ QI) (hl : es.length ≤ 8) (hd : IsRoot d) (h0 : ρ[0]? = some (some (.v (.int d)))) (h1 : ρ[1]? = some (some (.v (seqOf b ks))))
    (hh : ∀ e ∈ es, Sh e.1 ∧ SP d ks n e.1 e.2) (q : ∀ μ', (∀ b ds, μ b = some ds → μ' b = some ds) → Qd (.v (.list ((es.map (·.2)).map dN))) μ') :
    dCompI [none, some 0, some 1] src (gdName 0) dTrue (dCall (spMade n) (dCons (dVar 1) (dCons (dVar 2) (dCons (dVar 0) dNil)))) ρ μ Qd := by
  rw [q_compI]
  refine hs _ ⟨by rw [List.length_map]; omega, fun p hp => ⟨fun i acc μ' => acc = ((es.take i).map (·.2)).map dN ∧ ∀ b ds, b ≠ p → μ b = some ds → μ' b = some ds, ⟨by simp, fun b ds hb e => by rw [muSet_ne hb]; exact e⟩, ?_, ?_⟩⟩
  · rintro i x acc μ' hx hacc ⟨rfl, hk⟩
    rw [List.getElem?_map] at hx
    obtain ⟨e, he, rfl⟩ : ∃ e, es[i]? = some e ∧ e.1 = x := by
      cases z : es[i]? with
      | none => rw [z] at hx; cases hx
      | some e => rw [z] at hx; exact ⟨e, rfl, by simpa using hx⟩
    have hm := hh e (List.mem_of_getElem? he)
    simp only [q_gName, q_capC, q_capN, h0, h1, Option.bind_some, Option.bind_none, Option.join_some, List.set_cons_zero, q_true, ↓reduceIte, q_le0, q_le1, q_leN, true_and, and_true, q_call, q_cons, q_nil, q_var0, q_var1, q_var2]
    refine ⟨d, ks, b, e.1, e.2, rfl, hd, hm.1, hm.2, fun μ4 h4 => ⟨h4 _ _ hacc, ?_, fun b ds hb e' => by rw [muSet_ne hb]; exact h4 b ds (hk b ds hb e')⟩⟩
    rw [List.take_succ, he]; simp
  · rintro acc μ' ⟨rfl, hk⟩ hacc
    rw [List.length_map, List.take_length]
    exact q _ fun b ds e => by
      have hb : b ≠ p := fun z => by rw [z, hp] at e; cases e
      rw [muDel_ne hb]; exact hk b ds hb e
theorem comp_con {src : DTI} {xs : List N3} (hs : ∀ QI : List PyData → Mu → Prop, QI (xs.map dN) μ → src ρ μ QI) (hl : xs.length ≤ 8) (hd : IsRoot d) (h0 : ρ[0]? = some (some (.v (.int d)))) (hh : ∀ x ∈ xs, G d x)
    (q : Qd (.v (.list ((xs.map (contrary d)).map dN))) μ) : dCompI [none, some 0] src (gdName 0) dTrue (dCall spContrary (dCons (dVar 1) (dCons (dVar 0) dNil))) ρ μ Qd := by
  rw [q_compI]
  refine hs _ ⟨by rw [List.length_map]; omega, fun p hp => ⟨fun i acc μ' => acc = ((xs.take i).map (contrary d)).map dN ∧ μ' = muSet μ p acc, ⟨by simp, rfl⟩, ?_, ?_⟩⟩
  · rintro i x acc μ' hx hacc ⟨rfl, rfl⟩
    obtain ⟨y, hy, rfl⟩ := getN hx
    have g := hh y (List.mem_of_getElem? hy)
    simp only [q_gName, q_capC, q_capN, h0, Option.bind_some, Option.bind_none, Option.join_some, List.set_cons_zero, q_true, ↓reduceIte, q_le0, q_le1, q_leN, true_and, and_true, q_call, q_cons, q_nil, q_var0, q_var1]
    refine ⟨d, y, rfl, sz_d hd.1 hd.2.1, g.2.1, g.2.2, hacc, ?_, ?_⟩
    · rw [List.take_succ, hy]; simp
    · rw [muSet_set]
  · rintro acc μ' ⟨rfl, rfl⟩ hacc
    rw [muDel_set hp, List.length_map, List.take_length]
    exact q
theorem sum_len {es : List (PyData × N3)} : (es.map (·.2)).length = es.length := List.length_map _
theorem rd_made_of (n : Nat) (h : spMade (n + 1) ds μ Qd) : td_made_of n { nx := fun _ μ' => Qd (.v .none) μ', rt := Qd } (startD ["d", "shapes", "plan", "word", "inner"] ds) μ := by
  obtain ⟨d, ks, b, t, x, rfl, hd, hs, sp, q⟩ := h
  have hz := sz_d hd.1 hd.2.1
  unfold td_made_of
  cases sp with
  | kind i k i0 i1 hk =>
    walk_at "ru"
    simp only [q_eqW s_sk s_sk, t_kk, Bool.false_xor, ↓reduceIte]
    exact ix_seq i0 hk (q μ fun _ _ e => e)
  | @turn _ t' y h1 g =>
    walk_at "ru"
    simp only [q_eqW s_st s_sk, t_tk, Bool.false_xor, Bool.false_eq_true, ↓reduceIte]
    refine comp_made (es := [(t', y)]) (fun QI hq => ?_) (by simp) hd rfl rfl (fun e he => by rw [List.mem_singleton.mp he]; exact ⟨hs.mem t' (by simp), h1⟩) fun μ1 k1 => ?_
    · walk_at "ru"
      exact ⟨_, 1, [t'], rfl, hs, by show form2 1 (.str "turn") t' = _; unfold form2; rw [if_neg (by rw [t_tk]; decide), if_pos t_tt], hq⟩
    walk_at "ru"
    simp only [List.map_cons, List.map_nil, q_eqW s_st s_st, t_tt, Bool.false_xor, ↓reduceIte, q_ixL0]
    exact ⟨d, y, rfl, hz, g.2.1, g.2.2, q μ1 k1⟩
  | @grid _ t' y u v hu hv hu' hv' h1 oy by_ =>
    walk_at "ru"
    simp only [q_eqW s_sg s_sk, t_gk, Bool.false_xor, Bool.false_eq_true, ↓reduceIte]
    refine comp_made (es := [(t', y)]) (fun QI hq => ?_) (by simp) hd rfl rfl (fun e he => by rw [List.mem_singleton.mp he]; exact ⟨hs.mem t' (by simp), h1⟩) fun μ1 k1 => ?_
    · walk_at "ru"
      refine ⟨_, 1, [t'], rfl, hs, ?_, hq⟩
      show form4 (.str "grid") (.int u) (.int v) t' = _
      unfold form4
      rw [if_pos t_gg, if_pos]
      show ((true && decide (1 ≤ u)) && (true && decide (1 ≤ v))) = true
      rw [decide_eq_true hu, decide_eq_true hv]; rfl
    walk_at "ru"
    simp only [List.map_cons, List.map_nil, q_eqW s_sg s_st, q_eqW s_sg s_sg, t_gt, t_gg, Bool.false_xor, Bool.false_eq_true, ↓reduceIte, q_ixL0]
    have bf : Bd 20 (low v 0 u) := low_bd (by omega) (Sz.of (by show v.natAbs < 1048576; omega)) sz0 (Sz.of (by show u.natAbs < 1048576; omega))
    refine ⟨v, 0, u, rfl, by omega, (Sz.of (n := 20) (by show u.natAbs < 1048576; omega)).mono (by decide), ?_⟩
    exact ⟨d, y, low v 0 u, rfl, hz, oy, low_ok _ _ (by omega), by_, bf.mono (by decide), q μ1 k1⟩
  | @upon _ es h2 h8 hh ss =>
    walk_at "ru"
    simp only [q_eqW s_su s_sk, t_uk, Bool.false_xor, Bool.false_eq_true, ↓reduceIte]
    have hp : ∀ e ∈ es, Sh e.1 := fun e he => (hs.mem (.tuple (es.map (·.1))) (by simp)).mem e.1 (List.mem_map_of_mem he)
    refine comp_made (es := es) (fun QI hq => ?_) h8 hd rfl rfl (fun e he => ⟨hp e he, hh e he⟩) fun μ1 k1 => ?_
    · walk_at "ru"
      exact ⟨_, 1, _, rfl, hs, form_many (.inl rfl) (by simpa using h2) (by simpa using h8), hq⟩
    walk_at "ru"
    simp only [q_eqW s_su s_st, q_eqW s_su s_sg, q_eqW s_su s_su, t_ut, t_ug, t_uu, Bool.false_xor, Bool.false_eq_true, ↓reduceIte]
    exact ⟨_, rfl, by rw [sum_len]; omega, ss, q μ1 k1⟩
  | @beside _ es h2 h8 hh hg ss g =>
    walk_at "ru"
    simp only [q_eqW s_sb s_sk, t_bk, Bool.false_xor, Bool.false_eq_true, ↓reduceIte]
    have hp : ∀ e ∈ es, Sh e.1 := fun e he => (hs.mem (.tuple (es.map (·.1))) (by simp)).mem e.1 (List.mem_map_of_mem he)
    refine comp_made (es := es) (fun QI hq => ?_) h8 hd rfl rfl (fun e he => ⟨hp e he, hh e he⟩) fun μ1 k1 => ?_
    · walk_at "ru"
      exact ⟨_, 1, _, rfl, hs, form_many (.inr rfl) (by simpa using h2) (by simpa using h8), hq⟩
    walk_at "ru"
    simp only [q_eqW s_sb s_st, q_eqW s_sb s_sg, q_eqW s_sb s_su, t_bt, t_bg, t_bu, Bool.false_xor, Bool.false_eq_true, ↓reduceIte]
    refine comp_con (xs := es.map (·.2)) (fun QI hq => by walk_at "ru"; exact hq) (by rw [sum_len]; exact h8) hd rfl (fun x hx => by obtain ⟨e, he, rfl⟩ := List.mem_map.mp hx; exact hg e he) ?_
    refine ⟨_, rfl, by rw [List.length_map, sum_len]; omega, ss, ?_⟩
    exact ⟨d, _, rfl, hz, g.2.1, g.2.2, q μ1 k1⟩
theorem rd__law_shape (n : Nat) (h : spShapeL (n + 1) ds μ Qd) : td__law_shape n { nx := fun _ μ' => Qd (.v .none) μ', rt := Qd } (startD ["_law_d", "_law_kinds_here", "_law_plan_here", "_law_shapes"] ds) μ := by
  obtain ⟨d, ks, b, t, x, rfl, hd, hs, sp, q⟩ := h
  have hz := sz_d hd.1 hd.2.1
  unfold td__law_shape
  cases sp with
  | kind i k i0 i1 hk =>
    walk_at "ru"
    simp only [q_eqW s_sk s_sk, t_kk, Bool.false_xor, ↓reduceIte]
    exact ix_seq i0 hk (q μ fun _ _ e => e)
  | @turn _ t' y h1 g =>
    walk_at "ru"
    simp only [q_eqW s_st s_sk, q_eqW s_st s_st, t_tk, t_tt, Bool.false_xor, Bool.false_eq_true, ↓reduceIte]
    refine ⟨d, ks, b, t', y, rfl, hd, hs.mem t' (by simp), h1, fun μ1 k1 => ?_⟩
    exact ⟨d, y, rfl, hz, g.2.1, g.2.2, q μ1 k1⟩
  | @grid _ t' y u v hu hv hu' hv' h1 oy by_ =>
    walk_at "ru"
    simp only [q_eqW s_sg s_sk, q_eqW s_sg s_st, q_eqW s_sg s_sg, t_gk, t_gt, t_gg, Bool.false_xor, Bool.false_eq_true, ↓reduceIte]
    refine ⟨d, ks, b, t', y, rfl, hd, hs.mem t' (by simp), h1, fun μ1 k1 => ?_⟩
    have bf : Bd 20 (low v 0 u) := low_bd (by omega) (Sz.of (by show v.natAbs < 1048576; omega)) sz0 (Sz.of (by show u.natAbs < 1048576; omega))
    refine ⟨v, 0, u, rfl, by omega, (Sz.of (n := 20) (by show u.natAbs < 1048576; omega)).mono (by decide), ?_⟩
    exact ⟨d, y, low v 0 u, rfl, hz, oy, low_ok _ _ (by omega), by_, bf.mono (by decide), q μ1 k1⟩
  | @upon _ es h2 h8 hh ss =>
    walk_at "ru"
    simp only [q_eqW s_su s_sk, q_eqW s_su s_st, q_eqW s_su s_sg, t_uk, t_ut, t_ug, Bool.false_xor, Bool.false_eq_true, ↓reduceIte]
    have hp : ∀ e ∈ es, Sh e.1 := fun e he => (hs.mem (.tuple (es.map (·.1))) (by simp)).mem e.1 (List.mem_map_of_mem he)
    refine comp_made (es := es) (fun QI hq => by walk_at "ru"; exact hq) h8 hd rfl rfl (fun e he => ⟨hp e he, hh e he⟩) fun μ1 k1 => ?_
    simp only [q_eqW s_su s_su, t_uu, Bool.false_xor, Bool.false_eq_true, ↓reduceIte]
    exact ⟨_, rfl, by rw [sum_len]; omega, ss, q μ1 k1⟩
  | @beside _ es h2 h8 hh hg ss g =>
    walk_at "ru"
    simp only [q_eqW s_sb s_sk, q_eqW s_sb s_st, q_eqW s_sb s_sg, t_bk, t_bt, t_bg, Bool.false_xor, Bool.false_eq_true, ↓reduceIte]
    have hp : ∀ e ∈ es, Sh e.1 := fun e he => (hs.mem (.tuple (es.map (·.1))) (by simp)).mem e.1 (List.mem_map_of_mem he)
    refine comp_made (es := es) (fun QI hq => by walk_at "ru"; exact hq) h8 hd rfl rfl (fun e he => ⟨hp e he, hh e he⟩) fun μ1 k1 => ?_
    simp only [q_eqW s_sb s_su, t_bu, Bool.false_xor, Bool.false_eq_true, ↓reduceIte]
    refine comp_con (xs := es.map (·.2)) (fun QI hq => by walk_at "ru"; exact hq) (by rw [sum_len]; exact h8) hd rfl (fun x hx => by obtain ⟨e, he, rfl⟩ := List.mem_map.mp hx; exact hg e he) ?_
    refine ⟨_, rfl, by rw [List.length_map, sum_len]; omega, ss, ?_⟩
    exact ⟨d, _, rfl, hz, g.2.1, g.2.2, q μ1 k1⟩
theorem rd_shape_of (h : spShapeOf ds μ Qd) : td_shape_of { nx := fun _ μ' => Qd (.v .none) μ', rt := Qd } (startD ["d", "kinds", "plan"] ds) μ := by
  obtain ⟨d, ks, t, x, rfl, hd, hk, hs, ho, sp, q⟩ := h
  unfold td_shape_of
  walk_at "ru"
  refine ⟨d, ks, rfl, hd, hk.l1, hk.l3, hk.ok, ?_⟩
  walk_at "ru"
  rw [List.length_map]
  refine ⟨t, _, rfl, hs, ho, fun μ1 k1 => ?_⟩
  walk_at "ru"
  exact ⟨d, ks, false, t, x, rfl, hd, hs, sp, fun μ2 k2 => q μ2 fun b ds e => k2 b ds (k1 b ds e)⟩
theorem rd_mate_shape (h : spMateShape ds μ Qd) : td_mate_shape { nx := fun _ μ' => Qd (.v .none) μ', rt := Qd } (startD ["d", "kinds", "plan"] ds) μ := by
  obtain ⟨d, ks, t, x, rfl, hd, hk, hs, ho, sp, q⟩ := h
  unfold td_mate_shape
  walk_at "ru"
  refine ⟨d, ks, rfl, hd, hk.l1, hk.l3, hk.ok, ?_⟩
  walk_at "ru"
  rw [List.length_map]
  refine ⟨t, _, rfl, hs, ho, fun μ1 k1 => ?_⟩
  dsimp only
  rw [q_comp]
  walk_at "ru"
  have l3 := hk.l3
  refine ⟨by rw [List.length_map]; omega, fun t => some (match t with | .tuple [.int a, .int b, .int c] => dN (mate ⟨a, b, c⟩) | _ => .none), fun t ht μ' _ => ?_, ?_⟩
  · obtain ⟨k, hk', rfl⟩ := List.mem_map.mp ht
    exact ⟨trivial, k, rfl, rfl, rfl⟩
  · rw [fm_some, List.map_map]
    have e : (ks.map ((fun t => match t with | PyData.tuple [.int a, .int b, .int c] => dN (mate ⟨a, b, c⟩) | _ => PyData.none) ∘ dN)) = (ks.map mate).map dN := by rw [List.map_map]; rfl
    rw [e]
    exact ⟨d, ks.map mate, true, t, mate x, rfl, hd, hs, sp.mate, fun μ2 k2 => q μ2 fun b ds e => k2 b ds (k1 b ds e)⟩
end
open PySem PySem.Spec PyProof.Rows NM
def td__law_few_figures : DTS :=
  (dSeq (dIfS (dB (dOp rLe (dCall (spPlansIn 31) (dCons (dVar 3) (dCons (dCB rLenD (dCons (dVar 2) dNil)) (dCons (dC (.int 12)) dNil)))) (dC (.int 12)))) (dRet (dVar 2)) dNext)
  (dSeq (dAsg (dLstM dNil) (gdName 4))
  (dSeq (dFor (diTup (dVar 2)) (gdName 5) (dSeq (dAsg (dCall spNumber (dCons (dSub (dCall spTake (dCons (dVar 0) (dCons (dC (.int 9)) dNil))) (dC (.int 4))) (dCons (dSub (dCall spTake (dCons (dVar 0) (dCons (dC (.int 5)) dNil))) (dC (.int 2))) (dCons (dAdd (dC (.int 1)) (dCall spTake (dCons (dVar 0) (dCons (dC (.int 3)) dNil)))) dNil)))) (gdName 6))
  (dDrop (dApp (dVar 4) (dOp rIxD (dLst (dCons (dTup (dCons (dC (.int 1)) (dCons (dC (.int 0)) (dCons (dC (.int 1)) dNil)))) (dCons (dVar 6) (dCons (dCall spMinus (dCons (dVar 6) dNil)) dNil)))) (dCall spSign (dCons (dVar 1) (dCons (dVar 6) dNil))))))))
  (dRet (dCB rTupOfD (dCons (dVar 4) dNil))))))
section
variable {μ : Mu} {Qd : DK} {ds : List D}
theorem rd__law_few_figures (h : spFew ds μ Qd) : td__law_few_figures { nx := fun _ μ' => Qd (.v .none) μ', rt := Qd } (startD ["_law_bag_here", "_law_d", "_law_kinds_here", "_law_plan_here", "_law_found", "_law_kind", "_law_x"] ds) μ := by
  obtain ⟨a, d, ks, t, dd, c, rfl, hd, hk, hp, hdd, hb, q⟩ := h
  unfold td__law_few_figures
  walk_at "ru"
  rw [List.length_map]
  refine ⟨t, _, 12, rfl, by decide, hp.lt.sh (by omega), fun μ1 k1 => ?_⟩
  rw [hp.cnt 12 hdd]
  walk_at "ru"
  have s1 : StepW a μ μ1 := .of hb k1
  by_cases c12 : c ≤ 12
  · rw [if_pos (decide_eq_true (by omega))]
    exact q ks μ1 hk rfl (.inl c12) s1
  · rw [if_neg (by rw [decide_eq_true_eq]; omega)]
    intro p hp1
    have pa : p ≠ a := fun z => by obtain ⟨g, k, e, _⟩ := s1.1; rw [z, e] at hp1; cases hp1
    have p0 : μ p = none := by
      cases e : μ p with
      | none => rfl
      | some ds => rw [s1.2 p pa ds e] at hp1; cases hp1
    rw [q_for]
    walk_at "ru"
    refine ⟨fun i ρ μ' => ∃ (ks' : List N3) (r5 r6 : Option D), ρ = [some (.m a), some (.v (.int d)), some (.v (.tuple (ks.map dN))), some (.v t), some (.m p), r5, r6] ∧ ks'.length = i ∧ (∀ k ∈ ks', Ok k ∧ Bd 4 k ∧ sg d k.a k.b = 1) ∧ μ' p = some (ks'.map dN) ∧ Bag μ' a ∧ (∀ b, b ≠ a → b ≠ p → ∀ ds, μ b = some ds → μ' b = some ds),
      ⟨[], _, _, rfl, rfl, (fun _ z => nomatch z), muSet_same, s1.1.set pa, fun b n1 n2 ds e => by rw [muSet_ne n2]; exact s1.2 b n1 ds e⟩, ?_, ?_⟩
    · rintro i y ρ μ2 hy ⟨ks', r5, r6, rfl, hl, hk', hp2, hb2, kp⟩
      walk_at "ru"
      refine ⟨a, 9, rfl, by decide, by decide, hb2, fun r1 μ3 r10 r11 s3 => ?_⟩
      walk_at "ru"
      refine ⟨a, 5, rfl, by decide, by decide, s3.1, fun r2 μ4 r20 r21 s4 => ?_⟩
      walk_at "ru"
      refine ⟨a, 3, rfl, by decide, by decide, s4.1, fun r3 μ5 r30 r31 s5 => ?_⟩
      walk_at "ru"
      have sz : ∀ {z : Int}, -16 < z → z < 16 → Sz 4 z := fun h1 h2 => Sz.of (by show _ < 16; omega)
      have c0 : (1 + r3 : Int) ≠ 0 := by omega
      refine ⟨r1 - 4, r2 - 2, 1 + r3, rfl, c0, (sz (by omega) (by omega)).mono (by decide), ?_⟩
      have ox : Ok (low (r1 - 4) (r2 - 2) (1 + r3)) := low_ok _ _ c0
      have bx : Bd 4 (low (r1 - 4) (r2 - 2) (1 + r3)) := low_bd c0 (sz (by omega) (by omega)) (sz (by omega) (by omega)) (sz (by omega) (by omega))
      generalize low (r1 - 4) (r2 - 2) (1 + r3) = x at ox bx
      have s35 := (s3.trans s4).trans s5
      have hp5 : μ5 p = some (ks'.map dN) := by rw [s35.2 p pa]; exact hp2
      have fin : ∀ k : N3, Ok k → Bd 4 k → sg d k.a k.b = 1 → (match D.v (dN k), μ5 p with | .v d', some xs => xs.length < 1000 ∧ ∃ (ks'' : List N3) (r5' r6' : Option D), [some (.m a), some (.v (.int d)), some (.v (.tuple (ks.map dN))), some (.v t), some (.m p), some (.v y), some (.v (dN x))] = [some (.m a), some (.v (.int d)), some (.v (.tuple (ks.map dN))), some (.v t), some (.m p), r5', r6'] ∧ ks''.length = i + 1 ∧ (∀ k ∈ ks'', Ok k ∧ Bd 4 k ∧ sg d k.a k.b = 1) ∧ muSet μ5 p (xs ++ [d']) p = some (ks''.map dN) ∧ Bag (muSet μ5 p (xs ++ [d'])) a ∧ (∀ b, b ≠ a → b ≠ p → ∀ ds, μ b = some ds → muSet μ5 p (xs ++ [d']) b = some ds) | _, _ => False) := fun k ok bk sk => by
        rw [hp5]
        have hi : i < ks.length := by have := List.getElem?_eq_some_iff.mp hy; obtain ⟨z, _⟩ := this; rw [List.length_map] at z; exact z
        have l3 := hk.l3
        refine ⟨by rw [List.length_map]; omega, ks' ++ [k], _, _, rfl, by simp [hl], fun k' hk'' => ?_, by rw [muSet_same]; simp, s35.1.set pa, fun b n1 n2 ds e => by rw [muSet_ne n2, s35.2 b n1]; exact kp b n1 n2 ds e⟩
        rcases List.mem_append.mp hk'' with z | z
        · exact hk' k' z
        · rw [List.mem_singleton.mp z]; exact ⟨ok, bk, sk⟩
      walk_at "ru"
      refine ⟨x, rfl, ?_⟩
      refine ⟨d, x, rfl, hd, bx.mono (by decide), ?_⟩
      rcases sg_tri d x.a x.b with e | e | e
      · rw [e]
        exact fin one ok_one ⟨Sz.of (by decide), Sz.of (by decide), Sz.of (by decide)⟩ sg_one1
      · rw [e]
        exact fin x ox bx e
      · rw [e]
        exact fin (minus x) (ok_minus ox) (bd_minus bx) (by show sg d (-x.a) (-x.b) = 1; rw [sg_neg hd, e]; rfl)
    · rintro ρ μ2 ⟨ks', r5, r6, rfl, hl, hk', hp2, hb2, kp⟩
      rw [List.length_map] at hl
      walk_at "ru"
      rw [hp2]
      exact q ks' μ2 ⟨by rw [hl]; exact hk.l1, by rw [hl]; exact hk.l3, fun k z => ⟨(hk' k z).1, (hk' k z).2.1.mono (by decide), (hk' k z).2.2⟩⟩ hl (.inr fun k z => (hk' k z).2.1) ⟨hb2, fun b n ds e => kp b n (fun z => by rw [z, p0] at e; cases e) ds e⟩
end
open PySem PySem.Spec PyProof.Rows NM
def td_law : DTS :=
  (dSeq (dAsg (dLstM dNil) (gdName 1))
  (dSeq (dFor (diRng1 (dCons (dCB (r2ID max) (dCons (dC (.int 2)) (dCons (dCB (r2ID min) (dCons (dC (.int 6)) (dCons (dCB rLenD (dCons (dVar 0) dNil)) dNil))) dNil))) dNil)) (gdName 2) (dSeq (dAsg (dCall spBag (dCons (dVar 0) (dCons (dVar 2) dNil))) (gdName 3))
  (dSeq (dAsg (dCall spRootL (dCons (dVar 3) dNil)) (gdName 4))
  (dSeq (dAsg (dCall spKindsL (dCons (dVar 3) (dCons (dVar 4) dNil))) (gdName 5))
  (dSeq (dAsg (dCall spPlanG (dCons (dVar 3) (dCons (dCB rLenD (dCons (dVar 5) dNil)) dNil))) (gdName 6))
  (dSeq (dAsg (dCall spFew (dCons (dVar 3) (dCons (dVar 4) (dCons (dVar 5) (dCons (dVar 6) dNil))))) (gdName 5))
  (dSeq (dAsg (dCall (spShapeL 13) (dCons (dVar 4) (dCons (dVar 5) (dCons (dVar 6) dNil)))) (gdName 7))
  (dSeq (dAsg (dCall spShapeOf (dCons (dVar 4) (dCons (dVar 5) (dCons (dVar 6) dNil)))) (gdName 8))
  (dSeq (dIfS (dOrT (dNotT (dB (dCall spNumQ (dCons (dVar 8) dNil)))) (dB (dOp (rEqD true) (dVar 8) (dVar 7)))) (dRet (dC (.bool false))) dNext)
  (dSeq (dAsg (dCall spMateShape (dCons (dVar 4) (dCons (dVar 5) (dCons (dVar 6) dNil)))) (gdName 9))
  (dSeq (dIfS (dOrT (dNotT (dB (dCall spNumQ (dCons (dVar 9) dNil)))) (dB (dOp (rEqD true) (dVar 9) (dCall spMate (dCons (dVar 7) dNil))))) (dRet (dC (.bool false))) dNext)
  (dSeq (dAsg (dTup (dCons (dC (.str "turn")) (dCons (dVar 6) dNil))) (gdName 10))
  (dSeq (dIfS (dAndT (dB (dCall spIsAPlan (dCons (dVar 10) (dCons (dCB rLenD (dCons (dVar 5) dNil)) dNil)))) (dB (dOp (rEqD true) (dCall spShapeOf (dCons (dVar 4) (dCons (dVar 5) (dCons (dVar 10) dNil)))) (dCall spContrary (dCons (dVar 4) (dCons (dVar 7) dNil)))))) (dRet (dC (.bool false))) dNext)
  (dDrop (dApp (dVar 1) (dTup (dCons (dVar 4) (dCons (dVar 5) (dCons (dVar 6) (dCons (dVar 7) dNil))))))))))))))))))))
  (dSeq (dFor (diList (dOp rAddD (dVar 1) (dRev (dVar 1)))) (gdTup 4 (gdCons (gdName 4) (gdCons (gdName 5) (gdCons (gdName 6) (gdCons (gdName 7) gdNil))))) (dIfS (dOrT (dB (dOp (rEqD true) (dCall spShapeOf (dCons (dVar 4) (dCons (dVar 5) (dCons (dVar 6) dNil)))) (dVar 7))) (dB (dOp (rEqD true) (dCall spMateShape (dCons (dVar 4) (dCons (dVar 5) (dCons (dVar 6) dNil)))) (dCall spMate (dCons (dVar 7) dNil))))) (dRet (dC (.bool false))) dNext))
  (dRet (dOp (rEqD false) (dCall spShapeOf (dCons (dC (.int 2)) (dCons (dTup (dCons (dTup (dCons (dC (.int 1)) (dCons (dC (.int 1)) (dCons (dC (.int 1)) dNil)))) dNil)) (dCons (dTup (dCons (dC (.str "beside")) (dCons (dTup (dCons (dTup (dCons (dC (.str "kind")) (dCons (dC (.int 0)) dNil))) (dCons (dTup (dCons (dC (.str "kind")) (dCons (dC (.int 0)) dNil))) dNil))) dNil))) dNil)))) (dTup (dCons (dC (.int 1)) (dCons (dC (.int 1)) (dCons (dC (.int 2)) dNil)))))))))
section
variable {μ : Mu} {Qd : DK} {ds : List D}
theorem SP.up {d : Int} {ks : List N3} {n : Nat} {t : PyData} {x : N3} (h : SP d ks n t x) : SP d ks (n + 1) t x := by
  induction h with
  | kind i k i0 i1 hk => exact .kind i k i0 i1 hk
  | turn _ g ih => exact .turn ih g
  | grid u v hu hv hu' hv' _ ox bx ih => exact .grid u v hu hv hu' hv' ih ox bx
  | upon es h2 h8 _ hs ih => exact .upon es h2 h8 ih hs
  | beside es h2 h8 _ hg hs g ih => exact .beside es h2 h8 ih hg hs g
structure Pln (d : Int) (ks : List N3) (t : PyData) (x : N3) : Prop where
  rt : IsRoot d
  ko : KindsOk d ks
  sh : Sh t
  ok : okN (cnt (ks.length : Nat) 12 t) = true
  sp : SP d ks 13 t x
def EntK (v : PyData) : Prop := ∃ (d : Int) (ks : List N3) (t : PyData) (x : N3), v = .tuple [.int d, .tuple (ks.map dN), t, dN x] ∧ Pln d ks t x
theorem mk_pln {d : Int} {ks : List N3} {t : PyData} {dd c : Nat} (hd : IsRoot d) (hk : KindsOk d ks) (hp : IsP (ks.length : Nat) dd c t) (hdd : dd ≤ 12) (hc : c ≤ 60) (h : c ≤ 12 ∨ ∀ k ∈ ks, Bd 4 k) : ∃ x, Pln d ks t x ∧ SP d ks 12 t x ∧ G d x := by
  have key : ∃ w, 26 ≤ w ∧ c * w ≤ 2140 ∧ ∀ k ∈ ks, Fine d w 1 k := by
    rcases h with h | h
    · exact ⟨67, by decide, by omega, fun k z => ⟨(hk.ok k z).1, (hk.ok k z).2.2, ht_bd (hk.ok k z).1 (hk.ok k z).2.1⟩⟩
    · exact ⟨26, by decide, by omega, fun k z => ⟨(hk.ok k z).1, (hk.ok k z).2.2, (ht_bd (hk.ok k z).1 (h k z)).mono (by decide)⟩⟩
  obtain ⟨w, h26, hcw, hf⟩ := key
  obtain ⟨x, h1, h2⟩ := mk_sp hd h26 hf hp hcw 12 hdd
  have c1 := hp.pos.2
  exact ⟨x, ⟨hd, hk, hp.lt.sh (by omega), by rw [hp.cnt 12 hdd]; unfold okN; rw [decide_eq_true (by omega : 0 < c), decide_eq_true hc]; rfl, h1.up⟩, h1, h2.g hd hcw⟩
theorem rd_law (h : spLaw ds μ Qd) : td_law { nx := fun _ μ' => Qd (.v .none) μ', rt := Qd } (startD ["_law_script", "_law_ahead", "_law_k", "_law_bag_here", "_law_d", "_law_kinds_here", "_law_plan_here", "_law_due", "_law_told", "_law_mated", "_law_about"] ds) μ := by
  obtain ⟨ns, rfl, hns, q⟩ := h
  unfold td_law
  walk_at "ru"
  intro p hp
  rw [q_for]
  walk_at "ru"
  refine ⟨by omega, fun i ρ μ' => ∃ (es : List PyData) (s2 s3 s4 s5 s6 s7 s8 s9 s10 : Option D), ρ = [some (.s ns), some (.m p), s2, s3, s4, s5, s6, s7, s8, s9, s10] ∧ μ' p = some es ∧ es.length = i ∧ ∀ e ∈ es, EntK e, ⟨[], _, _, _, _, _, _, _, _, _, rfl, muSet_same, rfl, fun _ z => nomatch z⟩, ?_, ?_⟩
  · rintro i x ρ μ1 hx ⟨es, s2, s3, s4, s5, s6, s7, s8, s9, s10, rfl, hp1, hl, he⟩
    obtain ⟨rfl, hi⟩ := rngAt hx
    walk_at "ru"
    refine ⟨ns, _, rfl, by omega, by omega, fun a μ2 ha st2 => ?_⟩
    have pa : p ≠ a := fun z => by rw [← z, hp1] at ha; cases ha
    walk_at "ru"
    refine ⟨a, rfl, st2.1, fun d μ3 hd st3 => ?_⟩
    walk_at "ru"
    refine ⟨a, d, rfl, hd, st3.1, fun ks μ4 hk st4 => ?_⟩
    walk_at "ru"
    rw [List.length_map]
    refine ⟨a, _, rfl, by have := hk.l1; omega, by have := hk.l3; omega, st4.1, fun dd c t μ5 ht hdd hc st5 => ?_⟩
    refine ⟨a, d, ks, t, dd, c, rfl, hd, hk, ht, hdd, st5.1, fun ks' μ6 hk' hl' hb st6 => ?_⟩
    rw [← hl'] at ht
    obtain ⟨x, pl, sp12, gx⟩ := mk_pln hd hk' ht hdd hc hb
    have hp6 : μ6 p = some es := st6.2 p pa _ (st5.2 p pa _ (st4.2 p pa _ (by rw [st3.2 p pa, st2.2 p pa]; exact hp1)))
    refine ⟨d, ks', false, t, x, rfl, hd, pl.sh, pl.sp, fun μ7 k7 => ?_⟩
    refine ⟨d, ks', t, x, rfl, hd, hk', pl.sh, pl.ok, pl.sp, fun μ8 k8 => ?_⟩
    refine ⟨_, rfl, few_N, ?_⟩
    rw [isNum_ok gx.1]
    walk_at "ru"
    try simp only [decide_true, Bool.xor_true, Bool.true_xor, Bool.not_true, Bool.false_eq_true, ↓reduceIte]
    refine ⟨d, ks', t, x, rfl, hd, hk', pl.sh, pl.ok, pl.sp, fun μ9 k9 => ?_⟩
    refine ⟨_, rfl, few_N, ?_⟩
    rw [isNum_ok (ok_mate gx.1)]
    walk_at "ru"
    try simp only [Bool.not_true, Bool.false_eq_true, ↓reduceIte]
    refine ⟨x, rfl, ?_⟩
    walk_at "ru"
    try simp only [decide_true, Bool.xor_true, Bool.true_xor, Bool.not_true, Bool.false_eq_true, ↓reduceIte]
    rw [List.length_map]
    have hp9 : μ9 p = some es := k9 _ _ (k8 _ _ (k7 _ _ hp6))
    have htt : IsP (ks'.length : Nat) (dd + 1) (c + 1) (.tuple [.str "turn", t]) := .turn ht
    have sht : Sh (.tuple [.str "turn", t]) := htt.lt.sh (by omega)
    have fin : ∀ μ' : Mu, μ' p = some es → (match D.v (.tuple [.int d, .tuple (ks'.map dN), t, dN x]), μ' p with
        | .v d', some xs => xs.length < 1000 ∧ ∃ (es : List PyData) (s2 s3 s4 s5 s6 s7 s8 s9 s10 : Option D), ([some (.s ns), some (.m p), some (.v (.int (0 + (i : Nat)))), some (.m a), some (.v (.int d)), some (.v (.tuple (ks'.map dN))), some (.v t), some (.v (dN x)), some (.v (dN x)), some (.v (dN (mate x))), some (.v (.tuple [.str "turn", t]))] : Rho) = [some (.s ns), some (.m p), s2, s3, s4, s5, s6, s7, s8, s9, s10] ∧ muSet μ' p (xs ++ [d']) p = some es ∧ es.length = i + 1 ∧ ∀ e ∈ es, EntK e
        | _, _ => False) := fun μ' h => by
      rw [h]
      refine ⟨by omega, es ++ [.tuple [.int d, .tuple (ks'.map dN), t, dN x]], _, _, _, _, _, _, _, _, _, rfl, muSet_same, by simp [hl], fun e z => ?_⟩
      rcases List.mem_append.mp z with w | w
      · exact he e w
      · rw [List.mem_singleton.mp w]; exact ⟨d, ks', t, x, rfl, pl⟩
    refine ⟨_, _, rfl, sht, fun μ10 k10 => ?_⟩
    walk_at "ru"
    cases ek : okN (cnt (ks'.length : Nat) 12 (.tuple [.str "turn", t])) with
    | false =>
      simp only [Bool.false_eq_true, ↓reduceIte]
      exact fin μ10 (k10 _ _ hp9)
    | true =>
      simp only [↓reduceIte]
      refine ⟨d, ks', _, _, rfl, hd, hk', sht, ek, .turn sp12 gx, fun μ11 k11 => ?_⟩
      refine ⟨d, x, rfl, sz_d hd.1 hd.2.1, gx.2.1, gx.2.2, ?_⟩
      walk_at "ru"
      try simp only [decide_true, Bool.xor_true, Bool.true_xor, Bool.not_true, Bool.false_eq_true, ↓reduceIte]
      exact fin μ11 (k11 _ _ (k10 _ _ hp9))
  · rintro ρ μ1 ⟨es, s2, s3, s4, s5, s6, s7, s8, s9, s10, rfl, hp1, hl, he⟩
    rw [q_for]
    walk_at "ru"
    rw [hp1]
    rw [rngLen] at hl
    refine ⟨by rw [List.length_reverse]; omega, fun i ρ μ' => ∃ (s2 s3 s4 s5 s6 s7 s8 s9 s10 : Option D), ρ = [some (.s ns), some (.m p), s2, s3, s4, s5, s6, s7, s8, s9, s10], ⟨_, _, _, _, _, _, _, _, _, rfl⟩, ?_, ?_⟩
    · rintro i x ρ μ2 hx ⟨s2, s3, s4, s5, s6, s7, s8, s9, s10, rfl⟩
      have hm : x ∈ es := by
        have := List.mem_of_getElem? hx
        rcases List.mem_append.mp this with z | z
        · exact z
        · exact List.mem_reverse.mp z
      obtain ⟨d, ks, t, x, rfl, pl⟩ := he _ hm
      walk_at "ru"
      refine ⟨trivial, ?_⟩
      refine ⟨d, ks, t, x, rfl, pl.rt, pl.ko, pl.sh, pl.ok, pl.sp, fun μ3 k3 => ?_⟩
      walk_at "ru"
      try simp only [decide_true, Bool.xor_true, Bool.true_xor, Bool.not_true, Bool.false_eq_true, ↓reduceIte]
      refine ⟨d, ks, t, x, rfl, pl.rt, pl.ko, pl.sh, pl.ok, pl.sp, fun μ4 k4 => ?_⟩
      refine ⟨x, rfl, ?_⟩
      walk_at "ru"
      try simp only [decide_true, Bool.xor_true, Bool.true_xor, Bool.not_true, Bool.false_eq_true, ↓reduceIte]
      exact ⟨_, _, _, _, _, _, _, _, _, rfl⟩
    · rintro ρ μ2 _
      have h2 : IsRoot 2 := ⟨by decide, by decide, by decide, by decide, by decide, by decide⟩
      have ok1 : Ok ⟨1, 1, 1⟩ := ⟨by decide, by decide⟩
      have f1 : Fine 2 67 1 ⟨1, 1, 1⟩ := ⟨ok1, by decide +kernel, ht_bd ok1 ⟨Sz.of (by decide), Sz.of (by decide), Sz.of (by decide)⟩⟩
      obtain ⟨ss, fs⟩ := fine_sum (w := 67) h2 (by decide) [(1, contrary 2 ⟨1, 1, 1⟩), (1, contrary 2 ⟨1, 1, 1⟩)] (fun y hy => by
        simp only [List.mem_cons, List.not_mem_nil, or_false, or_self] at hy
        rw [hy]; exact ⟨Nat.le_refl _, f1.con h2⟩) (by decide) (by simp)
      have ki : SP 2 [⟨1, 1, 1⟩] 12 (.tuple [.str "kind", .int 0]) ⟨1, 1, 1⟩ := .kind 0 _ (by decide) (by decide) rfl
      have sp := SP.beside (d := 2) (ks := [⟨1, 1, 1⟩]) (n := 12) [(.tuple [.str "kind", .int 0], ⟨1, 1, 1⟩), (.tuple [.str "kind", .int 0], ⟨1, 1, 1⟩)] (by decide) (by decide) (fun e hy => by
        simp only [List.mem_cons, List.not_mem_nil, or_false, or_self] at hy
        rw [hy]; exact ki) (fun e hy => by
        simp only [List.mem_cons, List.not_mem_nil, or_false, or_self] at hy
        rw [hy]; exact f1.g h2 (by decide)) ss (fs.g h2 (by decide))
      have kp : IsP 1 1 1 (.tuple [.str "kind", .int 0]) := .kind 0 (by decide) (by decide)
      have pp : IsP 1 2 3 (.tuple [.str "beside", .tuple [.tuple [.str "kind", .int 0], .tuple [.str "kind", .int 0]]]) := IsP.beside (d := 1) [(1, 1, .tuple [.str "kind", .int 0]), (1, 1, .tuple [.str "kind", .int 0])] (by decide) (by decide) (fun e hy => by
        simp only [List.mem_cons, List.not_mem_nil, or_false, or_self] at hy
        rw [hy]; exact Nat.le_refl _) (fun e hy => by
        simp only [List.mem_cons, List.not_mem_nil, or_false, or_self] at hy
        rw [hy]; exact kp)
      have ev : contrary 2 (sumN ([((.tuple [.str "kind", .int 0] : PyData), (⟨1, 1, 1⟩ : N3)), (.tuple [.str "kind", .int 0], ⟨1, 1, 1⟩)].map (·.2) |>.map (contrary 2))) = ⟨1, 1, 2⟩ := N3.ext' (by decide +kernel) (by decide +kernel) (by decide +kernel)
      rw [ev] at sp
      refine ⟨2, [⟨1, 1, 1⟩], _, ⟨1, 1, 2⟩, rfl, h2, ⟨by decide, by decide, fun k hk => ?_⟩, pp.lt.sh (by decide), by rw [show (([(⟨1, 1, 1⟩ : N3)].length : Nat) : Int) = 1 from rfl, pp.cnt 12 (by decide)]; rfl, sp, fun μ3 k3 => ?_⟩
      · rw [List.mem_singleton.mp hk]; exact ⟨ok1, ⟨Sz.of (by decide), Sz.of (by decide), Sz.of (by decide)⟩, f1.pos⟩
      walk_at "ru"
      try simp only [decide_true, Bool.false_xor]
      exact q μ3
end
end L2.DL
set_option Elab.async false
set_option linter.all false
set_option maxRecDepth 100000
set_option maxHeartbeats 4000000
namespace K23
open PySem L2 L2.DL
structure Adr where
  a_is_whole : Addr
  d_is_whole : FuncData
  a_common_divisor : Addr
  d_common_divisor : FuncData
  a_is_number : Addr
  d_is_number : FuncData
  a_divisor_of_all : Addr
  d_divisor_of_all : FuncData
  a_number : Addr
  d_number : FuncData
  a_mate : Addr
  d_mate : FuncData
  a_plus : Addr
  d_plus : FuncData
  a_times : Addr
  d_times : FuncData
  a_contrary : Addr
  d_contrary : FuncData
  a_sign_of : Addr
  d_sign_of : FuncData
  a_sign_of_parts : Addr
  d_sign_of_parts : FuncData
  a_is_above_nought : Addr
  d_is_above_nought : FuncData
  a_is_kinds : Addr
  d_is_kinds : FuncData
  a_must_be_kinds : Addr
  d_must_be_kinds : FuncData
  a_is_plan : Addr
  d_is_plan : FuncData
  a_has_form : Addr
  d_has_form : FuncData
  a_is_count : Addr
  d_is_count : FuncData
  a_parts_of : Addr
  d_parts_of : FuncData
  a_must_be_plan : Addr
  d_must_be_plan : FuncData
  a_shape_of : Addr
  d_shape_of : FuncData
  a_mate_shape : Addr
  d_mate_shape : FuncData
  a_made_of : Addr
  d_made_of : FuncData
  a_sum_of : Addr
  d_sum_of : FuncData
  a__law_bag : Addr
  d__law_bag : FuncData
  a__law_take : Addr
  d__law_take : FuncData
  a__law_is_whole : Addr
  d__law_is_whole : FuncData
  a__law_shared : Addr
  d__law_shared : FuncData
  a__law_low : Addr
  d__law_low : FuncData
  a__law_is_number : Addr
  d__law_is_number : FuncData
  a__law_plus : Addr
  d__law_plus : FuncData
  a__law_minus : Addr
  d__law_minus : FuncData
  a__law_mate : Addr
  d__law_mate : FuncData
  a__law_times : Addr
  d__law_times : FuncData
  a__law_contrary : Addr
  d__law_contrary : FuncData
  a__law_sign : Addr
  d__law_sign : FuncData
  a__law_root : Addr
  d__law_root : FuncData
  a__law_number : Addr
  d__law_number : FuncData
  a__law_above : Addr
  d__law_above : FuncData
  a__law_kinds : Addr
  d__law_kinds : FuncData
  a__law_grid_size : Addr
  d__law_grid_size : FuncData
  a__law_plan : Addr
  d__law_plan : FuncData
  a__law_sum : Addr
  d__law_sum : FuncData
  a__law_shape : Addr
  d__law_shape : FuncData
  a__law_plans_in : Addr
  d__law_plans_in : FuncData
  a__law_is_a_plan : Addr
  d__law_is_a_plan : FuncData
  a__law_few_figures : Addr
  d__law_few_figures : FuncData
  a_law : Addr
  d_law : FuncData
  tk_MOST_KINDS : Tok
  tk_MOST_WITHIN : Tok
  tk_MOST_PLANS : Tok
  tk_LEAST_PARTS : Tok
  tk_MOST_PARTS : Tok
  ad_NOUGHT : Addr
structure Txt (K : PySem.W.Frag) (mg : Str → Option Value) (t : Adr) : Prop where
  f_is_whole : Fun K "is_whole" "is_whole" s_is_whole t.a_is_whole t.d_is_whole
  m_is_whole : mg "is_whole" = some (.ref t.a_is_whole)
  k_is_whole : PySem.W.keepIn K (.ref t.a_is_whole) = true
  b_is_whole : Binds K t.d_is_whole ["thing"] []
  f_common_divisor : Fun K "common_divisor" "common_divisor" s_common_divisor t.a_common_divisor t.d_common_divisor
  m_common_divisor : mg "common_divisor" = some (.ref t.a_common_divisor)
  k_common_divisor : PySem.W.keepIn K (.ref t.a_common_divisor) = true
  b_common_divisor : Binds K t.d_common_divisor ["a", "b"] []
  f_is_number : Fun K "is_number" "is_number" s_is_number t.a_is_number t.d_is_number
  m_is_number : mg "is_number" = some (.ref t.a_is_number)
  k_is_number : PySem.W.keepIn K (.ref t.a_is_number) = true
  b_is_number : Binds K t.d_is_number ["thing"] []
  f_divisor_of_all : Fun K "divisor_of_all" "divisor_of_all" s_divisor_of_all t.a_divisor_of_all t.d_divisor_of_all
  m_divisor_of_all : mg "divisor_of_all" = some (.ref t.a_divisor_of_all)
  k_divisor_of_all : PySem.W.keepIn K (.ref t.a_divisor_of_all) = true
  b_divisor_of_all : Binds K t.d_divisor_of_all ["a", "b", "c"] []
  f_number : Fun K "number" "number" s_number t.a_number t.d_number
  m_number : mg "number" = some (.ref t.a_number)
  k_number : PySem.W.keepIn K (.ref t.a_number) = true
  b_number : Binds K t.d_number ["a", "b", "c"] []
  f_mate : Fun K "mate" "mate" s_mate t.a_mate t.d_mate
  m_mate : mg "mate" = some (.ref t.a_mate)
  k_mate : PySem.W.keepIn K (.ref t.a_mate) = true
  b_mate : Binds K t.d_mate ["x"] []
  f_plus : Fun K "plus" "plus" s_plus t.a_plus t.d_plus
  m_plus : mg "plus" = some (.ref t.a_plus)
  k_plus : PySem.W.keepIn K (.ref t.a_plus) = true
  b_plus : Binds K t.d_plus ["x", "y"] []
  f_times : Fun K "times" "times" s_times t.a_times t.d_times
  m_times : mg "times" = some (.ref t.a_times)
  k_times : PySem.W.keepIn K (.ref t.a_times) = true
  b_times : Binds K t.d_times ["d", "x", "y"] []
  f_contrary : Fun K "contrary" "contrary" s_contrary t.a_contrary t.d_contrary
  m_contrary : mg "contrary" = some (.ref t.a_contrary)
  k_contrary : PySem.W.keepIn K (.ref t.a_contrary) = true
  b_contrary : Binds K t.d_contrary ["d", "x"] []
  f_sign_of : Fun K "sign_of" "sign_of" s_sign_of t.a_sign_of t.d_sign_of
  m_sign_of : mg "sign_of" = some (.ref t.a_sign_of)
  k_sign_of : PySem.W.keepIn K (.ref t.a_sign_of) = true
  b_sign_of : Binds K t.d_sign_of ["d", "x"] []
  f_sign_of_parts : Fun K "sign_of_parts" "sign_of_parts" s_sign_of_parts t.a_sign_of_parts t.d_sign_of_parts
  m_sign_of_parts : mg "sign_of_parts" = some (.ref t.a_sign_of_parts)
  k_sign_of_parts : PySem.W.keepIn K (.ref t.a_sign_of_parts) = true
  b_sign_of_parts : Binds K t.d_sign_of_parts ["d", "a", "b"] []
  f_is_above_nought : Fun K "is_above_nought" "is_above_nought" s_is_above_nought t.a_is_above_nought t.d_is_above_nought
  m_is_above_nought : mg "is_above_nought" = some (.ref t.a_is_above_nought)
  k_is_above_nought : PySem.W.keepIn K (.ref t.a_is_above_nought) = true
  b_is_above_nought : Binds K t.d_is_above_nought ["d", "thing"] []
  f_is_kinds : Fun K "is_kinds" "is_kinds" s_is_kinds t.a_is_kinds t.d_is_kinds
  m_is_kinds : mg "is_kinds" = some (.ref t.a_is_kinds)
  k_is_kinds : PySem.W.keepIn K (.ref t.a_is_kinds) = true
  b_is_kinds : Binds K t.d_is_kinds ["d", "thing"] []
  f_must_be_kinds : Fun K "must_be_kinds" "must_be_kinds" s_must_be_kinds t.a_must_be_kinds t.d_must_be_kinds
  m_must_be_kinds : mg "must_be_kinds" = some (.ref t.a_must_be_kinds)
  k_must_be_kinds : PySem.W.keepIn K (.ref t.a_must_be_kinds) = true
  b_must_be_kinds : Binds K t.d_must_be_kinds ["d", "thing"] []
  f_is_plan : Fun K "is_plan" "is_plan" s_is_plan t.a_is_plan t.d_is_plan
  m_is_plan : mg "is_plan" = some (.ref t.a_is_plan)
  k_is_plan : PySem.W.keepIn K (.ref t.a_is_plan) = true
  b_is_plan : Binds K t.d_is_plan ["thing", "many"] []
  f_has_form : Fun K "has_form" "has_form" s_has_form t.a_has_form t.d_has_form
  m_has_form : mg "has_form" = some (.ref t.a_has_form)
  k_has_form : PySem.W.keepIn K (.ref t.a_has_form) = true
  b_has_form : Binds K t.d_has_form ["thing", "many"] []
  f_is_count : Fun K "is_count" "is_count" s_is_count t.a_is_count t.d_is_count
  m_is_count : mg "is_count" = some (.ref t.a_is_count)
  k_is_count : PySem.W.keepIn K (.ref t.a_is_count) = true
  b_is_count : Binds K t.d_is_count ["thing"] []
  f_parts_of : Fun K "parts_of" "parts_of" s_parts_of t.a_parts_of t.d_parts_of
  m_parts_of : mg "parts_of" = some (.ref t.a_parts_of)
  k_parts_of : PySem.W.keepIn K (.ref t.a_parts_of) = true
  b_parts_of : Binds K t.d_parts_of ["plan"] []
  f_must_be_plan : Fun K "must_be_plan" "must_be_plan" s_must_be_plan t.a_must_be_plan t.d_must_be_plan
  m_must_be_plan : mg "must_be_plan" = some (.ref t.a_must_be_plan)
  k_must_be_plan : PySem.W.keepIn K (.ref t.a_must_be_plan) = true
  b_must_be_plan : Binds K t.d_must_be_plan ["thing", "many"] []
  f_shape_of : Fun K "shape_of" "shape_of" s_shape_of t.a_shape_of t.d_shape_of
  m_shape_of : mg "shape_of" = some (.ref t.a_shape_of)
  k_shape_of : PySem.W.keepIn K (.ref t.a_shape_of) = true
  b_shape_of : Binds K t.d_shape_of ["d", "kinds", "plan"] []
  f_mate_shape : Fun K "mate_shape" "mate_shape" s_mate_shape t.a_mate_shape t.d_mate_shape
  m_mate_shape : mg "mate_shape" = some (.ref t.a_mate_shape)
  k_mate_shape : PySem.W.keepIn K (.ref t.a_mate_shape) = true
  b_mate_shape : Binds K t.d_mate_shape ["d", "kinds", "plan"] []
  f_made_of : Fun K "made_of" "made_of" s_made_of t.a_made_of t.d_made_of
  m_made_of : mg "made_of" = some (.ref t.a_made_of)
  k_made_of : PySem.W.keepIn K (.ref t.a_made_of) = true
  b_made_of : Binds K t.d_made_of ["d", "shapes", "plan"] []
  f_sum_of : Fun K "sum_of" "sum_of" s_sum_of t.a_sum_of t.d_sum_of
  m_sum_of : mg "sum_of" = some (.ref t.a_sum_of)
  k_sum_of : PySem.W.keepIn K (.ref t.a_sum_of) = true
  b_sum_of : Binds K t.d_sum_of ["shapes"] []
  f__law_bag : Fun K "_law_bag" "_law_bag" s__law_bag t.a__law_bag t.d__law_bag
  m__law_bag : mg "_law_bag" = some (.ref t.a__law_bag)
  k__law_bag : PySem.W.keepIn K (.ref t.a__law_bag) = true
  b__law_bag : Binds K t.d__law_bag ["_law_script", "_law_at"] []
  f__law_take : Fun K "_law_take" "_law_take" s__law_take t.a__law_take t.d__law_take
  m__law_take : mg "_law_take" = some (.ref t.a__law_take)
  k__law_take : PySem.W.keepIn K (.ref t.a__law_take) = true
  b__law_take : Binds K t.d__law_take ["_law_bag_here", "_law_many"] []
  f__law_is_whole : Fun K "_law_is_whole" "_law_is_whole" s__law_is_whole t.a__law_is_whole t.d__law_is_whole
  m__law_is_whole : mg "_law_is_whole" = some (.ref t.a__law_is_whole)
  k__law_is_whole : PySem.W.keepIn K (.ref t.a__law_is_whole) = true
  b__law_is_whole : Binds K t.d__law_is_whole ["_law_thing"] []
  f__law_shared : Fun K "_law_shared" "_law_shared" s__law_shared t.a__law_shared t.d__law_shared
  m__law_shared : mg "_law_shared" = some (.ref t.a__law_shared)
  k__law_shared : PySem.W.keepIn K (.ref t.a__law_shared) = true
  b__law_shared : Binds K t.d__law_shared ["_law_one", "_law_other"] []
  f__law_low : Fun K "_law_low" "_law_low" s__law_low t.a__law_low t.d__law_low
  m__law_low : mg "_law_low" = some (.ref t.a__law_low)
  k__law_low : PySem.W.keepIn K (.ref t.a__law_low) = true
  b__law_low : Binds K t.d__law_low ["_law_a", "_law_b", "_law_c"] []
  f__law_is_number : Fun K "_law_is_number" "_law_is_number" s__law_is_number t.a__law_is_number t.d__law_is_number
  m__law_is_number : mg "_law_is_number" = some (.ref t.a__law_is_number)
  k__law_is_number : PySem.W.keepIn K (.ref t.a__law_is_number) = true
  b__law_is_number : Binds K t.d__law_is_number ["_law_thing"] []
  f__law_plus : Fun K "_law_plus" "_law_plus" s__law_plus t.a__law_plus t.d__law_plus
  m__law_plus : mg "_law_plus" = some (.ref t.a__law_plus)
  k__law_plus : PySem.W.keepIn K (.ref t.a__law_plus) = true
  b__law_plus : Binds K t.d__law_plus ["_law_x", "_law_y"] []
  f__law_minus : Fun K "_law_minus" "_law_minus" s__law_minus t.a__law_minus t.d__law_minus
  m__law_minus : mg "_law_minus" = some (.ref t.a__law_minus)
  k__law_minus : PySem.W.keepIn K (.ref t.a__law_minus) = true
  b__law_minus : Binds K t.d__law_minus ["_law_x"] []
  f__law_mate : Fun K "_law_mate" "_law_mate" s__law_mate t.a__law_mate t.d__law_mate
  m__law_mate : mg "_law_mate" = some (.ref t.a__law_mate)
  k__law_mate : PySem.W.keepIn K (.ref t.a__law_mate) = true
  b__law_mate : Binds K t.d__law_mate ["_law_x"] []
  f__law_times : Fun K "_law_times" "_law_times" s__law_times t.a__law_times t.d__law_times
  m__law_times : mg "_law_times" = some (.ref t.a__law_times)
  k__law_times : PySem.W.keepIn K (.ref t.a__law_times) = true
  b__law_times : Binds K t.d__law_times ["_law_d", "_law_x", "_law_y"] []
  f__law_contrary : Fun K "_law_contrary" "_law_contrary" s__law_contrary t.a__law_contrary t.d__law_contrary
  m__law_contrary : mg "_law_contrary" = some (.ref t.a__law_contrary)
  k__law_contrary : PySem.W.keepIn K (.ref t.a__law_contrary) = true
  b__law_contrary : Binds K t.d__law_contrary ["_law_d", "_law_x"] []
  f__law_sign : Fun K "_law_sign" "_law_sign" s__law_sign t.a__law_sign t.d__law_sign
  m__law_sign : mg "_law_sign" = some (.ref t.a__law_sign)
  k__law_sign : PySem.W.keepIn K (.ref t.a__law_sign) = true
  b__law_sign : Binds K t.d__law_sign ["_law_d", "_law_x"] []
  f__law_root : Fun K "_law_root" "_law_root" s__law_root t.a__law_root t.d__law_root
  m__law_root : mg "_law_root" = some (.ref t.a__law_root)
  k__law_root : PySem.W.keepIn K (.ref t.a__law_root) = true
  b__law_root : Binds K t.d__law_root ["_law_bag_here"] []
  f__law_number : Fun K "_law_number" "_law_number" s__law_number t.a__law_number t.d__law_number
  m__law_number : mg "_law_number" = some (.ref t.a__law_number)
  k__law_number : PySem.W.keepIn K (.ref t.a__law_number) = true
  b__law_number : Binds K t.d__law_number ["_law_bag_here"] []
  f__law_above : Fun K "_law_above" "_law_above" s__law_above t.a__law_above t.d__law_above
  m__law_above : mg "_law_above" = some (.ref t.a__law_above)
  k__law_above : PySem.W.keepIn K (.ref t.a__law_above) = true
  b__law_above : Binds K t.d__law_above ["_law_bag_here", "_law_d"] []
  f__law_kinds : Fun K "_law_kinds" "_law_kinds" s__law_kinds t.a__law_kinds t.d__law_kinds
  m__law_kinds : mg "_law_kinds" = some (.ref t.a__law_kinds)
  k__law_kinds : PySem.W.keepIn K (.ref t.a__law_kinds) = true
  b__law_kinds : Binds K t.d__law_kinds ["_law_bag_here", "_law_d"] []
  f__law_grid_size : Fun K "_law_grid_size" "_law_grid_size" s__law_grid_size t.a__law_grid_size t.d__law_grid_size
  m__law_grid_size : mg "_law_grid_size" = some (.ref t.a__law_grid_size)
  k__law_grid_size : PySem.W.keepIn K (.ref t.a__law_grid_size) = true
  b__law_grid_size : Binds K t.d__law_grid_size ["_law_bag_here"] []
  f__law_plan : Fun K "_law_plan" "_law_plan" s__law_plan t.a__law_plan t.d__law_plan
  m__law_plan : mg "_law_plan" = some (.ref t.a__law_plan)
  k__law_plan : PySem.W.keepIn K (.ref t.a__law_plan) = true
  b__law_plan : Binds K t.d__law_plan ["_law_bag_here", "_law_many"] []
  f__law_sum : Fun K "_law_sum" "_law_sum" s__law_sum t.a__law_sum t.d__law_sum
  m__law_sum : mg "_law_sum" = some (.ref t.a__law_sum)
  k__law_sum : PySem.W.keepIn K (.ref t.a__law_sum) = true
  b__law_sum : Binds K t.d__law_sum ["_law_some"] []
  f__law_shape : Fun K "_law_shape" "_law_shape" s__law_shape t.a__law_shape t.d__law_shape
  m__law_shape : mg "_law_shape" = some (.ref t.a__law_shape)
  k__law_shape : PySem.W.keepIn K (.ref t.a__law_shape) = true
  b__law_shape : Binds K t.d__law_shape ["_law_d", "_law_kinds_here", "_law_plan_here"] []
  f__law_plans_in : Fun K "_law_plans_in" "_law_plans_in" s__law_plans_in t.a__law_plans_in t.d__law_plans_in
  m__law_plans_in : mg "_law_plans_in" = some (.ref t.a__law_plans_in)
  k__law_plans_in : PySem.W.keepIn K (.ref t.a__law_plans_in) = true
  b__law_plans_in : Binds K t.d__law_plans_in ["_law_thing", "_law_many", "_law_deep"] []
  f__law_is_a_plan : Fun K "_law_is_a_plan" "_law_is_a_plan" s__law_is_a_plan t.a__law_is_a_plan t.d__law_is_a_plan
  m__law_is_a_plan : mg "_law_is_a_plan" = some (.ref t.a__law_is_a_plan)
  k__law_is_a_plan : PySem.W.keepIn K (.ref t.a__law_is_a_plan) = true
  b__law_is_a_plan : Binds K t.d__law_is_a_plan ["_law_thing", "_law_many"] []
  f__law_few_figures : Fun K "_law_few_figures" "_law_few_figures" s__law_few_figures t.a__law_few_figures t.d__law_few_figures
  m__law_few_figures : mg "_law_few_figures" = some (.ref t.a__law_few_figures)
  k__law_few_figures : PySem.W.keepIn K (.ref t.a__law_few_figures) = true
  b__law_few_figures : Binds K t.d__law_few_figures ["_law_bag_here", "_law_d", "_law_kinds_here", "_law_plan_here"] []
  f_law : Fun K "law" "law" s_law t.a_law t.d_law
  m_law : mg "law" = some (.ref t.a_law)
  k_law : PySem.W.keepIn K (.ref t.a_law) = true
  b_law : Binds K t.d_law ["_law_script"] []
  n_isinstance : mg "isinstance" = none
  n_int : mg "int" = none
  n_bool : mg "bool" = none
  n_abs : mg "abs" = none
  n_tuple : mg "tuple" = none
  n_len : mg "len" = none
  n_all : mg "all" = none
  n_list : mg "list" = none
  n_range : mg "range" = none
  n_min : mg "min" = none
  n_max : mg "max" = none
  n_sum : mg "sum" = none
  c_MOST_KINDS : mg "MOST_KINDS" = some (.int 3 t.tk_MOST_KINDS)
  c_MOST_WITHIN : mg "MOST_WITHIN" = some (.int 12 t.tk_MOST_WITHIN)
  c_MOST_PLANS : mg "MOST_PLANS" = some (.int 60 t.tk_MOST_PLANS)
  c_LEAST_PARTS : mg "LEAST_PARTS" = some (.int 2 t.tk_LEAST_PARTS)
  c_MOST_PARTS : mg "MOST_PARTS" = some (.int 8 t.tk_MOST_PARTS)
  c_NOUGHT : TupC K mg "NOUGHT" t.ad_NOUGHT 0 0 1
section
variable {P : Program} {w : World} {K : PySem.W.Frag} {mg : Str → Option Value} {base : Heap} {t : Adr}
theorem sc_is_whole : FnScope ["thing"] ["thing"] (defScope s_is_whole) := ⟨rfl, rfl, rfl, by decide +kernel, rfl, by decide +kernel, by decide +kernel⟩
theorem ok_is_whole (T : Txt K mg t)  : FnOk P w K mg base CX0 1 t.a_is_whole t.d_is_whole ["thing"] (spD K spWhole) := by
  have S := sc_is_whole
  exact T.f_is_whole.okD S (fun ds μ Q h => len_spWhole h) (fun cdv A outer s H E hr => ⟨td_is_whole, (dss_one (ds_ret (de_and (de_isi (kit_int _) rfl T.n_isinstance rfl T.n_int PyProof.Rows.Boot.«int» (dv 0)) (de_one (de_not (de_isi (kit_bool _) rfl T.n_isinstance rfl T.n_bool PyProof.Rows.Boot.«bool» (dv 0))))))), fun ds μ Qd h => rd_is_whole h⟩)
theorem sc_common_divisor : FnScope ["a", "b"] ["a", "b"] (defScope s_common_divisor) := ⟨rfl, rfl, rfl, by decide +kernel, rfl, by decide +kernel, by decide +kernel⟩
theorem ok_common_divisor (T : Txt K mg t)  : FnOk P w K mg base CX0 1 t.a_common_divisor t.d_common_divisor ["a", "b"] (spD K spGcd) := by
  have S := sc_common_divisor
  exact T.f_common_divisor.okD S (fun ds μ Q h => len_spGcd h) (fun cdv A outer s H E hr => ⟨td_common_divisor, (dss_cons (ds_while PassesOwn.never (dt_cmp (op_neD hr.units) lo_eqD (dv 1) de_int (nomark _)) (dss_one (ds_par (i := 0) (j := 1) rfl S.nd rfl rfl (by decide) rfl rfl (da_cons (dv 1) (da_cons (de_mod (dv 0) (dv 1)) da_nil)) rfl)))
    (dss_one (ds_ret (de_abs rfl T.n_abs (da_cons (dv 0) da_nil))))), fun ds μ Qd h => rd_common_divisor h⟩)
theorem sc_mate : FnScope ["x"] ["x"] (defScope s_mate) := ⟨rfl, rfl, rfl, by decide +kernel, rfl, by decide +kernel, by decide +kernel⟩
theorem ok_mate (T : Txt K mg t)  : FnOk P w K mg base CX0 1 t.a_mate t.d_mate ["x"] (spD K spMate) := by
  have S := sc_mate
  exact T.f_mate.okD S (fun ds μ Q h => len_spMate h) (fun cdv A outer s H E hr => ⟨td_mate, (dss_one (ds_ret (de_tup (da_cons (de_ix (dv 0) de_int (fun _ _ => rfl)) (da_cons (de_neg (de_ix (dv 0) de_int (fun _ _ => rfl))) (da_cons (de_ix (dv 0) de_int (fun _ _ => rfl)) da_nil)))))), fun ds μ Qd h => rd_mate h⟩)
theorem sc_sign_of_parts : FnScope ["d", "a", "b", "prevailing"] ["d", "a", "b"] (defScope s_sign_of_parts) := ⟨rfl, rfl, rfl, by decide +kernel, rfl, by decide +kernel, by decide +kernel⟩
theorem ok_sign_of_parts (T : Txt K mg t)  : FnOk P w K mg base CX0 1 t.a_sign_of_parts t.d_sign_of_parts ["d", "a", "b"] (spD K spSignP) := by
  have S := sc_sign_of_parts
  exact T.f_sign_of_parts.okD S (fun ds μ Q h => len_spSignP h) (fun cdv A outer s H E hr => ⟨td_sign_of_parts, (dss_cons (ds_if (DW.dt (dw_and (dt_cmp (op_eqD hr.units) lo_eqD (dv 1) de_int (nomark _)) (dw_and1 (dt_cmp (op_eqD hr.units) lo_eqD (dv 2) de_int (nomark _))))) (dss_one (ds_ret de_int)) dss_nil)
    (dss_cons (ds_if (DW.dt (dw_and (dt_cmp op_ge lo_B (dv 1) de_int (nomark _)) (dw_and1 (dt_cmp op_ge lo_B (dv 2) de_int (nomark _))))) (dss_one (ds_ret de_int)) dss_nil)
    (dss_cons (ds_if (DW.dt (dw_and (dt_cmp op_le lo_B (dv 1) de_int (nomark _)) (dw_and1 (dt_cmp op_le lo_B (dv 2) de_int (nomark _))))) (dss_one (ds_ret (de_neg de_int))) dss_nil)
    (dss_cons (ds_set (i := 3) S.nd rfl (Or.inl rfl) (de_if (dt_cmp op_gt lo_B (de_mul (dv 1) (dv 1)) (de_mul (de_mul (dv 0) (dv 2)) (dv 2)) (nomark _)) (dv 1) (dv 2)))
    (dss_one (ds_ret (de_if (dt_cmp op_gt lo_B (dv 3) de_int (nomark _)) de_int (de_neg de_int)))))))), fun ds μ Qd h => rd_sign_of_parts h⟩)
theorem sc_parts_of : FnScope ["plan", "word"] ["plan"] (defScope s_parts_of) := ⟨rfl, rfl, rfl, by decide +kernel, rfl, by decide +kernel, by decide +kernel⟩
theorem ok_parts_of (T : Txt K mg t)  : FnOk P w K mg base CX0 1 t.a_parts_of t.d_parts_of ["plan"] (spD K spParts) := by
  have S := sc_parts_of
  exact T.f_parts_of.okD S (fun ds μ Q h => len_spParts h) (fun cdv A outer s H E hr => ⟨td_parts_of, (dss_cons (ds_set (i := 1) S.nd rfl (Or.inl rfl) (de_ix (dv 0) de_int (fun _ _ => rfl)))
    (dss_cons (ds_if (dt_cmp (op_eqD hr.units) lo_eqD (dv 1) de_str (nomark _)) (dss_one (ds_ret (de_lst da_nil))) dss_nil)
    (dss_cons (ds_if (DW.dt (dw_or (dt_cmp (op_eqD hr.units) lo_eqD (dv 1) de_str (nomark _)) (dw_or1 (dt_cmp (op_eqD hr.units) lo_eqD (dv 1) de_str (nomark _))))) (dss_one (ds_ret (de_list rfl T.n_list (da_cons (de_ix (dv 0) de_int (fun _ _ => rfl)) da_nil)))) dss_nil)
    (dss_one (ds_ret (de_lst (da_cons (de_ix (dv 0) (de_neg de_int) (fun _ _ => rfl)) da_nil))))))), fun ds μ Qd h => rd_parts_of h⟩)
theorem sc__law_bag : FnScope ["_law_script", "_law_at", "_law_cell", "_law_great", "_law_primes", "_law_mixed"] ["_law_script", "_law_at"] (defScope s__law_bag) := ⟨rfl, rfl, rfl, by decide +kernel, rfl, by decide +kernel, by decide +kernel⟩
theorem ok__law_bag (T : Txt K mg t)  : FnOk P w K mg base CX0 1 t.a__law_bag t.d__law_bag ["_law_script", "_law_at"] (spD K spBag) := by
  have S := sc__law_bag
  exact T.f__law_bag.okD S (fun ds μ Q h => len_spBag h) (fun cdv A outer s H E hr => ⟨td__law_bag, (dss_cons (ds_set (i := 2) S.nd rfl (Or.inl rfl) de_int)
    (dss_cons (ds_if (dt_cmp op_lt lo_B (dv 1) (de_len rfl T.n_len (da_cons (dv 0) da_nil)) (nomark _)) (dss_one (ds_set (i := 2) S.nd rfl (Or.inl rfl) (de_ix (dv 0) (dv 1) (fun _ _ => rfl)))) dss_nil)
    (dss_cons (ds_set (i := 3) S.nd rfl (Or.inl rfl) de_int)
    (dss_cons (ds_if (dt_cmp op_ge lo_B (de_abs rfl T.n_abs (da_cons (dv 2) da_nil)) (de_pow de_int de_int) (nomark _)) (dss_one (ds_set (i := 3) S.nd rfl (Or.inl rfl) (de_abs rfl T.n_abs (da_cons (dv 2) da_nil)))) dss_nil)
    (dss_cons (ds_set (i := 4) S.nd rfl (Or.inl rfl) (de_lst (da_cons de_int (da_cons de_int (da_cons de_int (da_cons de_int (da_cons de_int (da_cons de_int (da_cons de_int (da_cons de_int da_nil))))))))))
    (dss_cons (ds_set (i := 5) S.nd rfl (Or.inl rfl) (de_add (de_add (de_add (de_mul (de_mod (dv 2) de_int) de_int) (de_mul (de_mul de_int (dv 1)) (dv 1))) (de_mul de_int (dv 1))) de_int))
    (dss_one (ds_ret (de_lstM (da_cons (dv 3) (da_cons (de_mod (dv 5) (de_ix (dv 4) (de_mod (dv 1) de_int) (fun _ _ => rfl))) da_nil))))))))))), fun ds μ Qd h => rd__law_bag h⟩)
theorem sc__law_take : FnScope ["_law_bag_here", "_law_many", "_law_digit"] ["_law_bag_here", "_law_many"] (defScope s__law_take) := ⟨rfl, rfl, rfl, by decide +kernel, rfl, by decide +kernel, by decide +kernel⟩
theorem ok__law_take (T : Txt K mg t)  : FnOk P w K mg base CX0 1 t.a__law_take t.d__law_take ["_law_bag_here", "_law_many"] (spD K spTake) := by
  have S := sc__law_take
  exact T.f__law_take.okD S (fun ds μ Q h => len_spTake h) (fun cdv A outer s H E hr => ⟨td__law_take, (dss_cons (ds_if (dt_cmp op_gt lo_B (de_ix (dv 0) de_int (fun _ _ => rfl)) de_int (nomark _)) (dss_cons (ds_set (i := 2) S.nd rfl (Or.inl rfl) (de_mod (de_ix (dv 0) de_int (fun _ _ => rfl)) (dv 1)))
    (dss_cons (ds_asg (de_div (de_ix (dv 0) de_int (fun _ _ => rfl)) (dv 1)) (dg_sub (dv 0) de_int))
    (dss_one (ds_ret (dv 2))))) dss_nil)
    (dss_cons (ds_asg (de_mod (de_add (de_mul (de_ix (dv 0) de_int (fun _ _ => rfl)) de_int) de_int) de_int) (dg_sub (dv 0) de_int))
    (dss_one (ds_ret (de_mod (de_div (de_mod (de_pow (de_ix (dv 0) de_int (fun _ _ => rfl)) de_int) de_int) de_int) (dv 1)))))), fun ds μ Qd h => rd__law_take h⟩)
theorem sc__law_is_whole : FnScope ["_law_thing"] ["_law_thing"] (defScope s__law_is_whole) := ⟨rfl, rfl, rfl, by decide +kernel, rfl, by decide +kernel, by decide +kernel⟩
theorem ok__law_is_whole (T : Txt K mg t)  : FnOk P w K mg base CX0 1 t.a__law_is_whole t.d__law_is_whole ["_law_thing"] (spD K spWhole) := by
  have S := sc__law_is_whole
  exact T.f__law_is_whole.okD S (fun ds μ Q h => len_spWhole h) (fun cdv A outer s H E hr => ⟨td__law_is_whole, (dss_one (ds_ret (de_and (de_isi (kit_int _) rfl T.n_isinstance rfl T.n_int PyProof.Rows.Boot.«int» (dv 0)) (de_one (de_not (de_isi (kit_bool _) rfl T.n_isinstance rfl T.n_bool PyProof.Rows.Boot.«bool» (dv 0))))))), fun ds μ Qd h => rd__law_is_whole h⟩)
theorem sc__law_shared : FnScope ["_law_one", "_law_other"] ["_law_one", "_law_other"] (defScope s__law_shared) := ⟨rfl, rfl, rfl, by decide +kernel, rfl, by decide +kernel, by decide +kernel⟩
theorem ok__law_shared (T : Txt K mg t)  : FnOk P w K mg base CX0 1 t.a__law_shared t.d__law_shared ["_law_one", "_law_other"] (spD K spGcd) := by
  have S := sc__law_shared
  exact T.f__law_shared.okD S (fun ds μ Q h => len_spGcd h) (fun cdv A outer s H E hr => ⟨td__law_shared, (dss_cons (ds_par (i := 0) (j := 1) rfl S.nd rfl rfl (by decide) rfl rfl (da_cons (de_abs rfl T.n_abs (da_cons (dv 0) da_nil)) (da_cons (de_abs rfl T.n_abs (da_cons (dv 1) da_nil)) da_nil)) rfl)
    (dss_cons (ds_while PassesOwn.never (dt_cmp op_gt lo_B (dv 1) de_int (nomark _)) (dss_one (ds_par (i := 0) (j := 1) rfl S.nd rfl rfl (by decide) rfl rfl (da_cons (dv 1) (da_cons (de_mod (dv 0) (dv 1)) da_nil)) rfl)))
    (dss_one (ds_ret (dv 0))))), fun ds μ Qd h => rd__law_shared h⟩)
theorem sc__law_minus : FnScope ["_law_x"] ["_law_x"] (defScope s__law_minus) := ⟨rfl, rfl, rfl, by decide +kernel, rfl, by decide +kernel, by decide +kernel⟩
theorem ok__law_minus (T : Txt K mg t)  : FnOk P w K mg base CX0 1 t.a__law_minus t.d__law_minus ["_law_x"] (spD K spMinus) := by
  have S := sc__law_minus
  exact T.f__law_minus.okD S (fun ds μ Q h => len_spMinus h) (fun cdv A outer s H E hr => ⟨td__law_minus, (dss_one (ds_ret (de_tup (da_cons (de_sub de_int (de_ix (dv 0) de_int (fun _ _ => rfl))) (da_cons (de_sub de_int (de_ix (dv 0) de_int (fun _ _ => rfl))) (da_cons (de_ix (dv 0) de_int (fun _ _ => rfl)) da_nil)))))), fun ds μ Qd h => rd__law_minus h⟩)
theorem sc__law_mate : FnScope ["_law_x"] ["_law_x"] (defScope s__law_mate) := ⟨rfl, rfl, rfl, by decide +kernel, rfl, by decide +kernel, by decide +kernel⟩
theorem ok__law_mate (T : Txt K mg t)  : FnOk P w K mg base CX0 1 t.a__law_mate t.d__law_mate ["_law_x"] (spD K spMate) := by
  have S := sc__law_mate
  exact T.f__law_mate.okD S (fun ds μ Q h => len_spMate h) (fun cdv A outer s H E hr => ⟨td__law_mate, (dss_one (ds_ret (de_tup (da_cons (de_ix (dv 0) de_int (fun _ _ => rfl)) (da_cons (de_sub de_int (de_ix (dv 0) de_int (fun _ _ => rfl))) (da_cons (de_ix (dv 0) de_int (fun _ _ => rfl)) da_nil)))))), fun ds μ Qd h => rd__law_mate h⟩)
theorem sc__law_sign : FnScope ["_law_d", "_law_x", "_law_first", "_law_second", "_law_sides"] ["_law_d", "_law_x"] (defScope s__law_sign) := ⟨rfl, rfl, rfl, by decide +kernel, rfl, by decide +kernel, by decide +kernel⟩
theorem ok__law_sign (T : Txt K mg t)  : FnOk P w K mg base CX0 1 t.a__law_sign t.d__law_sign ["_law_d", "_law_x"] (spD K spSign) := by
  have S := sc__law_sign
  exact T.f__law_sign.okD S (fun ds μ Q h => len_spSign h) (fun cdv A outer s H E hr => ⟨td__law_sign, (dss_cons (ds_par (i := 2) (j := 3) rfl S.nd rfl rfl (by decide) rfl rfl (da_cons (de_mul (de_ix (dv 1) de_int (fun _ _ => rfl)) (de_ix (dv 1) de_int (fun _ _ => rfl))) (da_cons (de_mul (de_mul (dv 0) (de_ix (dv 1) de_int (fun _ _ => rfl))) (de_ix (dv 1) de_int (fun _ _ => rfl))) da_nil)) rfl)
    (dss_cons (ds_set (i := 4) S.nd rfl (Or.inl rfl) (de_lst (da_cons (de_sub (de_intOf rfl T.n_int (da_cons (de_cmp op_gt lo_B (de_ix (dv 1) de_int (fun _ _ => rfl)) de_int (nomark _)) da_nil)) (de_intOf rfl T.n_int (da_cons (de_cmp op_lt lo_B (de_ix (dv 1) de_int (fun _ _ => rfl)) de_int (nomark _)) da_nil))) (da_cons (de_sub (de_intOf rfl T.n_int (da_cons (de_cmp op_gt lo_B (de_ix (dv 1) de_int (fun _ _ => rfl)) de_int (nomark _)) da_nil)) (de_intOf rfl T.n_int (da_cons (de_cmp op_lt lo_B (de_ix (dv 1) de_int (fun _ _ => rfl)) de_int (nomark _)) da_nil))) da_nil))))
    (dss_cons (ds_if (dt_cmp op_ge lo_B (de_mul (de_ix (dv 4) de_int (fun _ _ => rfl)) (de_ix (dv 4) de_int (fun _ _ => rfl))) de_int (nomark _)) (dss_one (ds_ret (de_if (dt_cmp (op_neD hr.units) lo_eqD (de_ix (dv 4) de_int (fun _ _ => rfl)) de_int (nomark _)) (de_ix (dv 4) de_int (fun _ _ => rfl)) (de_ix (dv 4) de_int (fun _ _ => rfl))))) dss_nil)
    (dss_one (ds_ret (de_if (dt_cmp op_gt lo_B (dv 2) (dv 3) (nomark _)) (de_ix (dv 4) de_int (fun _ _ => rfl)) (de_ix (dv 4) de_int (fun _ _ => rfl)))))))), fun ds μ Qd h => rd__law_sign h⟩)
theorem sc_divisor_of_all : FnScope ["a", "b", "c"] ["a", "b", "c"] (defScope s_divisor_of_all) := ⟨rfl, rfl, rfl, by decide +kernel, rfl, by decide +kernel, by decide +kernel⟩
theorem ok_divisor_of_all (T : Txt K mg t) (G_common_divisor : FnOk P w K mg base CX0 1 t.a_common_divisor t.d_common_divisor ["a", "b"] (spD K spGcd)) : FnOk P w K mg base CX0 2 t.a_divisor_of_all t.d_divisor_of_all ["a", "b", "c"] (spD K spDiv3) := by
  have S := sc_divisor_of_all
  exact T.f_divisor_of_all.okD S (fun ds μ Q h => len_spDiv3 h) (fun cdv A outer s H E hr => ⟨td_divisor_of_all, (dss_one (ds_ret (de_call G_common_divisor (hr.mono (by decide)) rfl T.m_common_divisor T.k_common_divisor T.b_common_divisor (da_cons (de_call G_common_divisor (hr.mono (by decide)) rfl T.m_common_divisor T.k_common_divisor T.b_common_divisor (da_cons (dv 2) (da_cons (dv 0) da_nil))) (da_cons (dv 1) da_nil))))), fun ds μ Qd h => rd_divisor_of_all h⟩)
theorem sc_sign_of : FnScope ["d", "x"] ["d", "x"] (defScope s_sign_of) := ⟨rfl, rfl, rfl, by decide +kernel, rfl, by decide +kernel, by decide +kernel⟩
theorem ok_sign_of (T : Txt K mg t) (G_sign_of_parts : FnOk P w K mg base CX0 1 t.a_sign_of_parts t.d_sign_of_parts ["d", "a", "b"] (spD K spSignP)) : FnOk P w K mg base CX0 2 t.a_sign_of t.d_sign_of ["d", "x"] (spD K spSign) := by
  have S := sc_sign_of
  exact T.f_sign_of.okD S (fun ds μ Q h => len_spSign h) (fun cdv A outer s H E hr => ⟨td_sign_of, (dss_one (ds_ret (de_call G_sign_of_parts (hr.mono (by decide)) rfl T.m_sign_of_parts T.k_sign_of_parts T.b_sign_of_parts (da_cons (dv 0) (da_cons (de_ix (dv 1) de_int (fun _ _ => rfl)) (da_cons (de_ix (dv 1) de_int (fun _ _ => rfl)) da_nil)))))), fun ds μ Qd h => rd_sign_of h⟩)
theorem sc_is_count : FnScope ["thing"] ["thing"] (defScope s_is_count) := ⟨rfl, rfl, rfl, by decide +kernel, rfl, by decide +kernel, by decide +kernel⟩
theorem ok_is_count (T : Txt K mg t) (G_is_whole : FnOk P w K mg base CX0 1 t.a_is_whole t.d_is_whole ["thing"] (spD K spWhole)) : FnOk P w K mg base CX0 2 t.a_is_count t.d_is_count ["thing"] (spD K spCount) := by
  have S := sc_is_count
  exact T.f_is_count.okD S (fun ds μ Q h => len_spCount h) (fun cdv A outer s H E hr => ⟨td_is_count, (dss_one (ds_ret (de_and (de_call G_is_whole (hr.mono (by decide)) rfl T.m_is_whole T.k_is_whole T.b_is_whole (da_cons (dv 0) da_nil)) (de_one (de_cmp op_ge lo_B (dv 0) de_int (nomark _)))))), fun ds μ Qd h => rd_is_count h⟩)
theorem sc__law_low : FnScope ["_law_a", "_law_b", "_law_c", "_law_common"] ["_law_a", "_law_b", "_law_c"] (defScope s__law_low) := ⟨rfl, rfl, rfl, by decide +kernel, rfl, by decide +kernel, by decide +kernel⟩
theorem ok__law_low (T : Txt K mg t) (G__law_shared : FnOk P w K mg base CX0 1 t.a__law_shared t.d__law_shared ["_law_one", "_law_other"] (spD K spGcd)) : FnOk P w K mg base CX0 2 t.a__law_low t.d__law_low ["_law_a", "_law_b", "_law_c"] (spD K spNumber) := by
  have S := sc__law_low
  exact T.f__law_low.okD S (fun ds μ Q h => len_spNumber h) (fun cdv A outer s H E hr => ⟨td__law_low, (dss_cons (ds_set (i := 3) S.nd rfl (Or.inl rfl) (de_mul (de_call G__law_shared (hr.mono (by decide)) rfl T.m__law_shared T.k__law_shared T.b__law_shared (da_cons (de_call G__law_shared (hr.mono (by decide)) rfl T.m__law_shared T.k__law_shared T.b__law_shared (da_cons (dv 0) (da_cons (dv 1) da_nil))) (da_cons (dv 2) da_nil))) (de_ix (de_lst (da_cons de_int (da_cons (de_neg de_int) da_nil))) (de_intOf rfl T.n_int (da_cons (de_cmp op_lt lo_B (dv 2) de_int (nomark _)) da_nil)) (fun _ _ => rfl))))
    (dss_one (ds_ret (de_tup (da_cons (de_div (dv 0) (dv 3)) (da_cons (de_div (dv 1) (dv 3)) (da_cons (de_div (dv 2) (dv 3)) da_nil))))))), fun ds μ Qd h => rd__law_low h⟩)
theorem sc__law_is_number : FnScope ["_law_thing"] ["_law_thing"] (defScope s__law_is_number) := ⟨rfl, rfl, rfl, by decide +kernel, rfl, by decide +kernel, by decide +kernel⟩
theorem ok__law_is_number (T : Txt K mg t) (G__law_shared : FnOk P w K mg base CX0 1 t.a__law_shared t.d__law_shared ["_law_one", "_law_other"] (spD K spGcd)) (G__law_is_whole : FnOk P w K mg base CX0 1 t.a__law_is_whole t.d__law_is_whole ["_law_thing"] (spD K spWhole)) : FnOk P w K mg base CX0 2 t.a__law_is_number t.d__law_is_number ["_law_thing"] (spD K spNumQ) := by
  have S := sc__law_is_number
  exact T.f__law_is_number.okD S (fun ds μ Q h => len_spNumQ h) (fun cdv A outer s H E hr => ⟨td__law_is_number, (dss_cons (ds_if (DW.dt (dw_or (dt_not (dt_val (de_isi (kit_tuple _) rfl T.n_isinstance rfl T.n_tuple PyProof.Rows.Boot.«tuple» (dv 0)))) (dw_or (dt_cmp (op_neD hr.units) lo_eqD (de_len rfl T.n_len (da_cons (dv 0) da_nil)) de_int (nomark _)) (dw_or1 (dt_not (dt_val (de_all rfl rfl T.n_all (da_cons (de_comp (N' := ["_law_one"]) (cap := [none]) rfl (di_tup (dv 0)) (fun _ _ _ => (dg_name (i := 0) (show List.Nodup (["_law_one"] : List Str) by decide +kernel) rfl (Or.inl rfl))) (fun _ _ _ => difs_nil) (fun _ _ _ => (de_call G__law_is_whole (hr.mono (by decide)) rfl T.m__law_is_whole T.k__law_is_whole T.b__law_is_whole (da_cons (dv 0) da_nil))) rfl (by decide +kernel) rfl (by decide +kernel) (by intro _ _ h; first | exact h | exact cl1 h | exact cl2 (by decide +kernel) h | exact cl3 (by decide +kernel) h | exact cl_of (cl_c rfl cl_n) _ _ h | exact cl_of (cl_c rfl (cl_c rfl cl_n)) _ _ h | exact cl_of (cl_c rfl (cl_c rfl (cl_c rfl cl_n))) _ _ h | cases h) (has_of rfl) rfl (cap_of trivial)) da_nil)))))))) (dss_one (ds_ret de_bl)) dss_nil)
    (dss_one (ds_ret (de_and (de_cmp op_gt lo_B (de_ix (dv 0) de_int (fun _ _ => rfl)) de_int (nomark _)) (de_one (de_cmp (op_eqD hr.units) lo_eqD (de_call G__law_shared (hr.mono (by decide)) rfl T.m__law_shared T.k__law_shared T.b__law_shared (da_cons (de_call G__law_shared (hr.mono (by decide)) rfl T.m__law_shared T.k__law_shared T.b__law_shared (da_cons (de_ix (dv 0) de_int (fun _ _ => rfl)) (da_cons (de_ix (dv 0) de_int (fun _ _ => rfl)) da_nil))) (da_cons (de_ix (dv 0) de_int (fun _ _ => rfl)) da_nil))) de_int (nomark _))))))), fun ds μ Qd h => rd__law_is_number h⟩)
theorem sc__law_root : FnScope ["_law_bag_here", "_law_some"] ["_law_bag_here"] (defScope s__law_root) := ⟨rfl, rfl, rfl, by decide +kernel, rfl, by decide +kernel, by decide +kernel⟩
theorem ok__law_root (T : Txt K mg t) (G__law_take : FnOk P w K mg base CX0 1 t.a__law_take t.d__law_take ["_law_bag_here", "_law_many"] (spD K spTake)) : FnOk P w K mg base CX0 2 t.a__law_root t.d__law_root ["_law_bag_here"] (spD K spRootL) := by
  have S := sc__law_root
  exact T.f__law_root.okD S (fun ds μ Q h => len_spRootL h) (fun cdv A outer s H E hr => ⟨td__law_root, (dss_cons (ds_if (dt_cmp (op_eqD hr.units) lo_eqD (de_call G__law_take (hr.mono (by decide)) rfl T.m__law_take T.k__law_take T.b__law_take (da_cons (dv 0) (da_cons de_int da_nil))) de_int (nomark _)) (dss_one (ds_ret (de_ix (de_lst (da_cons de_int (da_cons de_int (da_cons de_int da_nil)))) (de_call G__law_take (hr.mono (by decide)) rfl T.m__law_take T.k__law_take T.b__law_take (da_cons (dv 0) (da_cons de_int da_nil))) (fun _ _ => rfl)))) dss_nil)
    (dss_cons (ds_setC (i := 1) (N' := ["_law_d"]) (cap := [none]) S.nd rfl rfl rfl (di_rng2 rfl T.n_range (da_cons de_int (da_cons de_int da_nil))) (fun _ _ _ => (dg_name (i := 0) (show List.Nodup (["_law_d"] : List Str) by decide +kernel) rfl (Or.inl rfl))) (fun _ _ _ => (difs_one (dt_cmp (op_notInD hr.units) lo_inD (dv 0) (de_lst (da_cons de_int (da_cons de_int (da_cons de_int (da_cons de_int da_nil))))) (by with_unfolding_all rfl)))) (fun _ _ _ => (dv 0)) rfl (by decide +kernel) rfl (by decide +kernel) (by intro _ _ h; first | exact h | exact cl1 h | exact cl2 (by decide +kernel) h | exact cl3 (by decide +kernel) h | exact cl_of (cl_c rfl cl_n) _ _ h | exact cl_of (cl_c rfl (cl_c rfl cl_n)) _ _ h | exact cl_of (cl_c rfl (cl_c rfl (cl_c rfl cl_n))) _ _ h | cases h) (has_of rfl) rfl (cap_of trivial))
    (dss_one (ds_ret (de_ix (dv 1) (de_call G__law_take (hr.mono (by decide)) rfl T.m__law_take T.k__law_take T.b__law_take (da_cons (dv 0) (da_cons de_int da_nil))) (fun _ _ => rfl)))))), fun ds μ Qd h => rd__law_root h⟩)
theorem sc__law_grid_size : FnScope ["_law_bag_here"] ["_law_bag_here"] (defScope s__law_grid_size) := ⟨rfl, rfl, rfl, by decide +kernel, rfl, by decide +kernel, by decide +kernel⟩
theorem ok__law_grid_size (T : Txt K mg t) (G__law_take : FnOk P w K mg base CX0 1 t.a__law_take t.d__law_take ["_law_bag_here", "_law_many"] (spD K spTake)) : FnOk P w K mg base CX0 2 t.a__law_grid_size t.d__law_grid_size ["_law_bag_here"] (spD K spGrid) := by
  have S := sc__law_grid_size
  exact T.f__law_grid_size.okD S (fun ds μ Q h => len_spGrid h) (fun cdv A outer s H E hr => ⟨td__law_grid_size, (dss_one (ds_ret (de_add de_int (de_call G__law_take (hr.mono (by decide)) rfl T.m__law_take T.k__law_take T.b__law_take (da_cons (dv 0) (da_cons (de_ix (de_lst (da_cons de_int (da_cons de_int (da_cons de_int (da_cons de_int (da_cons de_int (da_cons de_int (da_cons de_int (da_cons (de_pow de_int de_int) da_nil))))))))) (de_call G__law_take (hr.mono (by decide)) rfl T.m__law_take T.k__law_take T.b__law_take (da_cons (dv 0) (da_cons de_int da_nil))) (fun _ _ => rfl)) da_nil)))))), fun ds μ Qd h => rd__law_grid_size h⟩)
theorem sc_is_number : FnScope ["thing", "a", "b", "c"] ["thing"] (defScope s_is_number) := ⟨rfl, rfl, rfl, by decide +kernel, rfl, by decide +kernel, by decide +kernel⟩
theorem ok_is_number (T : Txt K mg t) (G_is_whole : FnOk P w K mg base CX0 1 t.a_is_whole t.d_is_whole ["thing"] (spD K spWhole)) (G_divisor_of_all : FnOk P w K mg base CX0 2 t.a_divisor_of_all t.d_divisor_of_all ["a", "b", "c"] (spD K spDiv3)) : FnOk P w K mg base CX0 3 t.a_is_number t.d_is_number ["thing"] (spD K spNumQ) := by
  have S := sc_is_number
  exact T.f_is_number.okD S (fun ds μ Q h => len_spNumQ h) (fun cdv A outer s H E hr => ⟨td_is_number, (dss_cons (ds_if (DW.dt (dw_or (dt_not (dt_val (de_isi (kit_tuple _) rfl T.n_isinstance rfl T.n_tuple PyProof.Rows.Boot.«tuple» (dv 0)))) (dw_or1 (dt_cmp (op_neD hr.units) lo_eqD (de_len rfl T.n_len (da_cons (dv 0) da_nil)) de_int (nomark _))))) (dss_one (ds_ret de_bl)) dss_nil)
    (dss_cons (ds_asg (dv 0) (dg_tup (n := 3) rfl (dgs_cons (dg_name (i := 1) S.nd rfl (Or.inl rfl)) (dgs_cons (dg_name (i := 2) S.nd rfl (Or.inl rfl)) (dgs_cons (dg_name (i := 3) S.nd rfl (Or.inl rfl)) dgs_nil)))))
    (dss_cons (ds_if (DW.dt (dw_or (dt_not (dt_val (de_call G_is_whole (hr.mono (by decide)) rfl T.m_is_whole T.k_is_whole T.b_is_whole (da_cons (dv 1) da_nil)))) (dw_or (dt_not (dt_val (de_call G_is_whole (hr.mono (by decide)) rfl T.m_is_whole T.k_is_whole T.b_is_whole (da_cons (dv 2) da_nil)))) (dw_or1 (dt_not (dt_val (de_call G_is_whole (hr.mono (by decide)) rfl T.m_is_whole T.k_is_whole T.b_is_whole (da_cons (dv 3) da_nil)))))))) (dss_one (ds_ret de_bl)) dss_nil)
    (dss_one (ds_ret (de_and (de_cmp op_ge lo_B (dv 3) de_int (nomark _)) (de_one (de_cmp (op_eqD hr.units) lo_eqD (de_call G_divisor_of_all (hr.mono (by decide)) rfl T.m_divisor_of_all T.k_divisor_of_all T.b_divisor_of_all (da_cons (dv 1) (da_cons (dv 2) (da_cons (dv 3) da_nil)))) de_int (nomark _))))))))), fun ds μ Qd h => rd_is_number h⟩)
theorem sc_number : FnScope ["a", "b", "c", "divisor"] ["a", "b", "c"] (defScope s_number) := ⟨rfl, rfl, rfl, by decide +kernel, rfl, by decide +kernel, by decide +kernel⟩
theorem ok_number (T : Txt K mg t) (G_divisor_of_all : FnOk P w K mg base CX0 2 t.a_divisor_of_all t.d_divisor_of_all ["a", "b", "c"] (spD K spDiv3)) : FnOk P w K mg base CX0 3 t.a_number t.d_number ["a", "b", "c"] (spD K spNumber) := by
  have S := sc_number
  exact T.f_number.okD S (fun ds μ Q h => len_spNumber h) (fun cdv A outer s H E hr => ⟨td_number, (dss_cons (ds_if (dt_cmp (op_eqD hr.units) lo_eqD (dv 2) de_int (nomark _)) (dss_one ds_never) dss_nil)
    (dss_cons (ds_set (i := 3) S.nd rfl (Or.inl rfl) (de_call G_divisor_of_all (hr.mono (by decide)) rfl T.m_divisor_of_all T.k_divisor_of_all T.b_divisor_of_all (da_cons (dv 0) (da_cons (dv 1) (da_cons (dv 2) da_nil)))))
    (dss_cons (ds_if (dt_cmp op_lt lo_B (dv 2) de_int (nomark _)) (dss_one (ds_set (i := 3) S.nd rfl (Or.inl rfl) (de_neg (dv 3)))) dss_nil)
    (dss_one (ds_ret (de_tup (da_cons (de_div (dv 0) (dv 3)) (da_cons (de_div (dv 1) (dv 3)) (da_cons (de_div (dv 2) (dv 3)) da_nil))))))))), fun ds μ Qd h => rd_number h⟩)
theorem sc_has_form : FnScope ["thing", "many", "word"] ["thing", "many"] (defScope s_has_form) := ⟨rfl, rfl, rfl, by decide +kernel, rfl, by decide +kernel, by decide +kernel⟩
theorem ok_has_form (T : Txt K mg t) (G_is_count : FnOk P w K mg base CX0 2 t.a_is_count t.d_is_count ["thing"] (spD K spCount)) (G_is_whole : FnOk P w K mg base CX0 1 t.a_is_whole t.d_is_whole ["thing"] (spD K spWhole)) : FnOk P w K mg base CX0 3 t.a_has_form t.d_has_form ["thing", "many"] (spD K spForm) := by
  have S := sc_has_form
  exact T.f_has_form.okD S (fun ds μ Q h => len_spForm h) (fun cdv A outer s H E hr => ⟨td_has_form, (dss_cons (ds_if (DW.dt (dw_or (dt_not (dt_val (de_isi (kit_tuple _) rfl T.n_isinstance rfl T.n_tuple PyProof.Rows.Boot.«tuple» (dv 0)))) (dw_or1 (dt_cmp op_lt lo_B (de_len rfl T.n_len (da_cons (dv 0) da_nil)) de_int (nomark _))))) (dss_one (ds_ret de_bl)) dss_nil)
    (dss_cons (ds_set (i := 2) S.nd rfl (Or.inl rfl) (de_ix (dv 0) de_int (fun _ _ => rfl)))
    (dss_cons (ds_if (dt_cmp (op_eqD hr.units) lo_eqD (dv 2) de_str (nomark _)) (dss_one (ds_ret (de_and (de_cmp (op_eqD hr.units) lo_eqD (de_len rfl T.n_len (da_cons (dv 0) da_nil)) de_int (nomark _)) (de_and (de_call G_is_count (hr.mono (by decide)) rfl T.m_is_count T.k_is_count T.b_is_count (da_cons (de_ix (dv 0) de_int (fun _ _ => rfl)) da_nil)) (de_one (de_call G_is_count (hr.mono (by decide)) rfl T.m_is_count T.k_is_count T.b_is_count (da_cons (de_ix (dv 0) de_int (fun _ _ => rfl)) da_nil))))))) dss_nil)
    (dss_cons (ds_if (dt_cmp (op_neD hr.units) lo_eqD (de_len rfl T.n_len (da_cons (dv 0) da_nil)) de_int (nomark _)) (dss_one (ds_ret de_bl)) dss_nil)
    (dss_cons (ds_if (dt_cmp (op_eqD hr.units) lo_eqD (dv 2) de_str (nomark _)) (dss_one (ds_ret (de_and (de_call G_is_whole (hr.mono (by decide)) rfl T.m_is_whole T.k_is_whole T.b_is_whole (da_cons (de_ix (dv 0) de_int (fun _ _ => rfl)) da_nil)) (de_and (de_cmp op_ge lo_B (de_ix (dv 0) de_int (fun _ _ => rfl)) de_int (nomark _)) (de_one (de_cmp op_lt lo_B (de_ix (dv 0) de_int (fun _ _ => rfl)) (dv 1) (nomark _))))))) dss_nil)
    (dss_cons (ds_if (DW.dt (dw_or (dt_cmp (op_eqD hr.units) lo_eqD (dv 2) de_str (nomark _)) (dw_or1 (dt_cmp (op_eqD hr.units) lo_eqD (dv 2) de_str (nomark _))))) (dss_one (ds_ret (de_and (de_isi (kit_tuple _) rfl T.n_isinstance rfl T.n_tuple PyProof.Rows.Boot.«tuple» (de_ix (dv 0) de_int (fun _ _ => rfl))) (de_and (de_cmp op_ge lo_B (de_len rfl T.n_len (da_cons (de_ix (dv 0) de_int (fun _ _ => rfl)) da_nil)) (de_glob (u := .int 2) rfl T.c_LEAST_PARTS ⟨_, rfl⟩ (fun _ _ _ => Rp.int 2)) (nomark _)) (de_one (de_cmp op_le lo_B (de_len rfl T.n_len (da_cons (de_ix (dv 0) de_int (fun _ _ => rfl)) da_nil)) (de_glob (u := .int 8) rfl T.c_MOST_PARTS ⟨_, rfl⟩ (fun _ _ _ => Rp.int 8)) (nomark _))))))) dss_nil)
    (dss_one (ds_ret (de_cmp (op_eqD hr.units) lo_eqD (dv 2) de_str (nomark _)))))))))), fun ds μ Qd h => rd_has_form h⟩)
theorem sc__law_plus : FnScope ["_law_x", "_law_y"] ["_law_x", "_law_y"] (defScope s__law_plus) := ⟨rfl, rfl, rfl, by decide +kernel, rfl, by decide +kernel, by decide +kernel⟩
theorem ok__law_plus (T : Txt K mg t) (G__law_low : FnOk P w K mg base CX0 2 t.a__law_low t.d__law_low ["_law_a", "_law_b", "_law_c"] (spD K spNumber)) : FnOk P w K mg base CX0 3 t.a__law_plus t.d__law_plus ["_law_x", "_law_y"] (spD K spPlus) := by
  have S := sc__law_plus
  exact T.f__law_plus.okD S (fun ds μ Q h => len_spPlus h) (fun cdv A outer s H E hr => ⟨td__law_plus, (dss_one (ds_ret (de_call G__law_low (hr.mono (by decide)) rfl T.m__law_low T.k__law_low T.b__law_low (da_cons (de_add (de_mul (de_ix (dv 0) de_int (fun _ _ => rfl)) (de_ix (dv 1) de_int (fun _ _ => rfl))) (de_mul (de_ix (dv 1) de_int (fun _ _ => rfl)) (de_ix (dv 0) de_int (fun _ _ => rfl)))) (da_cons (de_add (de_mul (de_ix (dv 0) de_int (fun _ _ => rfl)) (de_ix (dv 1) de_int (fun _ _ => rfl))) (de_mul (de_ix (dv 1) de_int (fun _ _ => rfl)) (de_ix (dv 0) de_int (fun _ _ => rfl)))) (da_cons (de_mul (de_ix (dv 0) de_int (fun _ _ => rfl)) (de_ix (dv 1) de_int (fun _ _ => rfl))) da_nil)))))), fun ds μ Qd h => rd__law_plus h⟩)
theorem sc__law_times : FnScope ["_law_d", "_law_x", "_law_y"] ["_law_d", "_law_x", "_law_y"] (defScope s__law_times) := ⟨rfl, rfl, rfl, by decide +kernel, rfl, by decide +kernel, by decide +kernel⟩
theorem ok__law_times (T : Txt K mg t) (G__law_low : FnOk P w K mg base CX0 2 t.a__law_low t.d__law_low ["_law_a", "_law_b", "_law_c"] (spD K spNumber)) : FnOk P w K mg base CX0 3 t.a__law_times t.d__law_times ["_law_d", "_law_x", "_law_y"] (spD K spTimes) := by
  have S := sc__law_times
  exact T.f__law_times.okD S (fun ds μ Q h => len_spTimes h) (fun cdv A outer s H E hr => ⟨td__law_times, (dss_one (ds_ret (de_call G__law_low (hr.mono (by decide)) rfl T.m__law_low T.k__law_low T.b__law_low (da_cons (de_add (de_mul (de_ix (dv 1) de_int (fun _ _ => rfl)) (de_ix (dv 2) de_int (fun _ _ => rfl))) (de_mul (de_mul (dv 0) (de_ix (dv 1) de_int (fun _ _ => rfl))) (de_ix (dv 2) de_int (fun _ _ => rfl)))) (da_cons (de_add (de_mul (de_ix (dv 1) de_int (fun _ _ => rfl)) (de_ix (dv 2) de_int (fun _ _ => rfl))) (de_mul (de_ix (dv 1) de_int (fun _ _ => rfl)) (de_ix (dv 2) de_int (fun _ _ => rfl)))) (da_cons (de_mul (de_ix (dv 1) de_int (fun _ _ => rfl)) (de_ix (dv 2) de_int (fun _ _ => rfl))) da_nil)))))), fun ds μ Qd h => rd__law_times h⟩)
theorem sc__law_contrary : FnScope ["_law_d", "_law_x"] ["_law_d", "_law_x"] (defScope s__law_contrary) := ⟨rfl, rfl, rfl, by decide +kernel, rfl, by decide +kernel, by decide +kernel⟩
theorem ok__law_contrary (T : Txt K mg t) (G__law_low : FnOk P w K mg base CX0 2 t.a__law_low t.d__law_low ["_law_a", "_law_b", "_law_c"] (spD K spNumber)) : FnOk P w K mg base CX0 3 t.a__law_contrary t.d__law_contrary ["_law_d", "_law_x"] (spD K spContrary) := by
  have S := sc__law_contrary
  exact T.f__law_contrary.okD S (fun ds μ Q h => len_spContrary h) (fun cdv A outer s H E hr => ⟨td__law_contrary, (dss_one (ds_ret (de_call G__law_low (hr.mono (by decide)) rfl T.m__law_low T.k__law_low T.b__law_low (da_cons (de_mul (de_ix (dv 1) de_int (fun _ _ => rfl)) (de_ix (dv 1) de_int (fun _ _ => rfl))) (da_cons (de_sub de_int (de_mul (de_ix (dv 1) de_int (fun _ _ => rfl)) (de_ix (dv 1) de_int (fun _ _ => rfl)))) (da_cons (de_sub (de_mul (de_ix (dv 1) de_int (fun _ _ => rfl)) (de_ix (dv 1) de_int (fun _ _ => rfl))) (de_mul (de_mul (dv 0) (de_ix (dv 1) de_int (fun _ _ => rfl))) (de_ix (dv 1) de_int (fun _ _ => rfl)))) da_nil)))))), fun ds μ Qd h => rd__law_contrary h⟩)
theorem sc__law_number : FnScope ["_law_bag_here", "_law_wide", "_law_a", "_law_b", "_law_c", "_law_way"] ["_law_bag_here"] (defScope s__law_number) := ⟨rfl, rfl, rfl, by decide +kernel, rfl, by decide +kernel, by decide +kernel⟩
theorem ok__law_number (T : Txt K mg t) (G__law_take : FnOk P w K mg base CX0 1 t.a__law_take t.d__law_take ["_law_bag_here", "_law_many"] (spD K spTake)) (G__law_low : FnOk P w K mg base CX0 2 t.a__law_low t.d__law_low ["_law_a", "_law_b", "_law_c"] (spD K spNumber)) : FnOk P w K mg base CX0 3 t.a__law_number t.d__law_number ["_law_bag_here"] (spD K spNumberL) := by
  have S := sc__law_number
  exact T.f__law_number.okD S (fun ds μ Q h => len_spNumberL h) (fun cdv A outer s H E hr => ⟨td__law_number, (dss_cons (ds_set (i := 1) S.nd rfl (Or.inl rfl) (de_ix (de_lst (da_cons de_int (da_cons de_int (da_cons de_int (da_cons de_int da_nil))))) (de_call G__law_take (hr.mono (by decide)) rfl T.m__law_take T.k__law_take T.b__law_take (da_cons (dv 0) (da_cons de_int da_nil))) (fun _ _ => rfl)))
    (dss_cons (ds_par (i := 2) (j := 3) rfl S.nd rfl rfl (by decide) rfl rfl (da_cons (de_sub (de_call G__law_take (hr.mono (by decide)) rfl T.m__law_take T.k__law_take T.b__law_take (da_cons (dv 0) (da_cons (dv 1) da_nil))) (de_div (dv 1) de_int)) (da_cons (de_sub (de_call G__law_take (hr.mono (by decide)) rfl T.m__law_take T.k__law_take T.b__law_take (da_cons (dv 0) (da_cons (dv 1) da_nil))) (de_div (dv 1) de_int)) da_nil)) rfl)
    (dss_cons (ds_set (i := 4) S.nd rfl (Or.inl rfl) (de_add de_int (de_call G__law_take (hr.mono (by decide)) rfl T.m__law_take T.k__law_take T.b__law_take (da_cons (dv 0) (da_cons (de_sub (dv 1) de_int) da_nil)))))
    (dss_cons (ds_set (i := 5) S.nd rfl (Or.inl rfl) (de_call G__law_take (hr.mono (by decide)) rfl T.m__law_take T.k__law_take T.b__law_take (da_cons (dv 0) (da_cons de_int da_nil))))
    (dss_one (ds_ret (de_call G__law_low (hr.mono (by decide)) rfl T.m__law_low T.k__law_low T.b__law_low (da_cons (de_ix (de_lst (da_cons (dv 2) (da_cons (dv 2) (da_cons (dv 2) (da_cons (dv 2) (da_cons (dv 2) (da_cons (dv 2) (da_cons (dv 2) (da_cons de_int da_nil))))))))) (dv 5) (fun _ _ => rfl)) (da_cons (de_ix (de_lst (da_cons (dv 3) (da_cons (dv 3) (da_cons (dv 3) (da_cons (dv 3) (da_cons (dv 3) (da_cons de_int (da_cons de_int (da_cons (dv 3) da_nil))))))))) (dv 5) (fun _ _ => rfl)) (da_cons (de_ix (de_lst (da_cons (dv 4) (da_cons (dv 4) (da_cons de_int (da_cons (dv 4) (da_cons de_int (da_cons (dv 4) (da_cons de_int (da_cons (dv 4) da_nil))))))))) (dv 5) (fun _ _ => rfl)) da_nil)))))))))), fun ds μ Qd h => rd__law_number h⟩)
theorem sc__law_plan : FnScope ["_law_bag_here", "_law_many", "_law_leaves", "_law_parts", "_law_turn", "_law_deep", "_law_size", "_law_plan_here", "_law_way", "_law_whole", "_law_count", "_law_some", "_law_inner", "_law_sizes", "_law_most"] ["_law_bag_here", "_law_many"] (defScope s__law_plan) := ⟨rfl, rfl, rfl, by decide +kernel, rfl, by decide +kernel, by decide +kernel⟩
theorem ok__law_plan (T : Txt K mg t) (G__law_take : FnOk P w K mg base CX0 1 t.a__law_take t.d__law_take ["_law_bag_here", "_law_many"] (spD K spTake)) (G__law_grid_size : FnOk P w K mg base CX0 2 t.a__law_grid_size t.d__law_grid_size ["_law_bag_here"] (spD K spGrid)) : FnOk P w K mg base CX0 3 t.a__law_plan t.d__law_plan ["_law_bag_here", "_law_many"] (spD K spPlanG) := by
  have S := sc__law_plan
  exact T.f__law_plan.okD S (fun ds μ Q h => len_spPlanG h) (fun cdv A outer s H E hr => ⟨td__law_plan, (dss_cons (ds_set (i := 2) S.nd rfl (Or.inl rfl) (de_add de_int (de_call G__law_take (hr.mono (by decide)) rfl T.m__law_take T.k__law_take T.b__law_take (da_cons (dv 0) (da_cons (de_ix (de_lst (da_cons de_int (da_cons de_int (da_cons de_int da_nil)))) (de_call G__law_take (hr.mono (by decide)) rfl T.m__law_take T.k__law_take T.b__law_take (da_cons (dv 0) (da_cons de_int da_nil))) (fun _ _ => rfl)) da_nil)))))
    (dss_cons (ds_set (i := 3) S.nd rfl (Or.inr rfl) (de_compM (N' := ["_law_k", "_law_bag_here", "_law_many"]) (cap := [none, some 0, some 1]) rfl (di_rng1 rfl T.n_range (da_cons (dv 2) da_nil)) (fun _ _ _ => (dg_name (i := 0) (show List.Nodup (["_law_k", "_law_bag_here", "_law_many"] : List Str) by decide +kernel) rfl (Or.inl rfl))) (fun _ _ _ => difs_nil) (fun _ _ _ => (de_tup (da_cons de_int (da_cons de_int (da_cons (de_tup (da_cons de_str (da_cons (de_call G__law_take (hr.mono (by decide)) rfl T.m__law_take T.k__law_take T.b__law_take (da_cons (dv 1) (da_cons (dv 2) da_nil))) da_nil))) da_nil))))) rfl (by decide +kernel) rfl (by decide +kernel) (by intro _ _ h; first | exact h | exact cl1 h | exact cl2 (by decide +kernel) h | exact cl3 (by decide +kernel) h | exact cl_of (cl_c rfl cl_n) _ _ h | exact cl_of (cl_c rfl (cl_c rfl cl_n)) _ _ h | exact cl_of (cl_c rfl (cl_c rfl (cl_c rfl cl_n))) _ _ h | cases h) (has_of rfl) rfl (cap_of ⟨cap1, ⟨cap1, trivial⟩⟩)))
    (dss_cons (ds_for PassesOwn.never rfl (di_rng1 rfl T.n_range (da_cons de_int da_nil)) (dg_name (i := 4) S.nd rfl (Or.inl rfl)) (dss_cons (ds_asg (de_popAt (dv 3) (de_call G__law_take (hr.mono (by decide)) rfl T.m__law_take T.k__law_take T.b__law_take (da_cons (dv 0) (da_cons (de_len rfl T.n_len (da_cons (dv 3) da_nil)) da_nil)))) (dg_tup (n := 3) rfl (dgs_cons (dg_name (i := 5) S.nd rfl (Or.inl rfl)) (dgs_cons (dg_name (i := 6) S.nd rfl (Or.inl rfl)) (dgs_cons (dg_name (i := 7) S.nd rfl (Or.inl rfl)) dgs_nil)))))
    (dss_cons (ds_set (i := 8) S.nd rfl (Or.inl rfl) (de_call G__law_take (hr.mono (by decide)) rfl T.m__law_take T.k__law_take T.b__law_take (da_cons (dv 0) (da_cons de_int da_nil))))
    (dss_cons (ds_if (dt_cmp (op_eqD hr.units) lo_eqD (dv 8) de_int (nomark _)) (dss_one (ds_set (i := 9) S.nd rfl (Or.inl rfl) (de_tup (da_cons (de_add (dv 5) de_int) (da_cons (de_add (dv 6) de_int) (da_cons (de_tup (da_cons de_str (da_cons (dv 7) da_nil))) da_nil)))))) (dss_one (ds_if (dt_cmp (op_eqD hr.units) lo_eqD (dv 8) de_int (nomark _)) (dss_one (ds_set (i := 9) S.nd rfl (Or.inl rfl) (de_tup (da_cons (de_add (dv 5) de_int) (da_cons (de_add (dv 6) de_int) (da_cons (de_tup (da_cons de_str (da_cons (de_call G__law_grid_size (hr.mono (by decide)) rfl T.m__law_grid_size T.k__law_grid_size T.b__law_grid_size (da_cons (dv 0) da_nil)) (da_cons (de_call G__law_grid_size (hr.mono (by decide)) rfl T.m__law_grid_size T.k__law_grid_size T.b__law_grid_size (da_cons (dv 0) da_nil)) (da_cons (dv 7) da_nil))))) da_nil)))))) (dss_cons (ds_set (i := 10) S.nd rfl (Or.inl rfl) (de_min rfl rfl T.n_min (da_cons (de_len rfl T.n_len (da_cons (dv 3) da_nil)) (da_cons (de_add de_int (de_call G__law_take (hr.mono (by decide)) rfl T.m__law_take T.k__law_take T.b__law_take (da_cons (dv 0) (da_cons (de_ix (de_lst (da_cons de_int (da_cons de_int (da_cons de_int (da_cons de_int da_nil))))) (de_call G__law_take (hr.mono (by decide)) rfl T.m__law_take T.k__law_take T.b__law_take (da_cons (dv 0) (da_cons de_int da_nil))) (fun _ _ => rfl)) da_nil)))) da_nil))))
    (dss_cons (ds_set (i := 11) S.nd rfl (Or.inl rfl) (de_plus (de_lst (da_cons (de_tup (da_cons (dv 5) (da_cons (dv 6) (da_cons (dv 7) da_nil)))) da_nil)) (de_compI (N' := ["_law_k", "_law_parts", "_law_bag_here"]) (cap := [none, some 3, some 0]) rfl (di_rng1 rfl T.n_range (da_cons (dv 10) da_nil)) (fun _ _ _ => (dg_name (i := 0) (show List.Nodup (["_law_k", "_law_parts", "_law_bag_here"] : List Str) by decide +kernel) rfl (Or.inl rfl))) (fun _ _ _ => difs_nil) (fun _ _ _ => (de_popAt (dv 1) (de_call G__law_take (hr.mono (by decide)) rfl T.m__law_take T.k__law_take T.b__law_take (da_cons (dv 2) (da_cons (de_len rfl T.n_len (da_cons (dv 1) da_nil)) da_nil))))) rfl (by decide +kernel) rfl (by decide +kernel) (by intro _ _ h; first | exact h | exact cl1 h | exact cl2 (by decide +kernel) h | exact cl3 (by decide +kernel) h | exact cl_of (cl_c rfl cl_n) _ _ h | exact cl_of (cl_c rfl (cl_c rfl cl_n)) _ _ h | exact cl_of (cl_c rfl (cl_c rfl (cl_c rfl cl_n))) _ _ h | cases h) (has_of rfl) rfl (cap_of ⟨cap1, ⟨cap1, trivial⟩⟩))))
    (dss_cons (ds_if (dt_cmp (op_eqD hr.units) lo_eqD (de_len rfl T.n_len (da_cons (dv 11) da_nil)) de_int (nomark _)) (dss_one (ds_set (i := 11) S.nd rfl (Or.inl rfl) (de_plus (dv 11) (dv 11)))) dss_nil)
    (dss_cons (ds_set (i := 12) S.nd rfl (Or.inl rfl) (de_tupOf rfl T.n_tuple (da_cons (de_compI (N' := ["_law_here", "_law_many_in", "_law_part"]) (cap := [none, none, none]) rfl (di_list (dv 11)) (fun _ _ _ => (dg_tup (n := 3) rfl (dgs_cons (dg_name (i := 0) (show List.Nodup (["_law_here", "_law_many_in", "_law_part"] : List Str) by decide +kernel) rfl (Or.inl rfl)) (dgs_cons (dg_name (i := 1) (show List.Nodup (["_law_here", "_law_many_in", "_law_part"] : List Str) by decide +kernel) rfl (Or.inl rfl)) (dgs_cons (dg_name (i := 2) (show List.Nodup (["_law_here", "_law_many_in", "_law_part"] : List Str) by decide +kernel) rfl (Or.inl rfl)) dgs_nil))))) (fun _ _ _ => difs_nil) (fun _ _ _ => (dv 2)) rfl (by decide +kernel) rfl (by decide +kernel) (by intro _ _ h; first | exact h | exact cl1 h | exact cl2 (by decide +kernel) h | exact cl3 (by decide +kernel) h | exact cl_of (cl_c rfl cl_n) _ _ h | exact cl_of (cl_c rfl (cl_c rfl cl_n)) _ _ h | exact cl_of (cl_c rfl (cl_c rfl (cl_c rfl cl_n))) _ _ h | cases h) (has_of rfl) rfl (cap_of trivial)) da_nil)))
    (dss_cons (ds_setC (i := 13) (N' := ["_law_here", "_law_many_in", "_law_part"]) (cap := [none, none, none]) S.nd rfl rfl rfl (di_list (dv 11)) (fun _ _ _ => (dg_tup (n := 3) rfl (dgs_cons (dg_name (i := 0) (show List.Nodup (["_law_here", "_law_many_in", "_law_part"] : List Str) by decide +kernel) rfl (Or.inl rfl)) (dgs_cons (dg_name (i := 1) (show List.Nodup (["_law_here", "_law_many_in", "_law_part"] : List Str) by decide +kernel) rfl (Or.inl rfl)) (dgs_cons (dg_name (i := 2) (show List.Nodup (["_law_here", "_law_many_in", "_law_part"] : List Str) by decide +kernel) rfl (Or.inl rfl)) dgs_nil))))) (fun _ _ _ => difs_nil) (fun _ _ _ => (dv 1)) rfl (by decide +kernel) rfl (by decide +kernel) (by intro _ _ h; first | exact h | exact cl1 h | exact cl2 (by decide +kernel) h | exact cl3 (by decide +kernel) h | exact cl_of (cl_c rfl cl_n) _ _ h | exact cl_of (cl_c rfl (cl_c rfl cl_n)) _ _ h | exact cl_of (cl_c rfl (cl_c rfl (cl_c rfl cl_n))) _ _ h | cases h) (has_of rfl) rfl (cap_of trivial))
    (dss_cons (ds_set (i := 14) S.nd rfl (Or.inl rfl) (de_add de_int (de_maxL rfl rfl T.n_max (da_cons (de_compI (N' := ["_law_here", "_law_many_in", "_law_part"]) (cap := [none, none, none]) rfl (di_list (dv 11)) (fun _ _ _ => (dg_tup (n := 3) rfl (dgs_cons (dg_name (i := 0) (show List.Nodup (["_law_here", "_law_many_in", "_law_part"] : List Str) by decide +kernel) rfl (Or.inl rfl)) (dgs_cons (dg_name (i := 1) (show List.Nodup (["_law_here", "_law_many_in", "_law_part"] : List Str) by decide +kernel) rfl (Or.inl rfl)) (dgs_cons (dg_name (i := 2) (show List.Nodup (["_law_here", "_law_many_in", "_law_part"] : List Str) by decide +kernel) rfl (Or.inl rfl)) dgs_nil))))) (fun _ _ _ => difs_nil) (fun _ _ _ => (dv 0)) rfl (by decide +kernel) rfl (by decide +kernel) (by intro _ _ h; first | exact h | exact cl1 h | exact cl2 (by decide +kernel) h | exact cl3 (by decide +kernel) h | exact cl_of (cl_c rfl cl_n) _ _ h | exact cl_of (cl_c rfl (cl_c rfl cl_n)) _ _ h | exact cl_of (cl_c rfl (cl_c rfl (cl_c rfl cl_n))) _ _ h | cases h) (has_of rfl) rfl (cap_of trivial)) da_nil))))
    (dss_one (ds_set (i := 9) S.nd rfl (Or.inl rfl) (de_tup (da_cons (dv 14) (da_cons (de_add de_int (de_sum rfl rfl T.n_sum (da_cons (dv 13) da_nil))) (da_cons (de_tup (da_cons (de_ix (de_lst (da_cons de_str (da_cons de_str da_nil))) (de_mod (dv 8) de_int) (fun _ _ => rfl)) (da_cons (dv 12) da_nil))) da_nil)))))))))))))))
    (dss_cons (ds_if (DW.dt (dw_or (dt_cmp op_gt lo_B (de_ix (dv 9) de_int (fun _ _ => rfl)) de_int (nomark _)) (dw_or1 (dt_cmp op_gt lo_B (de_ix (dv 9) de_int (fun _ _ => rfl)) de_int (nomark _))))) (dss_one (ds_ret (dv 7))) dss_nil)
    (dss_cons (ds_expr (de_append (dv 3) (dv 9)))
    (dss_one (ds_if (DW.dt (dw_and (dt_cmp (op_eqD hr.units) lo_eqD (de_len rfl T.n_len (da_cons (dv 3) da_nil)) de_int (nomark _)) (dw_and1 (dt_cmp (op_eqD hr.units) lo_eqD (de_call G__law_take (hr.mono (by decide)) rfl T.m__law_take T.k__law_take T.b__law_take (da_cons (dv 0) (da_cons de_int da_nil))) de_int (nomark _))))) (dss_one (ds_ret (de_ix (dv 9) de_int (fun _ _ => rfl)))) dss_nil))))))))
    (dss_one (ds_ret (de_ix (de_ix (dv 3) de_int (fun _ _ => rfl)) de_int (fun _ _ => rfl))))))), fun ds μ Qd h => rd__law_plan h⟩)
theorem sc_plus : FnScope ["x", "y"] ["x", "y"] (defScope s_plus) := ⟨rfl, rfl, rfl, by decide +kernel, rfl, by decide +kernel, by decide +kernel⟩
theorem ok_plus (T : Txt K mg t) (G_number : FnOk P w K mg base CX0 3 t.a_number t.d_number ["a", "b", "c"] (spD K spNumber)) : FnOk P w K mg base CX0 4 t.a_plus t.d_plus ["x", "y"] (spD K spPlus) := by
  have S := sc_plus
  exact T.f_plus.okD S (fun ds μ Q h => len_spPlus h) (fun cdv A outer s H E hr => ⟨td_plus, (dss_one (ds_ret (de_call G_number (hr.mono (by decide)) rfl T.m_number T.k_number T.b_number (da_cons (de_add (de_mul (de_ix (dv 0) de_int (fun _ _ => rfl)) (de_ix (dv 1) de_int (fun _ _ => rfl))) (de_mul (de_ix (dv 1) de_int (fun _ _ => rfl)) (de_ix (dv 0) de_int (fun _ _ => rfl)))) (da_cons (de_add (de_mul (de_ix (dv 0) de_int (fun _ _ => rfl)) (de_ix (dv 1) de_int (fun _ _ => rfl))) (de_mul (de_ix (dv 1) de_int (fun _ _ => rfl)) (de_ix (dv 0) de_int (fun _ _ => rfl)))) (da_cons (de_mul (de_ix (dv 0) de_int (fun _ _ => rfl)) (de_ix (dv 1) de_int (fun _ _ => rfl))) da_nil)))))), fun ds μ Qd h => rd_plus h⟩)
theorem sc_times : FnScope ["d", "x", "y"] ["d", "x", "y"] (defScope s_times) := ⟨rfl, rfl, rfl, by decide +kernel, rfl, by decide +kernel, by decide +kernel⟩
theorem ok_times (T : Txt K mg t) (G_number : FnOk P w K mg base CX0 3 t.a_number t.d_number ["a", "b", "c"] (spD K spNumber)) : FnOk P w K mg base CX0 4 t.a_times t.d_times ["d", "x", "y"] (spD K spTimes) := by
  have S := sc_times
  exact T.f_times.okD S (fun ds μ Q h => len_spTimes h) (fun cdv A outer s H E hr => ⟨td_times, (dss_one (ds_ret (de_call G_number (hr.mono (by decide)) rfl T.m_number T.k_number T.b_number (da_cons (de_add (de_mul (de_ix (dv 1) de_int (fun _ _ => rfl)) (de_ix (dv 2) de_int (fun _ _ => rfl))) (de_mul (de_mul (dv 0) (de_ix (dv 1) de_int (fun _ _ => rfl))) (de_ix (dv 2) de_int (fun _ _ => rfl)))) (da_cons (de_add (de_mul (de_ix (dv 1) de_int (fun _ _ => rfl)) (de_ix (dv 2) de_int (fun _ _ => rfl))) (de_mul (de_ix (dv 1) de_int (fun _ _ => rfl)) (de_ix (dv 2) de_int (fun _ _ => rfl)))) (da_cons (de_mul (de_ix (dv 1) de_int (fun _ _ => rfl)) (de_ix (dv 2) de_int (fun _ _ => rfl))) da_nil)))))), fun ds μ Qd h => rd_times h⟩)
theorem sc_contrary : FnScope ["d", "x", "norm"] ["d", "x"] (defScope s_contrary) := ⟨rfl, rfl, rfl, by decide +kernel, rfl, by decide +kernel, by decide +kernel⟩
theorem ok_contrary (T : Txt K mg t) (G_number : FnOk P w K mg base CX0 3 t.a_number t.d_number ["a", "b", "c"] (spD K spNumber)) : FnOk P w K mg base CX0 4 t.a_contrary t.d_contrary ["d", "x"] (spD K spContrary) := by
  have S := sc_contrary
  exact T.f_contrary.okD S (fun ds μ Q h => len_spContrary h) (fun cdv A outer s H E hr => ⟨td_contrary, (dss_cons (ds_set (i := 2) S.nd rfl (Or.inl rfl) (de_sub (de_mul (de_ix (dv 1) de_int (fun _ _ => rfl)) (de_ix (dv 1) de_int (fun _ _ => rfl))) (de_mul (de_mul (dv 0) (de_ix (dv 1) de_int (fun _ _ => rfl))) (de_ix (dv 1) de_int (fun _ _ => rfl)))))
    (dss_one (ds_ret (de_call G_number (hr.mono (by decide)) rfl T.m_number T.k_number T.b_number (da_cons (de_mul (de_ix (dv 1) de_int (fun _ _ => rfl)) (de_ix (dv 1) de_int (fun _ _ => rfl))) (da_cons (de_mul (de_neg (de_ix (dv 1) de_int (fun _ _ => rfl))) (de_ix (dv 1) de_int (fun _ _ => rfl))) (da_cons (dv 2) da_nil))))))), fun ds μ Qd h => rd_contrary h⟩)
theorem sc_is_above_nought : FnScope ["d", "thing"] ["d", "thing"] (defScope s_is_above_nought) := ⟨rfl, rfl, rfl, by decide +kernel, rfl, by decide +kernel, by decide +kernel⟩
theorem ok_is_above_nought (T : Txt K mg t) (G_is_number : FnOk P w K mg base CX0 3 t.a_is_number t.d_is_number ["thing"] (spD K spNumQ)) (G_sign_of : FnOk P w K mg base CX0 2 t.a_sign_of t.d_sign_of ["d", "x"] (spD K spSign)) : FnOk P w K mg base CX0 4 t.a_is_above_nought t.d_is_above_nought ["d", "thing"] (spD K spAboveQ) := by
  have S := sc_is_above_nought
  exact T.f_is_above_nought.okD S (fun ds μ Q h => len_spAboveQ h) (fun cdv A outer s H E hr => ⟨td_is_above_nought, (dss_one (ds_ret (de_and (de_call G_is_number (hr.mono (by decide)) rfl T.m_is_number T.k_is_number T.b_is_number (da_cons (dv 1) da_nil)) (de_one (de_cmp (op_eqD hr.units) lo_eqD (de_call G_sign_of (hr.mono (by decide)) rfl T.m_sign_of T.k_sign_of T.b_sign_of (da_cons (dv 0) (da_cons (dv 1) da_nil))) de_int (nomark _)))))), fun ds μ Qd h => rd_is_above_nought h⟩)
theorem sc_is_plan : FnScope ["thing", "many", "waiting", "counted", "plan", "depth", "part"] ["thing", "many"] (defScope s_is_plan) := ⟨rfl, rfl, rfl, by decide +kernel, rfl, by decide +kernel, by decide +kernel⟩
theorem ok_is_plan (T : Txt K mg t) (G_parts_of : FnOk P w K mg base CX0 1 t.a_parts_of t.d_parts_of ["plan"] (spD K spParts)) (G_has_form : FnOk P w K mg base CX0 3 t.a_has_form t.d_has_form ["thing", "many"] (spD K spForm)) : FnOk P w K mg base CX0 4 t.a_is_plan t.d_is_plan ["thing", "many"] (spD K spIsPlanP) := by
  have S := sc_is_plan
  exact T.f_is_plan.okD S (fun ds μ Q h => len_spIsPlanP h) (fun cdv A outer s H E hr => ⟨td_is_plan, (dss_cons (ds_set (i := 2) S.nd rfl (Or.inl rfl) (de_lstM (da_cons (de_tup (da_cons (dv 0) (da_cons de_int da_nil))) da_nil)))
    (dss_cons (ds_set (i := 3) S.nd rfl (Or.inl rfl) de_int)
    (dss_cons (ds_while PassesOwn.never (dt_truM (dv 2)) (dss_cons (ds_asg (de_pop (dv 2)) (dg_tup (n := 2) rfl (dgs_cons (dg_name (i := 4) S.nd rfl (Or.inl rfl)) (dgs_cons (dg_name (i := 5) S.nd rfl (Or.inl rfl)) dgs_nil))))
    (dss_cons (ds_aug (i := 3) S.nd rfl (Or.inl rfl) de_int)
    (dss_cons (ds_if (DW.dt (dw_or (dt_cmp op_gt lo_B (dv 3) (de_glob (u := .int 60) rfl T.c_MOST_PLANS ⟨_, rfl⟩ (fun _ _ _ => Rp.int 60)) (nomark _)) (dw_or (dt_cmp op_gt lo_B (dv 5) (de_glob (u := .int 12) rfl T.c_MOST_WITHIN ⟨_, rfl⟩ (fun _ _ _ => Rp.int 12)) (nomark _)) (dw_or1 (dt_not (dt_val (de_call G_has_form (hr.mono (by decide)) rfl T.m_has_form T.k_has_form T.b_has_form (da_cons (dv 4) (da_cons (dv 1) da_nil))))))))) (dss_one (ds_ret de_bl)) dss_nil)
    (dss_one (ds_for PassesOwn.never rfl (di_list (de_call G_parts_of (hr.mono (by decide)) rfl T.m_parts_of T.k_parts_of T.b_parts_of (da_cons (dv 4) da_nil))) (dg_name (i := 6) S.nd rfl (Or.inl rfl)) (dss_one (ds_expr (de_append (dv 2) (de_tup (da_cons (dv 6) (da_cons (de_add (dv 5) de_int) da_nil))))))))))))
    (dss_one (ds_ret de_bl))))), fun ds μ Qd h => rd_is_plan h⟩)
theorem sc__law_above : FnScope ["_law_bag_here", "_law_d", "_law_x", "_law_sign_here"] ["_law_bag_here", "_law_d"] (defScope s__law_above) := ⟨rfl, rfl, rfl, by decide +kernel, rfl, by decide +kernel, by decide +kernel⟩
theorem ok__law_above (T : Txt K mg t) (G__law_number : FnOk P w K mg base CX0 3 t.a__law_number t.d__law_number ["_law_bag_here"] (spD K spNumberL)) (G__law_sign : FnOk P w K mg base CX0 1 t.a__law_sign t.d__law_sign ["_law_d", "_law_x"] (spD K spSign)) (G__law_minus : FnOk P w K mg base CX0 1 t.a__law_minus t.d__law_minus ["_law_x"] (spD K spMinus)) (G__law_take : FnOk P w K mg base CX0 1 t.a__law_take t.d__law_take ["_law_bag_here", "_law_many"] (spD K spTake)) : FnOk P w K mg base CX0 4 t.a__law_above t.d__law_above ["_law_bag_here", "_law_d"] (spD K spAboveL) := by
  have S := sc__law_above
  exact T.f__law_above.okD S (fun ds μ Q h => len_spAboveL h) (fun cdv A outer s H E hr => ⟨td__law_above, (dss_cons (ds_set (i := 2) S.nd rfl (Or.inl rfl) (de_call G__law_number (hr.mono (by decide)) rfl T.m__law_number T.k__law_number T.b__law_number (da_cons (dv 0) da_nil)))
    (dss_cons (ds_set (i := 3) S.nd rfl (Or.inl rfl) (de_call G__law_sign (hr.mono (by decide)) rfl T.m__law_sign T.k__law_sign T.b__law_sign (da_cons (dv 1) (da_cons (dv 2) da_nil))))
    (dss_cons (ds_if (dt_cmp (op_eqD hr.units) lo_eqD (dv 3) de_int (nomark _)) (dss_one (ds_ret (de_tup (da_cons (de_add de_int (de_call G__law_take (hr.mono (by decide)) rfl T.m__law_take T.k__law_take T.b__law_take (da_cons (dv 0) (da_cons de_int da_nil)))) (da_cons de_int (da_cons de_int da_nil)))))) dss_nil)
    (dss_one (ds_ret (de_if (dt_cmp op_gt lo_B (dv 3) de_int (nomark _)) (dv 2) (de_call G__law_minus (hr.mono (by decide)) rfl T.m__law_minus T.k__law_minus T.b__law_minus (da_cons (dv 2) da_nil)))))))), fun ds μ Qd h => rd__law_above h⟩)
theorem sc__law_sum : FnScope ["_law_some", "_law_found", "_law_one"] ["_law_some"] (defScope s__law_sum) := ⟨rfl, rfl, rfl, by decide +kernel, rfl, by decide +kernel, by decide +kernel⟩
theorem ok__law_sum (T : Txt K mg t) (G__law_plus : FnOk P w K mg base CX0 3 t.a__law_plus t.d__law_plus ["_law_x", "_law_y"] (spD K spPlus)) : FnOk P w K mg base CX0 4 t.a__law_sum t.d__law_sum ["_law_some"] (spD K spSum) := by
  have S := sc__law_sum
  exact T.f__law_sum.okD S (fun ds μ Q h => len_spSum h) (fun cdv A outer s H E hr => ⟨td__law_sum, (dss_cons (ds_set (i := 1) S.nd rfl (Or.inl rfl) (de_tup (da_cons de_int (da_cons de_int (da_cons de_int da_nil)))))
    (dss_cons (ds_for PassesOwn.never rfl (di_list (dv 0)) (dg_name (i := 2) S.nd rfl (Or.inl rfl)) (dss_one (ds_set (i := 1) S.nd rfl (Or.inl rfl) (de_call G__law_plus (hr.mono (by decide)) rfl T.m__law_plus T.k__law_plus T.b__law_plus (da_cons (dv 1) (da_cons (dv 2) da_nil))))))
    (dss_one (ds_ret (dv 1))))), fun ds μ Qd h => rd__law_sum h⟩)
theorem sc_is_kinds : FnScope ["d", "thing"] ["d", "thing"] (defScope s_is_kinds) := ⟨rfl, rfl, rfl, by decide +kernel, rfl, by decide +kernel, by decide +kernel⟩
theorem ok_is_kinds (T : Txt K mg t) (G_is_above_nought : FnOk P w K mg base CX0 4 t.a_is_above_nought t.d_is_above_nought ["d", "thing"] (spD K spAboveQ)) : FnOk P w K mg base CX0 5 t.a_is_kinds t.d_is_kinds ["d", "thing"] (spD K spKindsQ) := by
  have S := sc_is_kinds
  exact T.f_is_kinds.okD S (fun ds μ Q h => len_spKindsQ h) (fun cdv A outer s H E hr => ⟨td_is_kinds, (dss_cons (ds_if (DW.dt (dw_or (dt_not (dt_val (de_isi (kit_tuple _) rfl T.n_isinstance rfl T.n_tuple PyProof.Rows.Boot.«tuple» (dv 1)))) (dw_or (dt_cmp op_lt lo_B (de_len rfl T.n_len (da_cons (dv 1) da_nil)) de_int (nomark _)) (dw_or1 (dt_cmp op_gt lo_B (de_len rfl T.n_len (da_cons (dv 1) da_nil)) (de_glob (u := .int 3) rfl T.c_MOST_KINDS ⟨_, rfl⟩ (fun _ _ _ => Rp.int 3)) (nomark _)))))) (dss_one (ds_ret de_bl)) dss_nil)
    (dss_one (ds_ret (de_all rfl rfl T.n_all (da_cons (de_comp (N' := ["kind", "d"]) (cap := [none, some 0]) rfl (di_tup (dv 1)) (fun _ _ _ => (dg_name (i := 0) (show List.Nodup (["kind", "d"] : List Str) by decide +kernel) rfl (Or.inl rfl))) (fun _ _ _ => difs_nil) (fun _ _ _ => (de_call G_is_above_nought (hr.mono (by decide)) rfl T.m_is_above_nought T.k_is_above_nought T.b_is_above_nought (da_cons (dv 1) (da_cons (dv 0) da_nil)))) rfl (by decide +kernel) rfl (by decide +kernel) (by intro _ _ h; first | exact h | exact cl1 h | exact cl2 (by decide +kernel) h | exact cl3 (by decide +kernel) h | exact cl_of (cl_c rfl cl_n) _ _ h | exact cl_of (cl_c rfl (cl_c rfl cl_n)) _ _ h | exact cl_of (cl_c rfl (cl_c rfl (cl_c rfl cl_n))) _ _ h | cases h) (has_of rfl) rfl (cap_of ⟨cap1, trivial⟩)) da_nil))))), fun ds μ Qd h => rd_is_kinds h⟩)
theorem sc_must_be_plan : FnScope ["thing", "many"] ["thing", "many"] (defScope s_must_be_plan) := ⟨rfl, rfl, rfl, by decide +kernel, rfl, by decide +kernel, by decide +kernel⟩
theorem ok_must_be_plan (T : Txt K mg t) (G_is_plan : FnOk P w K mg base CX0 4 t.a_is_plan t.d_is_plan ["thing", "many"] (spD K spIsPlanP)) : FnOk P w K mg base CX0 5 t.a_must_be_plan t.d_must_be_plan ["thing", "many"] (spD K spMustPlan) := by
  have S := sc_must_be_plan
  exact T.f_must_be_plan.okD S (fun ds μ Q h => len_spMustPlan h) (fun cdv A outer s H E hr => ⟨td_must_be_plan, (dss_one (ds_if (dt_not (dt_val (de_call G_is_plan (hr.mono (by decide)) rfl T.m_is_plan T.k_is_plan T.b_is_plan (da_cons (dv 0) (da_cons (dv 1) da_nil))))) (dss_one ds_never) dss_nil)), fun ds μ Qd h => rd_must_be_plan h⟩)
theorem sc_sum_of : FnScope ["shapes", "total", "shape"] ["shapes"] (defScope s_sum_of) := ⟨rfl, rfl, rfl, by decide +kernel, rfl, by decide +kernel, by decide +kernel⟩
theorem ok_sum_of (T : Txt K mg t) (G_plus : FnOk P w K mg base CX0 4 t.a_plus t.d_plus ["x", "y"] (spD K spPlus)) : FnOk P w K mg base CX0 5 t.a_sum_of t.d_sum_of ["shapes"] (spD K spSum) := by
  have S := sc_sum_of
  exact T.f_sum_of.okD S (fun ds μ Q h => len_spSum h) (fun cdv A outer s H E hr => ⟨td_sum_of, (dss_cons (ds_set (i := 1) S.nd rfl (Or.inl rfl) (de_globT rfl T.c_NOUGHT))
    (dss_cons (ds_for PassesOwn.never rfl (di_list (dv 0)) (dg_name (i := 2) S.nd rfl (Or.inl rfl)) (dss_one (ds_set (i := 1) S.nd rfl (Or.inl rfl) (de_call G_plus (hr.mono (by decide)) rfl T.m_plus T.k_plus T.b_plus (da_cons (dv 1) (da_cons (dv 2) da_nil))))))
    (dss_one (ds_ret (dv 1))))), fun ds μ Qd h => rd_sum_of h⟩)
theorem sc__law_kinds : FnScope ["_law_bag_here", "_law_d", "_law_found", "_law_turn", "_law_way", "_law_part", "_law_kind"] ["_law_bag_here", "_law_d"] (defScope s__law_kinds) := ⟨rfl, rfl, rfl, by decide +kernel, rfl, by decide +kernel, by decide +kernel⟩
theorem ok__law_kinds (T : Txt K mg t) (G__law_above : FnOk P w K mg base CX0 4 t.a__law_above t.d__law_above ["_law_bag_here", "_law_d"] (spD K spAboveL)) (G__law_take : FnOk P w K mg base CX0 1 t.a__law_take t.d__law_take ["_law_bag_here", "_law_many"] (spD K spTake)) (G__law_contrary : FnOk P w K mg base CX0 3 t.a__law_contrary t.d__law_contrary ["_law_d", "_law_x"] (spD K spContrary)) (G__law_times : FnOk P w K mg base CX0 3 t.a__law_times t.d__law_times ["_law_d", "_law_x", "_law_y"] (spD K spTimes)) (G__law_low : FnOk P w K mg base CX0 2 t.a__law_low t.d__law_low ["_law_a", "_law_b", "_law_c"] (spD K spNumber)) : FnOk P w K mg base CX0 5 t.a__law_kinds t.d__law_kinds ["_law_bag_here", "_law_d"] (spD K spKindsL) := by
  have S := sc__law_kinds
  exact T.f__law_kinds.okD S (fun ds μ Q h => len_spKindsL h) (fun cdv A outer s H E hr => ⟨td__law_kinds, (dss_cons (ds_set (i := 2) S.nd rfl (Or.inl rfl) (de_lstM (da_cons (de_call G__law_above (hr.mono (by decide)) rfl T.m__law_above T.k__law_above T.b__law_above (da_cons (dv 0) (da_cons (dv 1) da_nil))) da_nil)))
    (dss_cons (ds_for PassesOwn.never rfl (di_rng1 rfl T.n_range (da_cons (de_call G__law_take (hr.mono (by decide)) rfl T.m__law_take T.k__law_take T.b__law_take (da_cons (dv 0) (da_cons de_int da_nil))) da_nil)) (dg_name (i := 3) S.nd rfl (Or.inl rfl)) (dss_cons (ds_set (i := 4) S.nd rfl (Or.inl rfl) (de_call G__law_take (hr.mono (by decide)) rfl T.m__law_take T.k__law_take T.b__law_take (da_cons (dv 0) (da_cons de_int da_nil))))
    (dss_cons (ds_set (i := 5) S.nd rfl (Or.inl rfl) (de_tup (da_cons (de_add de_int (de_call G__law_take (hr.mono (by decide)) rfl T.m__law_take T.k__law_take T.b__law_take (da_cons (dv 0) (da_cons de_int da_nil)))) (da_cons de_int (da_cons (de_add de_int (de_call G__law_take (hr.mono (by decide)) rfl T.m__law_take T.k__law_take T.b__law_take (da_cons (dv 0) (da_cons de_int da_nil)))) da_nil)))))
    (dss_cons (ds_set (i := 6) S.nd rfl (Or.inl rfl) (de_ix (de_lst (da_cons (de_ix (dv 2) de_int (fun _ _ => rfl)) (da_cons (de_call G__law_contrary (hr.mono (by decide)) rfl T.m__law_contrary T.k__law_contrary T.b__law_contrary (da_cons (dv 1) (da_cons (de_ix (dv 2) de_int (fun _ _ => rfl)) da_nil))) da_nil))) (de_mod (dv 4) de_int) (fun _ _ => rfl)))
    (dss_cons (ds_if (dt_cmp op_gt lo_B (dv 4) de_int (nomark _)) (dss_one (ds_set (i := 6) S.nd rfl (Or.inl rfl) (de_call G__law_above (hr.mono (by decide)) rfl T.m__law_above T.k__law_above T.b__law_above (da_cons (dv 0) (da_cons (dv 1) da_nil))))) (dss_one (ds_if (dt_cmp op_gt lo_B (dv 4) de_int (nomark _)) (dss_one (ds_set (i := 6) S.nd rfl (Or.inl rfl) (de_call G__law_times (hr.mono (by decide)) rfl T.m__law_times T.k__law_times T.b__law_times (da_cons (dv 1) (da_cons (dv 6) (da_cons (de_call G__law_low (hr.mono (by decide)) rfl T.m__law_low T.k__law_low T.b__law_low (da_cons (de_ix (dv 5) de_int (fun _ _ => rfl)) (da_cons (de_ix (dv 5) de_int (fun _ _ => rfl)) (da_cons (de_ix (dv 5) de_int (fun _ _ => rfl)) da_nil)))) da_nil)))))) dss_nil)))
    (dss_one (ds_expr (de_append (dv 2) (dv 6)))))))))
    (dss_one (ds_ret (de_tupOf rfl T.n_tuple (da_cons (dv 2) da_nil)))))), fun ds μ Qd h => rd__law_kinds h⟩)
theorem sc_must_be_kinds : FnScope ["d", "thing"] ["d", "thing"] (defScope s_must_be_kinds) := ⟨rfl, rfl, rfl, by decide +kernel, rfl, by decide +kernel, by decide +kernel⟩
theorem ok_must_be_kinds (T : Txt K mg t) (G_is_kinds : FnOk P w K mg base CX0 5 t.a_is_kinds t.d_is_kinds ["d", "thing"] (spD K spKindsQ)) : FnOk P w K mg base CX0 6 t.a_must_be_kinds t.d_must_be_kinds ["d", "thing"] (spD K spMustKinds) := by
  have S := sc_must_be_kinds
  exact T.f_must_be_kinds.okD S (fun ds μ Q h => len_spMustKinds h) (fun cdv A outer s H E hr => ⟨td_must_be_kinds, (dss_one (ds_if (dt_not (dt_val (de_call G_is_kinds (hr.mono (by decide)) rfl T.m_is_kinds T.k_is_kinds T.b_is_kinds (da_cons (dv 0) (da_cons (dv 1) da_nil))))) (dss_one ds_never) dss_nil)), fun ds μ Qd h => rd_must_be_kinds h⟩)
theorem sc__law_shape : FnScope ["_law_d", "_law_kinds_here", "_law_plan_here", "_law_shapes"] ["_law_d", "_law_kinds_here", "_law_plan_here"] (defScope s__law_shape) := ⟨rfl, rfl, rfl, by decide +kernel, rfl, by decide +kernel, by decide +kernel⟩
theorem ok__law_shape_0 : FnOk P w K mg base CX0 5 t.a__law_shape t.d__law_shape ["_law_d", "_law_kinds_here", "_law_plan_here"] (spD K (spShapeL 0)) :=
  ⟨fun vs H Q E h => by obtain ⟨ds, μ, Qd, _, r, z, _⟩ := h; exact (spShapeL0 z).elim, fun A outer s H args us vs Q E hr e0 hb hv h => by obtain ⟨ds, μ, Qd, _, r, z, _⟩ := h; exact (spShapeL0 z).elim⟩
theorem ok__law_shape_S (T : Txt K mg t) (n k : Nat) (hk : 5 ≤ k) (G__law_contrary : FnOk P w K mg base CX0 3 t.a__law_contrary t.d__law_contrary ["_law_d", "_law_x"] (spD K spContrary)) (G__law_times : FnOk P w K mg base CX0 3 t.a__law_times t.d__law_times ["_law_d", "_law_x", "_law_y"] (spD K spTimes)) (G__law_sum : FnOk P w K mg base CX0 4 t.a__law_sum t.d__law_sum ["_law_some"] (spD K spSum)) (G__law_low : FnOk P w K mg base CX0 2 t.a__law_low t.d__law_low ["_law_a", "_law_b", "_law_c"] (spD K spNumber)) (G__law_shape : FnOk P w K mg base CX0 k t.a__law_shape t.d__law_shape ["_law_d", "_law_kinds_here", "_law_plan_here"] (spD K (spShapeL n))) : FnOk P w K mg base CX0 (k + 1) t.a__law_shape t.d__law_shape ["_law_d", "_law_kinds_here", "_law_plan_here"] (spD K (spShapeL (n + 1))) := by
  have S := sc__law_shape
  exact T.f__law_shape.okD S (fun ds μ Q h => len_spShapeL h) (fun cdv A outer s H E hr => ⟨td__law_shape n, (dss_cons (ds_if (dt_cmp (op_eqD hr.units) lo_eqD (de_ix (dv 2) de_int (fun _ _ => rfl)) de_str (nomark _)) (dss_one (ds_ret (de_ix (dv 1) (de_ix (dv 2) de_int (fun _ _ => rfl)) (fun _ _ => rfl)))) dss_nil)
    (dss_cons (ds_if (dt_cmp (op_eqD hr.units) lo_eqD (de_ix (dv 2) de_int (fun _ _ => rfl)) de_str (nomark _)) (dss_one (ds_ret (de_call G__law_contrary (hr.mono (by omega)) rfl T.m__law_contrary T.k__law_contrary T.b__law_contrary (da_cons (dv 0) (da_cons (de_call G__law_shape (hr.mono (by omega)) rfl T.m__law_shape T.k__law_shape T.b__law_shape (da_cons (dv 0) (da_cons (dv 1) (da_cons (de_ix (dv 2) de_int (fun _ _ => rfl)) da_nil)))) da_nil))))) dss_nil)
    (dss_cons (ds_if (dt_cmp (op_eqD hr.units) lo_eqD (de_ix (dv 2) de_int (fun _ _ => rfl)) de_str (nomark _)) (dss_one (ds_ret (de_call G__law_times (hr.mono (by omega)) rfl T.m__law_times T.k__law_times T.b__law_times (da_cons (dv 0) (da_cons (de_call G__law_shape (hr.mono (by omega)) rfl T.m__law_shape T.k__law_shape T.b__law_shape (da_cons (dv 0) (da_cons (dv 1) (da_cons (de_ix (dv 2) de_int (fun _ _ => rfl)) da_nil)))) (da_cons (de_call G__law_low (hr.mono (by omega)) rfl T.m__law_low T.k__law_low T.b__law_low (da_cons (de_ix (dv 2) de_int (fun _ _ => rfl)) (da_cons de_int (da_cons (de_ix (dv 2) de_int (fun _ _ => rfl)) da_nil)))) da_nil)))))) dss_nil)
    (dss_cons (ds_setC (i := 3) (N' := ["_law_part", "_law_d", "_law_kinds_here"]) (cap := [none, some 0, some 1]) S.nd rfl rfl rfl (di_tup (de_ix (dv 2) de_int (fun _ _ => rfl))) (fun _ _ _ => (dg_name (i := 0) (show List.Nodup (["_law_part", "_law_d", "_law_kinds_here"] : List Str) by decide +kernel) rfl (Or.inl rfl))) (fun _ _ _ => difs_nil) (fun _ _ _ => (de_call G__law_shape (hr.mono (by omega)) rfl T.m__law_shape T.k__law_shape T.b__law_shape (da_cons (dv 1) (da_cons (dv 2) (da_cons (dv 0) da_nil))))) rfl (by decide +kernel) rfl (by decide +kernel) (by intro _ _ h; first | exact h | exact cl1 h | exact cl2 (by decide +kernel) h | exact cl3 (by decide +kernel) h | exact cl_of (cl_c rfl cl_n) _ _ h | exact cl_of (cl_c rfl (cl_c rfl cl_n)) _ _ h | exact cl_of (cl_c rfl (cl_c rfl (cl_c rfl cl_n))) _ _ h | cases h) (has_of rfl) rfl (cap_of ⟨cap1, ⟨cap1, trivial⟩⟩))
    (dss_cons (ds_if (dt_cmp (op_eqD hr.units) lo_eqD (de_ix (dv 2) de_int (fun _ _ => rfl)) de_str (nomark _)) (dss_one (ds_ret (de_call G__law_sum (hr.mono (by omega)) rfl T.m__law_sum T.k__law_sum T.b__law_sum (da_cons (dv 3) da_nil)))) dss_nil)
    (dss_one (ds_ret (de_call G__law_contrary (hr.mono (by omega)) rfl T.m__law_contrary T.k__law_contrary T.b__law_contrary (da_cons (dv 0) (da_cons (de_call G__law_sum (hr.mono (by omega)) rfl T.m__law_sum T.k__law_sum T.b__law_sum (da_cons (de_compI (N' := ["_law_shape_here", "_law_d"]) (cap := [none, some 0]) rfl (di_list (dv 3)) (fun _ _ _ => (dg_name (i := 0) (show List.Nodup (["_law_shape_here", "_law_d"] : List Str) by decide +kernel) rfl (Or.inl rfl))) (fun _ _ _ => difs_nil) (fun _ _ _ => (de_call G__law_contrary (hr.mono (by omega)) rfl T.m__law_contrary T.k__law_contrary T.b__law_contrary (da_cons (dv 1) (da_cons (dv 0) da_nil)))) rfl (by decide +kernel) rfl (by decide +kernel) (by intro _ _ h; first | exact h | exact cl1 h | exact cl2 (by decide +kernel) h | exact cl3 (by decide +kernel) h | exact cl_of (cl_c rfl cl_n) _ _ h | exact cl_of (cl_c rfl (cl_c rfl cl_n)) _ _ h | exact cl_of (cl_c rfl (cl_c rfl (cl_c rfl cl_n))) _ _ h | cases h) (has_of rfl) rfl (cap_of ⟨cap1, trivial⟩)) da_nil)) da_nil)))))))))), fun ds μ Qd h => rd__law_shape n h⟩)
theorem ok__law_shape (T : Txt K mg t) (G__law_contrary : FnOk P w K mg base CX0 3 t.a__law_contrary t.d__law_contrary ["_law_d", "_law_x"] (spD K spContrary)) (G__law_times : FnOk P w K mg base CX0 3 t.a__law_times t.d__law_times ["_law_d", "_law_x", "_law_y"] (spD K spTimes)) (G__law_sum : FnOk P w K mg base CX0 4 t.a__law_sum t.d__law_sum ["_law_some"] (spD K spSum)) (G__law_low : FnOk P w K mg base CX0 2 t.a__law_low t.d__law_low ["_law_a", "_law_b", "_law_c"] (spD K spNumber)) : FnOk P w K mg base CX0 18 t.a__law_shape t.d__law_shape ["_law_d", "_law_kinds_here", "_law_plan_here"] (spD K (spShapeL 13)) := (ok__law_shape_S T 12 17 (by decide) G__law_contrary G__law_times G__law_sum G__law_low (ok__law_shape_S T 11 16 (by decide) G__law_contrary G__law_times G__law_sum G__law_low (ok__law_shape_S T 10 15 (by decide) G__law_contrary G__law_times G__law_sum G__law_low (ok__law_shape_S T 9 14 (by decide) G__law_contrary G__law_times G__law_sum G__law_low (ok__law_shape_S T 8 13 (by decide) G__law_contrary G__law_times G__law_sum G__law_low (ok__law_shape_S T 7 12 (by decide) G__law_contrary G__law_times G__law_sum G__law_low (ok__law_shape_S T 6 11 (by decide) G__law_contrary G__law_times G__law_sum G__law_low (ok__law_shape_S T 5 10 (by decide) G__law_contrary G__law_times G__law_sum G__law_low (ok__law_shape_S T 4 9 (by decide) G__law_contrary G__law_times G__law_sum G__law_low (ok__law_shape_S T 3 8 (by decide) G__law_contrary G__law_times G__law_sum G__law_low (ok__law_shape_S T 2 7 (by decide) G__law_contrary G__law_times G__law_sum G__law_low (ok__law_shape_S T 1 6 (by decide) G__law_contrary G__law_times G__law_sum G__law_low (ok__law_shape_S T 0 5 (by decide) G__law_contrary G__law_times G__law_sum G__law_low ok__law_shape_0)))))))))))))
theorem sc_made_of : FnScope ["d", "shapes", "plan", "word", "inner"] ["d", "shapes", "plan"] (defScope s_made_of) := ⟨rfl, rfl, rfl, by decide +kernel, rfl, by decide +kernel, by decide +kernel⟩
theorem ok_made_of_0 : FnOk P w K mg base CX0 6 t.a_made_of t.d_made_of ["d", "shapes", "plan"] (spD K (spMade 0)) :=
  ⟨fun vs H Q E h => by obtain ⟨ds, μ, Qd, _, r, z, _⟩ := h; exact (spMade0 z).elim, fun A outer s H args us vs Q E hr e0 hb hv h => by obtain ⟨ds, μ, Qd, _, r, z, _⟩ := h; exact (spMade0 z).elim⟩
theorem ok_made_of_S (T : Txt K mg t) (n k : Nat) (hk : 6 ≤ k) (G_contrary : FnOk P w K mg base CX0 4 t.a_contrary t.d_contrary ["d", "x"] (spD K spContrary)) (G_times : FnOk P w K mg base CX0 4 t.a_times t.d_times ["d", "x", "y"] (spD K spTimes)) (G_sum_of : FnOk P w K mg base CX0 5 t.a_sum_of t.d_sum_of ["shapes"] (spD K spSum)) (G_parts_of : FnOk P w K mg base CX0 1 t.a_parts_of t.d_parts_of ["plan"] (spD K spParts)) (G_number : FnOk P w K mg base CX0 3 t.a_number t.d_number ["a", "b", "c"] (spD K spNumber)) (G_made_of : FnOk P w K mg base CX0 k t.a_made_of t.d_made_of ["d", "shapes", "plan"] (spD K (spMade n))) : FnOk P w K mg base CX0 (k + 1) t.a_made_of t.d_made_of ["d", "shapes", "plan"] (spD K (spMade (n + 1))) := by
  have S := sc_made_of
  exact T.f_made_of.okD S (fun ds μ Q h => len_spMade h) (fun cdv A outer s H E hr => ⟨td_made_of n, (dss_cons (ds_set (i := 3) S.nd rfl (Or.inl rfl) (de_ix (dv 2) de_int (fun _ _ => rfl)))
    (dss_cons (ds_if (dt_cmp (op_eqD hr.units) lo_eqD (dv 3) de_str (nomark _)) (dss_one (ds_ret (de_ix (dv 1) (de_ix (dv 2) de_int (fun _ _ => rfl)) (fun _ _ => rfl)))) dss_nil)
    (dss_cons (ds_setC (i := 4) (N' := ["part", "d", "shapes"]) (cap := [none, some 0, some 1]) S.nd rfl rfl rfl (di_list (de_call G_parts_of (hr.mono (by omega)) rfl T.m_parts_of T.k_parts_of T.b_parts_of (da_cons (dv 2) da_nil))) (fun _ _ _ => (dg_name (i := 0) (show List.Nodup (["part", "d", "shapes"] : List Str) by decide +kernel) rfl (Or.inl rfl))) (fun _ _ _ => difs_nil) (fun _ _ _ => (de_call G_made_of (hr.mono (by omega)) rfl T.m_made_of T.k_made_of T.b_made_of (da_cons (dv 1) (da_cons (dv 2) (da_cons (dv 0) da_nil))))) rfl (by decide +kernel) rfl (by decide +kernel) (by intro _ _ h; first | exact h | exact cl1 h | exact cl2 (by decide +kernel) h | exact cl3 (by decide +kernel) h | exact cl_of (cl_c rfl cl_n) _ _ h | exact cl_of (cl_c rfl (cl_c rfl cl_n)) _ _ h | exact cl_of (cl_c rfl (cl_c rfl (cl_c rfl cl_n))) _ _ h | cases h) (has_of rfl) rfl (cap_of ⟨cap1, ⟨cap1, trivial⟩⟩))
    (dss_cons (ds_if (dt_cmp (op_eqD hr.units) lo_eqD (dv 3) de_str (nomark _)) (dss_one (ds_ret (de_call G_contrary (hr.mono (by omega)) rfl T.m_contrary T.k_contrary T.b_contrary (da_cons (dv 0) (da_cons (de_ix (dv 4) de_int (fun _ _ => rfl)) da_nil))))) dss_nil)
    (dss_cons (ds_if (dt_cmp (op_eqD hr.units) lo_eqD (dv 3) de_str (nomark _)) (dss_one (ds_ret (de_call G_times (hr.mono (by omega)) rfl T.m_times T.k_times T.b_times (da_cons (dv 0) (da_cons (de_ix (dv 4) de_int (fun _ _ => rfl)) (da_cons (de_call G_number (hr.mono (by omega)) rfl T.m_number T.k_number T.b_number (da_cons (de_ix (dv 2) de_int (fun _ _ => rfl)) (da_cons de_int (da_cons (de_ix (dv 2) de_int (fun _ _ => rfl)) da_nil)))) da_nil)))))) dss_nil)
    (dss_cons (ds_if (dt_cmp (op_eqD hr.units) lo_eqD (dv 3) de_str (nomark _)) (dss_one (ds_ret (de_call G_sum_of (hr.mono (by omega)) rfl T.m_sum_of T.k_sum_of T.b_sum_of (da_cons (dv 4) da_nil)))) dss_nil)
    (dss_one (ds_ret (de_call G_contrary (hr.mono (by omega)) rfl T.m_contrary T.k_contrary T.b_contrary (da_cons (dv 0) (da_cons (de_call G_sum_of (hr.mono (by omega)) rfl T.m_sum_of T.k_sum_of T.b_sum_of (da_cons (de_compI (N' := ["shape", "d"]) (cap := [none, some 0]) rfl (di_list (dv 4)) (fun _ _ _ => (dg_name (i := 0) (show List.Nodup (["shape", "d"] : List Str) by decide +kernel) rfl (Or.inl rfl))) (fun _ _ _ => difs_nil) (fun _ _ _ => (de_call G_contrary (hr.mono (by omega)) rfl T.m_contrary T.k_contrary T.b_contrary (da_cons (dv 1) (da_cons (dv 0) da_nil)))) rfl (by decide +kernel) rfl (by decide +kernel) (by intro _ _ h; first | exact h | exact cl1 h | exact cl2 (by decide +kernel) h | exact cl3 (by decide +kernel) h | exact cl_of (cl_c rfl cl_n) _ _ h | exact cl_of (cl_c rfl (cl_c rfl cl_n)) _ _ h | exact cl_of (cl_c rfl (cl_c rfl (cl_c rfl cl_n))) _ _ h | cases h) (has_of rfl) rfl (cap_of ⟨cap1, trivial⟩)) da_nil)) da_nil))))))))))), fun ds μ Qd h => rd_made_of n h⟩)
theorem ok_made_of (T : Txt K mg t) (G_contrary : FnOk P w K mg base CX0 4 t.a_contrary t.d_contrary ["d", "x"] (spD K spContrary)) (G_times : FnOk P w K mg base CX0 4 t.a_times t.d_times ["d", "x", "y"] (spD K spTimes)) (G_sum_of : FnOk P w K mg base CX0 5 t.a_sum_of t.d_sum_of ["shapes"] (spD K spSum)) (G_parts_of : FnOk P w K mg base CX0 1 t.a_parts_of t.d_parts_of ["plan"] (spD K spParts)) (G_number : FnOk P w K mg base CX0 3 t.a_number t.d_number ["a", "b", "c"] (spD K spNumber)) : FnOk P w K mg base CX0 19 t.a_made_of t.d_made_of ["d", "shapes", "plan"] (spD K (spMade 13)) := (ok_made_of_S T 12 18 (by decide) G_contrary G_times G_sum_of G_parts_of G_number (ok_made_of_S T 11 17 (by decide) G_contrary G_times G_sum_of G_parts_of G_number (ok_made_of_S T 10 16 (by decide) G_contrary G_times G_sum_of G_parts_of G_number (ok_made_of_S T 9 15 (by decide) G_contrary G_times G_sum_of G_parts_of G_number (ok_made_of_S T 8 14 (by decide) G_contrary G_times G_sum_of G_parts_of G_number (ok_made_of_S T 7 13 (by decide) G_contrary G_times G_sum_of G_parts_of G_number (ok_made_of_S T 6 12 (by decide) G_contrary G_times G_sum_of G_parts_of G_number (ok_made_of_S T 5 11 (by decide) G_contrary G_times G_sum_of G_parts_of G_number (ok_made_of_S T 4 10 (by decide) G_contrary G_times G_sum_of G_parts_of G_number (ok_made_of_S T 3 9 (by decide) G_contrary G_times G_sum_of G_parts_of G_number (ok_made_of_S T 2 8 (by decide) G_contrary G_times G_sum_of G_parts_of G_number (ok_made_of_S T 1 7 (by decide) G_contrary G_times G_sum_of G_parts_of G_number (ok_made_of_S T 0 6 (by decide) G_contrary G_times G_sum_of G_parts_of G_number ok_made_of_0)))))))))))))
theorem sc_shape_of : FnScope ["d", "kinds", "plan"] ["d", "kinds", "plan"] (defScope s_shape_of) := ⟨rfl, rfl, rfl, by decide +kernel, rfl, by decide +kernel, by decide +kernel⟩
theorem ok_shape_of (T : Txt K mg t) (G_must_be_kinds : FnOk P w K mg base CX0 6 t.a_must_be_kinds t.d_must_be_kinds ["d", "thing"] (spD K spMustKinds)) (G_must_be_plan : FnOk P w K mg base CX0 5 t.a_must_be_plan t.d_must_be_plan ["thing", "many"] (spD K spMustPlan)) (G_made_of : FnOk P w K mg base CX0 19 t.a_made_of t.d_made_of ["d", "shapes", "plan"] (spD K (spMade 13))) : FnOk P w K mg base CX0 20 t.a_shape_of t.d_shape_of ["d", "kinds", "plan"] (spD K spShapeOf) := by
  have S := sc_shape_of
  exact T.f_shape_of.okD S (fun ds μ Q h => len_spShapeOf h) (fun cdv A outer s H E hr => ⟨td_shape_of, (dss_cons (ds_expr (de_call G_must_be_kinds (hr.mono (by decide)) rfl T.m_must_be_kinds T.k_must_be_kinds T.b_must_be_kinds (da_cons (dv 0) (da_cons (dv 1) da_nil))))
    (dss_cons (ds_expr (de_call G_must_be_plan (hr.mono (by decide)) rfl T.m_must_be_plan T.k_must_be_plan T.b_must_be_plan (da_cons (dv 2) (da_cons (de_len rfl T.n_len (da_cons (dv 1) da_nil)) da_nil))))
    (dss_one (ds_ret (de_call G_made_of (hr.mono (by decide)) rfl T.m_made_of T.k_made_of T.b_made_of (da_cons (dv 0) (da_cons (dv 1) (da_cons (dv 2) da_nil)))))))), fun ds μ Qd h => rd_shape_of h⟩)
theorem sc_mate_shape : FnScope ["d", "kinds", "plan"] ["d", "kinds", "plan"] (defScope s_mate_shape) := ⟨rfl, rfl, rfl, by decide +kernel, rfl, by decide +kernel, by decide +kernel⟩
theorem ok_mate_shape (T : Txt K mg t) (G_must_be_kinds : FnOk P w K mg base CX0 6 t.a_must_be_kinds t.d_must_be_kinds ["d", "thing"] (spD K spMustKinds)) (G_must_be_plan : FnOk P w K mg base CX0 5 t.a_must_be_plan t.d_must_be_plan ["thing", "many"] (spD K spMustPlan)) (G_made_of : FnOk P w K mg base CX0 19 t.a_made_of t.d_made_of ["d", "shapes", "plan"] (spD K (spMade 13))) (G_mate : FnOk P w K mg base CX0 1 t.a_mate t.d_mate ["x"] (spD K spMate)) : FnOk P w K mg base CX0 20 t.a_mate_shape t.d_mate_shape ["d", "kinds", "plan"] (spD K spMateShape) := by
  have S := sc_mate_shape
  exact T.f_mate_shape.okD S (fun ds μ Q h => len_spMateShape h) (fun cdv A outer s H E hr => ⟨td_mate_shape, (dss_cons (ds_expr (de_call G_must_be_kinds (hr.mono (by decide)) rfl T.m_must_be_kinds T.k_must_be_kinds T.b_must_be_kinds (da_cons (dv 0) (da_cons (dv 1) da_nil))))
    (dss_cons (ds_expr (de_call G_must_be_plan (hr.mono (by decide)) rfl T.m_must_be_plan T.k_must_be_plan T.b_must_be_plan (da_cons (dv 2) (da_cons (de_len rfl T.n_len (da_cons (dv 1) da_nil)) da_nil))))
    (dss_one (ds_ret (de_call G_made_of (hr.mono (by decide)) rfl T.m_made_of T.k_made_of T.b_made_of (da_cons (dv 0) (da_cons (de_comp (N' := ["kind"]) (cap := [none]) rfl (di_tup (dv 1)) (fun _ _ _ => (dg_name (i := 0) (show List.Nodup (["kind"] : List Str) by decide +kernel) rfl (Or.inl rfl))) (fun _ _ _ => difs_nil) (fun _ _ _ => (de_call G_mate (hr.mono (by decide)) rfl T.m_mate T.k_mate T.b_mate (da_cons (dv 0) da_nil))) rfl (by decide +kernel) rfl (by decide +kernel) (by intro _ _ h; first | exact h | exact cl1 h | exact cl2 (by decide +kernel) h | exact cl3 (by decide +kernel) h | exact cl_of (cl_c rfl cl_n) _ _ h | exact cl_of (cl_c rfl (cl_c rfl cl_n)) _ _ h | exact cl_of (cl_c rfl (cl_c rfl (cl_c rfl cl_n))) _ _ h | cases h) (has_of rfl) rfl (cap_of trivial)) (da_cons (dv 2) da_nil)))))))), fun ds μ Qd h => rd_mate_shape h⟩)
theorem sc__law_plans_in : FnScope ["_law_thing", "_law_many", "_law_deep", "_law_word", "_law_size", "_law_parts", "_law_counts"] ["_law_thing", "_law_many", "_law_deep"] (defScope s__law_plans_in) := ⟨rfl, rfl, rfl, by decide +kernel, rfl, by decide +kernel, by decide +kernel⟩
theorem ok__law_plans_in_0 : FnOk P w K mg base CX0 2 t.a__law_plans_in t.d__law_plans_in ["_law_thing", "_law_many", "_law_deep"] (spD K (spPlansIn 0)) :=
  ⟨fun vs H Q E h => by obtain ⟨ds, μ, Qd, _, r, z, _⟩ := h; exact (spPlansIn0 z).elim, fun A outer s H args us vs Q E hr e0 hb hv h => by obtain ⟨ds, μ, Qd, _, r, z, _⟩ := h; exact (spPlansIn0 z).elim⟩
theorem ok__law_plans_in_S (T : Txt K mg t) (n k : Nat) (hk : 2 ≤ k) (G__law_is_whole : FnOk P w K mg base CX0 1 t.a__law_is_whole t.d__law_is_whole ["_law_thing"] (spD K spWhole)) (G__law_plans_in : FnOk P w K mg base CX0 k t.a__law_plans_in t.d__law_plans_in ["_law_thing", "_law_many", "_law_deep"] (spD K (spPlansIn n))) : FnOk P w K mg base CX0 (k + 1) t.a__law_plans_in t.d__law_plans_in ["_law_thing", "_law_many", "_law_deep"] (spD K (spPlansIn (n + 1))) := by
  have S := sc__law_plans_in
  exact T.f__law_plans_in.okD S (fun ds μ Q h => len_spPlansIn h) (fun cdv A outer s H E hr => ⟨td__law_plans_in n, (dss_cons (ds_if (DW.dt (dw_or (dt_cmp (op_eqD hr.units) lo_eqD (dv 2) de_int (nomark _)) (dw_or (dt_not (dt_val (de_isi (kit_tuple _) rfl T.n_isinstance rfl T.n_tuple PyProof.Rows.Boot.«tuple» (dv 0)))) (dw_or1 (dt_cmp op_lt lo_B (de_len rfl T.n_len (da_cons (dv 0) da_nil)) de_int (nomark _)))))) (dss_one (ds_ret de_int)) dss_nil)
    (dss_cons (ds_par (i := 3) (j := 4) rfl S.nd rfl rfl (by decide) rfl rfl (da_cons (de_ix (dv 0) de_int (fun _ _ => rfl)) (da_cons (de_len rfl T.n_len (da_cons (dv 0) da_nil)) da_nil)) rfl)
    (dss_cons (ds_if (dt_cmp (op_eqD hr.units) lo_eqD (dv 3) de_str (nomark _)) (dss_one (ds_ret (de_intOf rfl T.n_int (da_cons (de_and (de_cmp (op_eqD hr.units) lo_eqD (dv 4) de_int (nomark _)) (de_and (de_call G__law_is_whole (hr.mono (by omega)) rfl T.m__law_is_whole T.k__law_is_whole T.b__law_is_whole (da_cons (de_ix (dv 0) de_int (fun _ _ => rfl)) da_nil)) (de_one (de_chain op_le lo_B op_lt lo_B de_int (de_ix (dv 0) de_int (fun _ _ => rfl)) (dv 1))))) da_nil)))) dss_nil)
    (dss_cons (ds_set (i := 5) S.nd rfl (Or.inl rfl) (de_lst da_nil))
    (dss_cons (ds_if (DW.dt (dw_and (dt_cmp (op_eqD hr.units) lo_eqD (dv 3) de_str (nomark _)) (dw_and1 (dt_cmp (op_eqD hr.units) lo_eqD (dv 4) de_int (nomark _))))) (dss_one (ds_set (i := 5) S.nd rfl (Or.inl rfl) (de_lst (da_cons (de_ix (dv 0) de_int (fun _ _ => rfl)) da_nil)))) (dss_one (ds_if (DW.dt (dw_and (dt_cmp (op_inD hr.units) lo_inD (dv 3) (de_lst (da_cons de_str (da_cons de_str da_nil))) (by with_unfolding_all rfl)) (dw_and (dt_cmp (op_eqD hr.units) lo_eqD (dv 4) de_int (nomark _)) (dw_and1 (dt_val (de_isi (kit_tuple _) rfl T.n_isinstance rfl T.n_tuple PyProof.Rows.Boot.«tuple» (de_ix (dv 0) de_int (fun _ _ => rfl)))))))) (dss_one (ds_set (i := 5) S.nd rfl (Or.inl rfl) (de_if (dt_chain op_le lo_B op_le lo_B de_int (de_len rfl T.n_len (da_cons (de_ix (dv 0) de_int (fun _ _ => rfl)) da_nil)) de_int) (de_list rfl T.n_list (da_cons (de_ix (dv 0) de_int (fun _ _ => rfl)) da_nil)) (de_lst da_nil)))) (dss_one (ds_if (DW.dt (dw_and (dt_cmp (op_eqD hr.units) lo_eqD (dv 3) de_str (nomark _)) (dw_and (dt_cmp (op_eqD hr.units) lo_eqD (dv 4) de_int (nomark _)) (dw_and1 (dt_val (de_all rfl rfl T.n_all (da_cons (de_comp (N' := ["_law_one"]) (cap := [none]) rfl (di_tup (de_slice (dv 0) (do_some de_int) (do_some de_int))) (fun _ _ _ => (dg_name (i := 0) (show List.Nodup (["_law_one"] : List Str) by decide +kernel) rfl (Or.inl rfl))) (fun _ _ _ => difs_nil) (fun _ _ _ => (de_and (de_call G__law_is_whole (hr.mono (by omega)) rfl T.m__law_is_whole T.k__law_is_whole T.b__law_is_whole (da_cons (dv 0) da_nil)) (de_one (de_cmp op_gt lo_B (dv 0) de_int (nomark _))))) rfl (by decide +kernel) rfl (by decide +kernel) (by intro _ _ h; first | exact h | exact cl1 h | exact cl2 (by decide +kernel) h | exact cl3 (by decide +kernel) h | exact cl_of (cl_c rfl cl_n) _ _ h | exact cl_of (cl_c rfl (cl_c rfl cl_n)) _ _ h | exact cl_of (cl_c rfl (cl_c rfl (cl_c rfl cl_n))) _ _ h | cases h) (has_of rfl) rfl (cap_of trivial)) da_nil))))))) (dss_one (ds_set (i := 5) S.nd rfl (Or.inl rfl) (de_lst (da_cons (de_ix (dv 0) de_int (fun _ _ => rfl)) da_nil)))) dss_nil)))))
    (dss_cons (ds_setC (i := 6) (N' := ["_law_part", "_law_many", "_law_deep"]) (cap := [none, some 1, some 2]) S.nd rfl rfl rfl (di_list (dv 5)) (fun _ _ _ => (dg_name (i := 0) (show List.Nodup (["_law_part", "_law_many", "_law_deep"] : List Str) by decide +kernel) rfl (Or.inl rfl))) (fun _ _ _ => difs_nil) (fun _ _ _ => (de_call G__law_plans_in (hr.mono (by omega)) rfl T.m__law_plans_in T.k__law_plans_in T.b__law_plans_in (da_cons (dv 0) (da_cons (dv 1) (da_cons (de_sub (dv 2) de_int) da_nil))))) rfl (by decide +kernel) rfl (by decide +kernel) (by intro _ _ h; first | exact h | exact cl1 h | exact cl2 (by decide +kernel) h | exact cl3 (by decide +kernel) h | exact cl_of (cl_c rfl cl_n) _ _ h | exact cl_of (cl_c rfl (cl_c rfl cl_n)) _ _ h | exact cl_of (cl_c rfl (cl_c rfl (cl_c rfl cl_n))) _ _ h | cases h) (has_of rfl) rfl (cap_of ⟨cap1, ⟨cap1, trivial⟩⟩))
    (dss_cons (ds_if (DW.dt (dw_or (dt_cmp (op_eqD hr.units) lo_eqD (dv 6) (de_lst da_nil) (nomark _)) (dw_or1 (dt_cmp (op_eqD hr.units) lo_eqD (de_minL rfl rfl T.n_min (da_cons (dv 6) da_nil)) de_int (nomark _))))) (dss_one (ds_ret de_int)) dss_nil)
    (dss_one (ds_ret (de_add de_int (de_sum rfl rfl T.n_sum (da_cons (dv 6) da_nil)))))))))))), fun ds μ Qd h => rd__law_plans_in n h⟩)
theorem ok__law_plans_in (T : Txt K mg t) (G__law_is_whole : FnOk P w K mg base CX0 1 t.a__law_is_whole t.d__law_is_whole ["_law_thing"] (spD K spWhole)) : FnOk P w K mg base CX0 33 t.a__law_plans_in t.d__law_plans_in ["_law_thing", "_law_many", "_law_deep"] (spD K (spPlansIn 31)) := (ok__law_plans_in_S T 30 32 (by decide) G__law_is_whole (ok__law_plans_in_S T 29 31 (by decide) G__law_is_whole (ok__law_plans_in_S T 28 30 (by decide) G__law_is_whole (ok__law_plans_in_S T 27 29 (by decide) G__law_is_whole (ok__law_plans_in_S T 26 28 (by decide) G__law_is_whole (ok__law_plans_in_S T 25 27 (by decide) G__law_is_whole (ok__law_plans_in_S T 24 26 (by decide) G__law_is_whole (ok__law_plans_in_S T 23 25 (by decide) G__law_is_whole (ok__law_plans_in_S T 22 24 (by decide) G__law_is_whole (ok__law_plans_in_S T 21 23 (by decide) G__law_is_whole (ok__law_plans_in_S T 20 22 (by decide) G__law_is_whole (ok__law_plans_in_S T 19 21 (by decide) G__law_is_whole (ok__law_plans_in_S T 18 20 (by decide) G__law_is_whole (ok__law_plans_in_S T 17 19 (by decide) G__law_is_whole (ok__law_plans_in_S T 16 18 (by decide) G__law_is_whole (ok__law_plans_in_S T 15 17 (by decide) G__law_is_whole (ok__law_plans_in_S T 14 16 (by decide) G__law_is_whole (ok__law_plans_in_S T 13 15 (by decide) G__law_is_whole (ok__law_plans_in_S T 12 14 (by decide) G__law_is_whole (ok__law_plans_in_S T 11 13 (by decide) G__law_is_whole (ok__law_plans_in_S T 10 12 (by decide) G__law_is_whole (ok__law_plans_in_S T 9 11 (by decide) G__law_is_whole (ok__law_plans_in_S T 8 10 (by decide) G__law_is_whole (ok__law_plans_in_S T 7 9 (by decide) G__law_is_whole (ok__law_plans_in_S T 6 8 (by decide) G__law_is_whole (ok__law_plans_in_S T 5 7 (by decide) G__law_is_whole (ok__law_plans_in_S T 4 6 (by decide) G__law_is_whole (ok__law_plans_in_S T 3 5 (by decide) G__law_is_whole (ok__law_plans_in_S T 2 4 (by decide) G__law_is_whole (ok__law_plans_in_S T 1 3 (by decide) G__law_is_whole (ok__law_plans_in_S T 0 2 (by decide) G__law_is_whole ok__law_plans_in_0)))))))))))))))))))))))))))))))
theorem sc__law_is_a_plan : FnScope ["_law_thing", "_law_many"] ["_law_thing", "_law_many"] (defScope s__law_is_a_plan) := ⟨rfl, rfl, rfl, by decide +kernel, rfl, by decide +kernel, by decide +kernel⟩
theorem ok__law_is_a_plan (T : Txt K mg t) (G__law_plans_in : FnOk P w K mg base CX0 33 t.a__law_plans_in t.d__law_plans_in ["_law_thing", "_law_many", "_law_deep"] (spD K (spPlansIn 31))) : FnOk P w K mg base CX0 34 t.a__law_is_a_plan t.d__law_is_a_plan ["_law_thing", "_law_many"] (spD K spIsAPlan) := by
  have S := sc__law_is_a_plan
  exact T.f__law_is_a_plan.okD S (fun ds μ Q h => len_spIsAPlan h) (fun cdv A outer s H E hr => ⟨td__law_is_a_plan, (dss_one (ds_ret (de_chain op_lt lo_B op_le lo_B de_int (de_call G__law_plans_in (hr.mono (by decide)) rfl T.m__law_plans_in T.k__law_plans_in T.b__law_plans_in (da_cons (dv 0) (da_cons (dv 1) (da_cons de_int da_nil)))) de_int))), fun ds μ Qd h => rd__law_is_a_plan h⟩)
theorem sc__law_few_figures : FnScope ["_law_bag_here", "_law_d", "_law_kinds_here", "_law_plan_here", "_law_found", "_law_kind", "_law_x"] ["_law_bag_here", "_law_d", "_law_kinds_here", "_law_plan_here"] (defScope s__law_few_figures) := ⟨rfl, rfl, rfl, by decide +kernel, rfl, by decide +kernel, by decide +kernel⟩
theorem ok__law_few_figures (T : Txt K mg t) (G__law_plans_in : FnOk P w K mg base CX0 33 t.a__law_plans_in t.d__law_plans_in ["_law_thing", "_law_many", "_law_deep"] (spD K (spPlansIn 31))) (G__law_low : FnOk P w K mg base CX0 2 t.a__law_low t.d__law_low ["_law_a", "_law_b", "_law_c"] (spD K spNumber)) (G__law_take : FnOk P w K mg base CX0 1 t.a__law_take t.d__law_take ["_law_bag_here", "_law_many"] (spD K spTake)) (G__law_sign : FnOk P w K mg base CX0 1 t.a__law_sign t.d__law_sign ["_law_d", "_law_x"] (spD K spSign)) (G__law_minus : FnOk P w K mg base CX0 1 t.a__law_minus t.d__law_minus ["_law_x"] (spD K spMinus)) : FnOk P w K mg base CX0 34 t.a__law_few_figures t.d__law_few_figures ["_law_bag_here", "_law_d", "_law_kinds_here", "_law_plan_here"] (spD K spFew) := by
  have S := sc__law_few_figures
  exact T.f__law_few_figures.okD S (fun ds μ Q h => len_spFew h) (fun cdv A outer s H E hr => ⟨td__law_few_figures, (dss_cons (ds_if (dt_cmp op_le lo_B (de_call G__law_plans_in (hr.mono (by decide)) rfl T.m__law_plans_in T.k__law_plans_in T.b__law_plans_in (da_cons (dv 3) (da_cons (de_len rfl T.n_len (da_cons (dv 2) da_nil)) (da_cons de_int da_nil)))) de_int (nomark _)) (dss_one (ds_ret (dv 2))) dss_nil)
    (dss_cons (ds_set (i := 4) S.nd rfl (Or.inl rfl) (de_lstM da_nil))
    (dss_cons (ds_for PassesOwn.never rfl (di_tup (dv 2)) (dg_name (i := 5) S.nd rfl (Or.inl rfl)) (dss_cons (ds_set (i := 6) S.nd rfl (Or.inl rfl) (de_call G__law_low (hr.mono (by decide)) rfl T.m__law_low T.k__law_low T.b__law_low (da_cons (de_sub (de_call G__law_take (hr.mono (by decide)) rfl T.m__law_take T.k__law_take T.b__law_take (da_cons (dv 0) (da_cons de_int da_nil))) de_int) (da_cons (de_sub (de_call G__law_take (hr.mono (by decide)) rfl T.m__law_take T.k__law_take T.b__law_take (da_cons (dv 0) (da_cons de_int da_nil))) de_int) (da_cons (de_add de_int (de_call G__law_take (hr.mono (by decide)) rfl T.m__law_take T.k__law_take T.b__law_take (da_cons (dv 0) (da_cons de_int da_nil)))) da_nil)))))
    (dss_one (ds_expr (de_append (dv 4) (de_ix (de_lst (da_cons (de_tup (da_cons de_int (da_cons de_int (da_cons de_int da_nil)))) (da_cons (dv 6) (da_cons (de_call G__law_minus (hr.mono (by decide)) rfl T.m__law_minus T.k__law_minus T.b__law_minus (da_cons (dv 6) da_nil)) da_nil)))) (de_call G__law_sign (hr.mono (by decide)) rfl T.m__law_sign T.k__law_sign T.b__law_sign (da_cons (dv 1) (da_cons (dv 6) da_nil))) (fun _ _ => rfl)))))))
    (dss_one (ds_ret (de_tupOf rfl T.n_tuple (da_cons (dv 4) da_nil))))))), fun ds μ Qd h => rd__law_few_figures h⟩)
theorem sc_law : FnScope ["_law_script", "_law_ahead", "_law_k", "_law_bag_here", "_law_d", "_law_kinds_here", "_law_plan_here", "_law_due", "_law_told", "_law_mated", "_law_about"] ["_law_script"] (defScope s_law) := ⟨rfl, rfl, rfl, by decide +kernel, rfl, by decide +kernel, by decide +kernel⟩
theorem ok_law (T : Txt K mg t) (G__law_bag : FnOk P w K mg base CX0 1 t.a__law_bag t.d__law_bag ["_law_script", "_law_at"] (spD K spBag)) (G__law_root : FnOk P w K mg base CX0 2 t.a__law_root t.d__law_root ["_law_bag_here"] (spD K spRootL)) (G__law_kinds : FnOk P w K mg base CX0 5 t.a__law_kinds t.d__law_kinds ["_law_bag_here", "_law_d"] (spD K spKindsL)) (G__law_plan : FnOk P w K mg base CX0 3 t.a__law_plan t.d__law_plan ["_law_bag_here", "_law_many"] (spD K spPlanG)) (G__law_few_figures : FnOk P w K mg base CX0 34 t.a__law_few_figures t.d__law_few_figures ["_law_bag_here", "_law_d", "_law_kinds_here", "_law_plan_here"] (spD K spFew)) (G__law_shape : FnOk P w K mg base CX0 18 t.a__law_shape t.d__law_shape ["_law_d", "_law_kinds_here", "_law_plan_here"] (spD K (spShapeL 13))) (G_shape_of : FnOk P w K mg base CX0 20 t.a_shape_of t.d_shape_of ["d", "kinds", "plan"] (spD K spShapeOf)) (G_mate_shape : FnOk P w K mg base CX0 20 t.a_mate_shape t.d_mate_shape ["d", "kinds", "plan"] (spD K spMateShape)) (G__law_is_a_plan : FnOk P w K mg base CX0 34 t.a__law_is_a_plan t.d__law_is_a_plan ["_law_thing", "_law_many"] (spD K spIsAPlan)) (G__law_is_number : FnOk P w K mg base CX0 2 t.a__law_is_number t.d__law_is_number ["_law_thing"] (spD K spNumQ)) (G__law_mate : FnOk P w K mg base CX0 1 t.a__law_mate t.d__law_mate ["_law_x"] (spD K spMate)) (G__law_contrary : FnOk P w K mg base CX0 3 t.a__law_contrary t.d__law_contrary ["_law_d", "_law_x"] (spD K spContrary)) : FnOk P w K mg base CX0 35 t.a_law t.d_law ["_law_script"] (spD K spLaw) := by
  have S := sc_law
  exact T.f_law.okD S (fun ds μ Q h => len_spLaw h) (fun cdv A outer s H E hr => ⟨td_law, (dss_cons (ds_set (i := 1) S.nd rfl (Or.inl rfl) (de_lstM da_nil))
    (dss_cons (ds_for PassesOwn.never rfl (di_rng1 rfl T.n_range (da_cons (de_max rfl rfl T.n_max (da_cons de_int (da_cons (de_min rfl rfl T.n_min (da_cons de_int (da_cons (de_len rfl T.n_len (da_cons (dv 0) da_nil)) da_nil))) da_nil))) da_nil)) (dg_name (i := 2) S.nd rfl (Or.inl rfl)) (dss_cons (ds_set (i := 3) S.nd rfl (Or.inl rfl) (de_call G__law_bag (hr.mono (by decide)) rfl T.m__law_bag T.k__law_bag T.b__law_bag (da_cons (dv 0) (da_cons (dv 2) da_nil))))
    (dss_cons (ds_set (i := 4) S.nd rfl (Or.inl rfl) (de_call G__law_root (hr.mono (by decide)) rfl T.m__law_root T.k__law_root T.b__law_root (da_cons (dv 3) da_nil)))
    (dss_cons (ds_set (i := 5) S.nd rfl (Or.inl rfl) (de_call G__law_kinds (hr.mono (by decide)) rfl T.m__law_kinds T.k__law_kinds T.b__law_kinds (da_cons (dv 3) (da_cons (dv 4) da_nil))))
    (dss_cons (ds_set (i := 6) S.nd rfl (Or.inl rfl) (de_call G__law_plan (hr.mono (by decide)) rfl T.m__law_plan T.k__law_plan T.b__law_plan (da_cons (dv 3) (da_cons (de_len rfl T.n_len (da_cons (dv 5) da_nil)) da_nil))))
    (dss_cons (ds_set (i := 5) S.nd rfl (Or.inl rfl) (de_call G__law_few_figures (hr.mono (by decide)) rfl T.m__law_few_figures T.k__law_few_figures T.b__law_few_figures (da_cons (dv 3) (da_cons (dv 4) (da_cons (dv 5) (da_cons (dv 6) da_nil))))))
    (dss_cons (ds_set (i := 7) S.nd rfl (Or.inl rfl) (de_call G__law_shape (hr.mono (by decide)) rfl T.m__law_shape T.k__law_shape T.b__law_shape (da_cons (dv 4) (da_cons (dv 5) (da_cons (dv 6) da_nil)))))
    (dss_cons (ds_set (i := 8) S.nd rfl (Or.inl rfl) (de_call G_shape_of (hr.mono (by decide)) rfl T.m_shape_of T.k_shape_of T.b_shape_of (da_cons (dv 4) (da_cons (dv 5) (da_cons (dv 6) da_nil)))))
    (dss_cons (ds_if (DW.dt (dw_or (dt_not (dt_val (de_call G__law_is_number (hr.mono (by decide)) rfl T.m__law_is_number T.k__law_is_number T.b__law_is_number (da_cons (dv 8) da_nil)))) (dw_or1 (dt_cmp (op_neD hr.units) lo_eqD (dv 8) (dv 7) (nomark _))))) (dss_one (ds_ret de_bl)) dss_nil)
    (dss_cons (ds_set (i := 9) S.nd rfl (Or.inl rfl) (de_call G_mate_shape (hr.mono (by decide)) rfl T.m_mate_shape T.k_mate_shape T.b_mate_shape (da_cons (dv 4) (da_cons (dv 5) (da_cons (dv 6) da_nil)))))
    (dss_cons (ds_if (DW.dt (dw_or (dt_not (dt_val (de_call G__law_is_number (hr.mono (by decide)) rfl T.m__law_is_number T.k__law_is_number T.b__law_is_number (da_cons (dv 9) da_nil)))) (dw_or1 (dt_cmp (op_neD hr.units) lo_eqD (dv 9) (de_call G__law_mate (hr.mono (by decide)) rfl T.m__law_mate T.k__law_mate T.b__law_mate (da_cons (dv 7) da_nil)) (nomark _))))) (dss_one (ds_ret de_bl)) dss_nil)
    (dss_cons (ds_set (i := 10) S.nd rfl (Or.inl rfl) (de_tup (da_cons de_str (da_cons (dv 6) da_nil))))
    (dss_cons (ds_if (DW.dt (dw_and (dt_val (de_call G__law_is_a_plan (hr.mono (by decide)) rfl T.m__law_is_a_plan T.k__law_is_a_plan T.b__law_is_a_plan (da_cons (dv 10) (da_cons (de_len rfl T.n_len (da_cons (dv 5) da_nil)) da_nil)))) (dw_and1 (dt_cmp (op_neD hr.units) lo_eqD (de_call G_shape_of (hr.mono (by decide)) rfl T.m_shape_of T.k_shape_of T.b_shape_of (da_cons (dv 4) (da_cons (dv 5) (da_cons (dv 10) da_nil)))) (de_call G__law_contrary (hr.mono (by decide)) rfl T.m__law_contrary T.k__law_contrary T.b__law_contrary (da_cons (dv 4) (da_cons (dv 7) da_nil))) (nomark _))))) (dss_one (ds_ret de_bl)) dss_nil)
    (dss_one (ds_expr (de_append (dv 1) (de_tup (da_cons (dv 4) (da_cons (dv 5) (da_cons (dv 6) (da_cons (dv 7) da_nil)))))))))))))))))))))
    (dss_cons (ds_for PassesOwn.never rfl (di_list (de_plus (dv 1) (de_rev (dv 1)))) (dg_tup (n := 4) rfl (dgs_cons (dg_name (i := 4) S.nd rfl (Or.inl rfl)) (dgs_cons (dg_name (i := 5) S.nd rfl (Or.inl rfl)) (dgs_cons (dg_name (i := 6) S.nd rfl (Or.inl rfl)) (dgs_cons (dg_name (i := 7) S.nd rfl (Or.inl rfl)) dgs_nil))))) (dss_one (ds_if (DW.dt (dw_or (dt_cmp (op_neD hr.units) lo_eqD (de_call G_shape_of (hr.mono (by decide)) rfl T.m_shape_of T.k_shape_of T.b_shape_of (da_cons (dv 4) (da_cons (dv 5) (da_cons (dv 6) da_nil)))) (dv 7) (nomark _)) (dw_or1 (dt_cmp (op_neD hr.units) lo_eqD (de_call G_mate_shape (hr.mono (by decide)) rfl T.m_mate_shape T.k_mate_shape T.b_mate_shape (da_cons (dv 4) (da_cons (dv 5) (da_cons (dv 6) da_nil)))) (de_call G__law_mate (hr.mono (by decide)) rfl T.m__law_mate T.k__law_mate T.b__law_mate (da_cons (dv 7) da_nil)) (nomark _))))) (dss_one (ds_ret de_bl)) dss_nil)))
    (dss_one (ds_ret (de_cmp (op_eqD hr.units) lo_eqD (de_call G_shape_of (hr.mono (by decide)) rfl T.m_shape_of T.k_shape_of T.b_shape_of (da_cons de_int (da_cons (de_tup (da_cons (de_tup (da_cons de_int (da_cons de_int (da_cons de_int da_nil)))) da_nil)) (da_cons (de_tup (da_cons de_str (da_cons (de_tup (da_cons (de_tup (da_cons de_str (da_cons de_int da_nil))) (da_cons (de_tup (da_cons de_str (da_cons de_int da_nil))) da_nil))) da_nil))) da_nil)))) (de_tup (da_cons de_int (da_cons de_int (da_cons de_int da_nil)))) (nomark _))))))), fun ds μ Qd h => rd_law h⟩)
theorem ok_all (T : Txt K mg t) : FnOk P w K mg base CX0 35 t.a_law t.d_law ["_law_script"] (spD K spLaw) := by
  have G_is_whole : FnOk P w K mg base CX0 1 t.a_is_whole t.d_is_whole ["thing"] (spD K spWhole) := ok_is_whole T
  have G_common_divisor : FnOk P w K mg base CX0 1 t.a_common_divisor t.d_common_divisor ["a", "b"] (spD K spGcd) := ok_common_divisor T
  have G_mate : FnOk P w K mg base CX0 1 t.a_mate t.d_mate ["x"] (spD K spMate) := ok_mate T
  have G_sign_of_parts : FnOk P w K mg base CX0 1 t.a_sign_of_parts t.d_sign_of_parts ["d", "a", "b"] (spD K spSignP) := ok_sign_of_parts T
  have G_parts_of : FnOk P w K mg base CX0 1 t.a_parts_of t.d_parts_of ["plan"] (spD K spParts) := ok_parts_of T
  have G__law_bag : FnOk P w K mg base CX0 1 t.a__law_bag t.d__law_bag ["_law_script", "_law_at"] (spD K spBag) := ok__law_bag T
  have G__law_take : FnOk P w K mg base CX0 1 t.a__law_take t.d__law_take ["_law_bag_here", "_law_many"] (spD K spTake) := ok__law_take T
  have G__law_is_whole : FnOk P w K mg base CX0 1 t.a__law_is_whole t.d__law_is_whole ["_law_thing"] (spD K spWhole) := ok__law_is_whole T
  have G__law_shared : FnOk P w K mg base CX0 1 t.a__law_shared t.d__law_shared ["_law_one", "_law_other"] (spD K spGcd) := ok__law_shared T
  have G__law_minus : FnOk P w K mg base CX0 1 t.a__law_minus t.d__law_minus ["_law_x"] (spD K spMinus) := ok__law_minus T
  have G__law_mate : FnOk P w K mg base CX0 1 t.a__law_mate t.d__law_mate ["_law_x"] (spD K spMate) := ok__law_mate T
  have G__law_sign : FnOk P w K mg base CX0 1 t.a__law_sign t.d__law_sign ["_law_d", "_law_x"] (spD K spSign) := ok__law_sign T
  have G_divisor_of_all : FnOk P w K mg base CX0 2 t.a_divisor_of_all t.d_divisor_of_all ["a", "b", "c"] (spD K spDiv3) := ok_divisor_of_all T G_common_divisor
  have G_sign_of : FnOk P w K mg base CX0 2 t.a_sign_of t.d_sign_of ["d", "x"] (spD K spSign) := ok_sign_of T G_sign_of_parts
  have G_is_count : FnOk P w K mg base CX0 2 t.a_is_count t.d_is_count ["thing"] (spD K spCount) := ok_is_count T G_is_whole
  have G__law_low : FnOk P w K mg base CX0 2 t.a__law_low t.d__law_low ["_law_a", "_law_b", "_law_c"] (spD K spNumber) := ok__law_low T G__law_shared
  have G__law_is_number : FnOk P w K mg base CX0 2 t.a__law_is_number t.d__law_is_number ["_law_thing"] (spD K spNumQ) := ok__law_is_number T G__law_shared G__law_is_whole
  have G__law_root : FnOk P w K mg base CX0 2 t.a__law_root t.d__law_root ["_law_bag_here"] (spD K spRootL) := ok__law_root T G__law_take
  have G__law_grid_size : FnOk P w K mg base CX0 2 t.a__law_grid_size t.d__law_grid_size ["_law_bag_here"] (spD K spGrid) := ok__law_grid_size T G__law_take
  have G_is_number : FnOk P w K mg base CX0 3 t.a_is_number t.d_is_number ["thing"] (spD K spNumQ) := ok_is_number T G_is_whole G_divisor_of_all
  have G_number : FnOk P w K mg base CX0 3 t.a_number t.d_number ["a", "b", "c"] (spD K spNumber) := ok_number T G_divisor_of_all
  have G_has_form : FnOk P w K mg base CX0 3 t.a_has_form t.d_has_form ["thing", "many"] (spD K spForm) := ok_has_form T G_is_count G_is_whole
  have G__law_plus : FnOk P w K mg base CX0 3 t.a__law_plus t.d__law_plus ["_law_x", "_law_y"] (spD K spPlus) := ok__law_plus T G__law_low
  have G__law_times : FnOk P w K mg base CX0 3 t.a__law_times t.d__law_times ["_law_d", "_law_x", "_law_y"] (spD K spTimes) := ok__law_times T G__law_low
  have G__law_contrary : FnOk P w K mg base CX0 3 t.a__law_contrary t.d__law_contrary ["_law_d", "_law_x"] (spD K spContrary) := ok__law_contrary T G__law_low
  have G__law_number : FnOk P w K mg base CX0 3 t.a__law_number t.d__law_number ["_law_bag_here"] (spD K spNumberL) := ok__law_number T G__law_take G__law_low
  have G__law_plan : FnOk P w K mg base CX0 3 t.a__law_plan t.d__law_plan ["_law_bag_here", "_law_many"] (spD K spPlanG) := ok__law_plan T G__law_take G__law_grid_size
  have G_plus : FnOk P w K mg base CX0 4 t.a_plus t.d_plus ["x", "y"] (spD K spPlus) := ok_plus T G_number
  have G_times : FnOk P w K mg base CX0 4 t.a_times t.d_times ["d", "x", "y"] (spD K spTimes) := ok_times T G_number
  have G_contrary : FnOk P w K mg base CX0 4 t.a_contrary t.d_contrary ["d", "x"] (spD K spContrary) := ok_contrary T G_number
  have G_is_above_nought : FnOk P w K mg base CX0 4 t.a_is_above_nought t.d_is_above_nought ["d", "thing"] (spD K spAboveQ) := ok_is_above_nought T G_is_number G_sign_of
  have G_is_plan : FnOk P w K mg base CX0 4 t.a_is_plan t.d_is_plan ["thing", "many"] (spD K spIsPlanP) := ok_is_plan T G_parts_of G_has_form
  have G__law_above : FnOk P w K mg base CX0 4 t.a__law_above t.d__law_above ["_law_bag_here", "_law_d"] (spD K spAboveL) := ok__law_above T G__law_number G__law_sign G__law_minus G__law_take
  have G__law_sum : FnOk P w K mg base CX0 4 t.a__law_sum t.d__law_sum ["_law_some"] (spD K spSum) := ok__law_sum T G__law_plus
  have G_is_kinds : FnOk P w K mg base CX0 5 t.a_is_kinds t.d_is_kinds ["d", "thing"] (spD K spKindsQ) := ok_is_kinds T G_is_above_nought
  have G_must_be_plan : FnOk P w K mg base CX0 5 t.a_must_be_plan t.d_must_be_plan ["thing", "many"] (spD K spMustPlan) := ok_must_be_plan T G_is_plan
  have G_sum_of : FnOk P w K mg base CX0 5 t.a_sum_of t.d_sum_of ["shapes"] (spD K spSum) := ok_sum_of T G_plus
  have G__law_kinds : FnOk P w K mg base CX0 5 t.a__law_kinds t.d__law_kinds ["_law_bag_here", "_law_d"] (spD K spKindsL) := ok__law_kinds T G__law_above G__law_take G__law_contrary G__law_times G__law_low
  have G_must_be_kinds : FnOk P w K mg base CX0 6 t.a_must_be_kinds t.d_must_be_kinds ["d", "thing"] (spD K spMustKinds) := ok_must_be_kinds T G_is_kinds
  have G__law_shape : FnOk P w K mg base CX0 18 t.a__law_shape t.d__law_shape ["_law_d", "_law_kinds_here", "_law_plan_here"] (spD K (spShapeL 13)) := ok__law_shape T G__law_contrary G__law_times G__law_sum G__law_low
  have G_made_of : FnOk P w K mg base CX0 19 t.a_made_of t.d_made_of ["d", "shapes", "plan"] (spD K (spMade 13)) := ok_made_of T G_contrary G_times G_sum_of G_parts_of G_number
  have G_shape_of : FnOk P w K mg base CX0 20 t.a_shape_of t.d_shape_of ["d", "kinds", "plan"] (spD K spShapeOf) := ok_shape_of T G_must_be_kinds G_must_be_plan G_made_of
  have G_mate_shape : FnOk P w K mg base CX0 20 t.a_mate_shape t.d_mate_shape ["d", "kinds", "plan"] (spD K spMateShape) := ok_mate_shape T G_must_be_kinds G_must_be_plan G_made_of G_mate
  have G__law_plans_in : FnOk P w K mg base CX0 33 t.a__law_plans_in t.d__law_plans_in ["_law_thing", "_law_many", "_law_deep"] (spD K (spPlansIn 31)) := ok__law_plans_in T G__law_is_whole
  have G__law_is_a_plan : FnOk P w K mg base CX0 34 t.a__law_is_a_plan t.d__law_is_a_plan ["_law_thing", "_law_many"] (spD K spIsAPlan) := ok__law_is_a_plan T G__law_plans_in
  have G__law_few_figures : FnOk P w K mg base CX0 34 t.a__law_few_figures t.d__law_few_figures ["_law_bag_here", "_law_d", "_law_kinds_here", "_law_plan_here"] (spD K spFew) := ok__law_few_figures T G__law_plans_in G__law_low G__law_take G__law_sign G__law_minus
  exact ok_law T G__law_bag G__law_root G__law_kinds G__law_plan G__law_few_figures G__law_shape G_shape_of G_mate_shape G__law_is_a_plan G__law_is_number G__law_mate G__law_contrary
end
theorem all_mk {l : PySem.W.OpenLaw} {w : World} {K : PySem.W.Frag} {h : Heap} {mg : Str → Option Value} {fa : Addr} (X : K.In h) (G : h.Ns mainGlobals mg) (hfa : mg "law" = some (.ref fa))
    {f0 : Addr} {od0 an0 : Option Addr} {sl0 : Array (Option Value)} {oc0 kV0 dc0 pm0 cd0 ct0 : Value} {f1 : Addr} {od1 an1 : Option Addr} {sl1 : Array (Option Value)} {oc1 kV1 dc1 pm1 cd1 ct1 : Value} {f2 : Addr} {od2 an2 : Option Addr} {sl2 : Array (Option Value)} {oc2 kV2 dc2 pm2 cd2 ct2 : Value} {f3 : Addr} {od3 an3 : Option Addr} {sl3 : Array (Option Value)} {oc3 kV3 dc3 pm3 cd3 ct3 : Value} {f4 : Addr} {od4 an4 : Option Addr} {sl4 : Array (Option Value)} {oc4 kV4 dc4 pm4 cd4 ct4 : Value} {f5 : Addr} {od5 an5 : Option Addr} {sl5 : Array (Option Value)} {oc5 kV5 dc5 pm5 cd5 ct5 : Value} {f6 : Addr} {od6 an6 : Option Addr} {sl6 : Array (Option Value)} {oc6 kV6 dc6 pm6 cd6 ct6 : Value} {f7 : Addr} {od7 an7 : Option Addr} {sl7 : Array (Option Value)} {oc7 kV7 dc7 pm7 cd7 ct7 : Value} {f8 : Addr} {od8 an8 : Option Addr} {sl8 : Array (Option Value)} {oc8 kV8 dc8 pm8 cd8 ct8 : Value} {f9 : Addr} {od9 an9 : Option Addr} {sl9 : Array (Option Value)} {oc9 kV9 dc9 pm9 cd9 ct9 : Value} {f10 : Addr} {od10 an10 : Option Addr} {sl10 : Array (Option Value)} {oc10 kV10 dc10 pm10 cd10 ct10 : Value} {f11 : Addr} {od11 an11 : Option Addr} {sl11 : Array (Option Value)} {oc11 kV11 dc11 pm11 cd11 ct11 : Value} {f12 : Addr} {od12 an12 : Option Addr} {sl12 : Array (Option Value)} {oc12 kV12 dc12 pm12 cd12 ct12 : Value} {f13 : Addr} {od13 an13 : Option Addr} {sl13 : Array (Option Value)} {oc13 kV13 dc13 pm13 cd13 ct13 : Value} {f14 : Addr} {od14 an14 : Option Addr} {sl14 : Array (Option Value)} {oc14 kV14 dc14 pm14 cd14 ct14 : Value} {f15 : Addr} {od15 an15 : Option Addr} {sl15 : Array (Option Value)} {oc15 kV15 dc15 pm15 cd15 ct15 : Value} {f16 : Addr} {od16 an16 : Option Addr} {sl16 : Array (Option Value)} {oc16 kV16 dc16 pm16 cd16 ct16 : Value} {f17 : Addr} {od17 an17 : Option Addr} {sl17 : Array (Option Value)} {oc17 kV17 dc17 pm17 cd17 ct17 : Value} {f18 : Addr} {od18 an18 : Option Addr} {sl18 : Array (Option Value)} {oc18 kV18 dc18 pm18 cd18 ct18 : Value} {f19 : Addr} {od19 an19 : Option Addr} {sl19 : Array (Option Value)} {oc19 kV19 dc19 pm19 cd19 ct19 : Value} {f20 : Addr} {od20 an20 : Option Addr} {sl20 : Array (Option Value)} {oc20 kV20 dc20 pm20 cd20 ct20 : Value} {f21 : Addr} {od21 an21 : Option Addr} {sl21 : Array (Option Value)} {oc21 kV21 dc21 pm21 cd21 ct21 : Value} {f22 : Addr} {od22 an22 : Option Addr} {sl22 : Array (Option Value)} {oc22 kV22 dc22 pm22 cd22 ct22 : Value} {f23 : Addr} {od23 an23 : Option Addr} {sl23 : Array (Option Value)} {oc23 kV23 dc23 pm23 cd23 ct23 : Value} {f24 : Addr} {od24 an24 : Option Addr} {sl24 : Array (Option Value)} {oc24 kV24 dc24 pm24 cd24 ct24 : Value} {f25 : Addr} {od25 an25 : Option Addr} {sl25 : Array (Option Value)} {oc25 kV25 dc25 pm25 cd25 ct25 : Value} {f26 : Addr} {od26 an26 : Option Addr} {sl26 : Array (Option Value)} {oc26 kV26 dc26 pm26 cd26 ct26 : Value} {f27 : Addr} {od27 an27 : Option Addr} {sl27 : Array (Option Value)} {oc27 kV27 dc27 pm27 cd27 ct27 : Value} {f28 : Addr} {od28 an28 : Option Addr} {sl28 : Array (Option Value)} {oc28 kV28 dc28 pm28 cd28 ct28 : Value} {f29 : Addr} {od29 an29 : Option Addr} {sl29 : Array (Option Value)} {oc29 kV29 dc29 pm29 cd29 ct29 : Value} {f30 : Addr} {od30 an30 : Option Addr} {sl30 : Array (Option Value)} {oc30 kV30 dc30 pm30 cd30 ct30 : Value} {f31 : Addr} {od31 an31 : Option Addr} {sl31 : Array (Option Value)} {oc31 kV31 dc31 pm31 cd31 ct31 : Value} {f32 : Addr} {od32 an32 : Option Addr} {sl32 : Array (Option Value)} {oc32 kV32 dc32 pm32 cd32 ct32 : Value} {f33 : Addr} {od33 an33 : Option Addr} {sl33 : Array (Option Value)} {oc33 kV33 dc33 pm33 cd33 ct33 : Value} {f34 : Addr} {od34 an34 : Option Addr} {sl34 : Array (Option Value)} {oc34 kV34 dc34 pm34 cd34 ct34 : Value} {f35 : Addr} {od35 an35 : Option Addr} {sl35 : Array (Option Value)} {oc35 kV35 dc35 pm35 cd35 ct35 : Value} {f36 : Addr} {od36 an36 : Option Addr} {sl36 : Array (Option Value)} {oc36 kV36 dc36 pm36 cd36 ct36 : Value} {f37 : Addr} {od37 an37 : Option Addr} {sl37 : Array (Option Value)} {oc37 kV37 dc37 pm37 cd37 ct37 : Value} {f38 : Addr} {od38 an38 : Option Addr} {sl38 : Array (Option Value)} {oc38 kV38 dc38 pm38 cd38 ct38 : Value} {f39 : Addr} {od39 an39 : Option Addr} {sl39 : Array (Option Value)} {oc39 kV39 dc39 pm39 cd39 ct39 : Value} {f40 : Addr} {od40 an40 : Option Addr} {sl40 : Array (Option Value)} {oc40 kV40 dc40 pm40 cd40 ct40 : Value} {f41 : Addr} {od41 an41 : Option Addr} {sl41 : Array (Option Value)} {oc41 kV41 dc41 pm41 cd41 ct41 : Value} {f42 : Addr} {od42 an42 : Option Addr} {sl42 : Array (Option Value)} {oc42 kV42 dc42 pm42 cd42 ct42 : Value} {f43 : Addr} {od43 an43 : Option Addr} {sl43 : Array (Option Value)} {oc43 kV43 dc43 pm43 cd43 ct43 : Value} {f44 : Addr} {od44 an44 : Option Addr} {sl44 : Array (Option Value)} {oc44 kV44 dc44 pm44 cd44 ct44 : Value} {f45 : Addr} {od45 an45 : Option Addr} {sl45 : Array (Option Value)} {oc45 kV45 dc45 pm45 cd45 ct45 : Value} {f46 : Addr} {od46 an46 : Option Addr} {sl46 : Array (Option Value)} {oc46 kV46 dc46 pm46 cd46 ct46 : Value} {q0 : Tok} {q1 : Tok} {q2 : Tok} {q3 : Tok} {q4 : Tok} {g5 : Addr} {go5 : Option Addr} {q5a q5b q5c : Tok} {gn5 : Nat} {gs5 : Array (Option Value)}
    (a0 : PySem.W.nsIn K mainGlobals "is_whole" = some (some (.ref f0))) (l0 : K.lookup f0 = some ⟨oc0, od0, .func (PySem.W.fnOf "is_whole" "is_whole" (defArgs s_is_whole) (defBody s_is_whole) (defScope s_is_whole) .none kV0 dc0 pm0 an0 cd0 ct0), sl0⟩) (c0 : PySem.W.codeIn K cd0 "is_whole" = true) (k0 : PySem.W.keepIn K (.ref f0) = true)
    (a1 : PySem.W.nsIn K mainGlobals "common_divisor" = some (some (.ref f1))) (l1 : K.lookup f1 = some ⟨oc1, od1, .func (PySem.W.fnOf "common_divisor" "common_divisor" (defArgs s_common_divisor) (defBody s_common_divisor) (defScope s_common_divisor) .none kV1 dc1 pm1 an1 cd1 ct1), sl1⟩) (c1 : PySem.W.codeIn K cd1 "common_divisor" = true) (k1 : PySem.W.keepIn K (.ref f1) = true)
    (a2 : PySem.W.nsIn K mainGlobals "is_number" = some (some (.ref f2))) (l2 : K.lookup f2 = some ⟨oc2, od2, .func (PySem.W.fnOf "is_number" "is_number" (defArgs s_is_number) (defBody s_is_number) (defScope s_is_number) .none kV2 dc2 pm2 an2 cd2 ct2), sl2⟩) (c2 : PySem.W.codeIn K cd2 "is_number" = true) (k2 : PySem.W.keepIn K (.ref f2) = true)
    (a3 : PySem.W.nsIn K mainGlobals "divisor_of_all" = some (some (.ref f3))) (l3 : K.lookup f3 = some ⟨oc3, od3, .func (PySem.W.fnOf "divisor_of_all" "divisor_of_all" (defArgs s_divisor_of_all) (defBody s_divisor_of_all) (defScope s_divisor_of_all) .none kV3 dc3 pm3 an3 cd3 ct3), sl3⟩) (c3 : PySem.W.codeIn K cd3 "divisor_of_all" = true) (k3 : PySem.W.keepIn K (.ref f3) = true)
    (a4 : PySem.W.nsIn K mainGlobals "number" = some (some (.ref f4))) (l4 : K.lookup f4 = some ⟨oc4, od4, .func (PySem.W.fnOf "number" "number" (defArgs s_number) (defBody s_number) (defScope s_number) .none kV4 dc4 pm4 an4 cd4 ct4), sl4⟩) (c4 : PySem.W.codeIn K cd4 "number" = true) (k4 : PySem.W.keepIn K (.ref f4) = true)
    (a5 : PySem.W.nsIn K mainGlobals "mate" = some (some (.ref f5))) (l5 : K.lookup f5 = some ⟨oc5, od5, .func (PySem.W.fnOf "mate" "mate" (defArgs s_mate) (defBody s_mate) (defScope s_mate) .none kV5 dc5 pm5 an5 cd5 ct5), sl5⟩) (c5 : PySem.W.codeIn K cd5 "mate" = true) (k5 : PySem.W.keepIn K (.ref f5) = true)
    (a6 : PySem.W.nsIn K mainGlobals "plus" = some (some (.ref f6))) (l6 : K.lookup f6 = some ⟨oc6, od6, .func (PySem.W.fnOf "plus" "plus" (defArgs s_plus) (defBody s_plus) (defScope s_plus) .none kV6 dc6 pm6 an6 cd6 ct6), sl6⟩) (c6 : PySem.W.codeIn K cd6 "plus" = true) (k6 : PySem.W.keepIn K (.ref f6) = true)
    (a7 : PySem.W.nsIn K mainGlobals "times" = some (some (.ref f7))) (l7 : K.lookup f7 = some ⟨oc7, od7, .func (PySem.W.fnOf "times" "times" (defArgs s_times) (defBody s_times) (defScope s_times) .none kV7 dc7 pm7 an7 cd7 ct7), sl7⟩) (c7 : PySem.W.codeIn K cd7 "times" = true) (k7 : PySem.W.keepIn K (.ref f7) = true)
    (a8 : PySem.W.nsIn K mainGlobals "contrary" = some (some (.ref f8))) (l8 : K.lookup f8 = some ⟨oc8, od8, .func (PySem.W.fnOf "contrary" "contrary" (defArgs s_contrary) (defBody s_contrary) (defScope s_contrary) .none kV8 dc8 pm8 an8 cd8 ct8), sl8⟩) (c8 : PySem.W.codeIn K cd8 "contrary" = true) (k8 : PySem.W.keepIn K (.ref f8) = true)
    (a9 : PySem.W.nsIn K mainGlobals "sign_of" = some (some (.ref f9))) (l9 : K.lookup f9 = some ⟨oc9, od9, .func (PySem.W.fnOf "sign_of" "sign_of" (defArgs s_sign_of) (defBody s_sign_of) (defScope s_sign_of) .none kV9 dc9 pm9 an9 cd9 ct9), sl9⟩) (c9 : PySem.W.codeIn K cd9 "sign_of" = true) (k9 : PySem.W.keepIn K (.ref f9) = true)
    (a10 : PySem.W.nsIn K mainGlobals "sign_of_parts" = some (some (.ref f10))) (l10 : K.lookup f10 = some ⟨oc10, od10, .func (PySem.W.fnOf "sign_of_parts" "sign_of_parts" (defArgs s_sign_of_parts) (defBody s_sign_of_parts) (defScope s_sign_of_parts) .none kV10 dc10 pm10 an10 cd10 ct10), sl10⟩) (c10 : PySem.W.codeIn K cd10 "sign_of_parts" = true) (k10 : PySem.W.keepIn K (.ref f10) = true)
    (a11 : PySem.W.nsIn K mainGlobals "is_above_nought" = some (some (.ref f11))) (l11 : K.lookup f11 = some ⟨oc11, od11, .func (PySem.W.fnOf "is_above_nought" "is_above_nought" (defArgs s_is_above_nought) (defBody s_is_above_nought) (defScope s_is_above_nought) .none kV11 dc11 pm11 an11 cd11 ct11), sl11⟩) (c11 : PySem.W.codeIn K cd11 "is_above_nought" = true) (k11 : PySem.W.keepIn K (.ref f11) = true)
    (a12 : PySem.W.nsIn K mainGlobals "is_kinds" = some (some (.ref f12))) (l12 : K.lookup f12 = some ⟨oc12, od12, .func (PySem.W.fnOf "is_kinds" "is_kinds" (defArgs s_is_kinds) (defBody s_is_kinds) (defScope s_is_kinds) .none kV12 dc12 pm12 an12 cd12 ct12), sl12⟩) (c12 : PySem.W.codeIn K cd12 "is_kinds" = true) (k12 : PySem.W.keepIn K (.ref f12) = true)
    (a13 : PySem.W.nsIn K mainGlobals "must_be_kinds" = some (some (.ref f13))) (l13 : K.lookup f13 = some ⟨oc13, od13, .func (PySem.W.fnOf "must_be_kinds" "must_be_kinds" (defArgs s_must_be_kinds) (defBody s_must_be_kinds) (defScope s_must_be_kinds) .none kV13 dc13 pm13 an13 cd13 ct13), sl13⟩) (c13 : PySem.W.codeIn K cd13 "must_be_kinds" = true) (k13 : PySem.W.keepIn K (.ref f13) = true)
    (a14 : PySem.W.nsIn K mainGlobals "is_plan" = some (some (.ref f14))) (l14 : K.lookup f14 = some ⟨oc14, od14, .func (PySem.W.fnOf "is_plan" "is_plan" (defArgs s_is_plan) (defBody s_is_plan) (defScope s_is_plan) .none kV14 dc14 pm14 an14 cd14 ct14), sl14⟩) (c14 : PySem.W.codeIn K cd14 "is_plan" = true) (k14 : PySem.W.keepIn K (.ref f14) = true)
    (a15 : PySem.W.nsIn K mainGlobals "has_form" = some (some (.ref f15))) (l15 : K.lookup f15 = some ⟨oc15, od15, .func (PySem.W.fnOf "has_form" "has_form" (defArgs s_has_form) (defBody s_has_form) (defScope s_has_form) .none kV15 dc15 pm15 an15 cd15 ct15), sl15⟩) (c15 : PySem.W.codeIn K cd15 "has_form" = true) (k15 : PySem.W.keepIn K (.ref f15) = true)
    (a16 : PySem.W.nsIn K mainGlobals "is_count" = some (some (.ref f16))) (l16 : K.lookup f16 = some ⟨oc16, od16, .func (PySem.W.fnOf "is_count" "is_count" (defArgs s_is_count) (defBody s_is_count) (defScope s_is_count) .none kV16 dc16 pm16 an16 cd16 ct16), sl16⟩) (c16 : PySem.W.codeIn K cd16 "is_count" = true) (k16 : PySem.W.keepIn K (.ref f16) = true)
    (a17 : PySem.W.nsIn K mainGlobals "parts_of" = some (some (.ref f17))) (l17 : K.lookup f17 = some ⟨oc17, od17, .func (PySem.W.fnOf "parts_of" "parts_of" (defArgs s_parts_of) (defBody s_parts_of) (defScope s_parts_of) .none kV17 dc17 pm17 an17 cd17 ct17), sl17⟩) (c17 : PySem.W.codeIn K cd17 "parts_of" = true) (k17 : PySem.W.keepIn K (.ref f17) = true)
    (a18 : PySem.W.nsIn K mainGlobals "must_be_plan" = some (some (.ref f18))) (l18 : K.lookup f18 = some ⟨oc18, od18, .func (PySem.W.fnOf "must_be_plan" "must_be_plan" (defArgs s_must_be_plan) (defBody s_must_be_plan) (defScope s_must_be_plan) .none kV18 dc18 pm18 an18 cd18 ct18), sl18⟩) (c18 : PySem.W.codeIn K cd18 "must_be_plan" = true) (k18 : PySem.W.keepIn K (.ref f18) = true)
    (a19 : PySem.W.nsIn K mainGlobals "shape_of" = some (some (.ref f19))) (l19 : K.lookup f19 = some ⟨oc19, od19, .func (PySem.W.fnOf "shape_of" "shape_of" (defArgs s_shape_of) (defBody s_shape_of) (defScope s_shape_of) .none kV19 dc19 pm19 an19 cd19 ct19), sl19⟩) (c19 : PySem.W.codeIn K cd19 "shape_of" = true) (k19 : PySem.W.keepIn K (.ref f19) = true)
    (a20 : PySem.W.nsIn K mainGlobals "mate_shape" = some (some (.ref f20))) (l20 : K.lookup f20 = some ⟨oc20, od20, .func (PySem.W.fnOf "mate_shape" "mate_shape" (defArgs s_mate_shape) (defBody s_mate_shape) (defScope s_mate_shape) .none kV20 dc20 pm20 an20 cd20 ct20), sl20⟩) (c20 : PySem.W.codeIn K cd20 "mate_shape" = true) (k20 : PySem.W.keepIn K (.ref f20) = true)
    (a21 : PySem.W.nsIn K mainGlobals "made_of" = some (some (.ref f21))) (l21 : K.lookup f21 = some ⟨oc21, od21, .func (PySem.W.fnOf "made_of" "made_of" (defArgs s_made_of) (defBody s_made_of) (defScope s_made_of) .none kV21 dc21 pm21 an21 cd21 ct21), sl21⟩) (c21 : PySem.W.codeIn K cd21 "made_of" = true) (k21 : PySem.W.keepIn K (.ref f21) = true)
    (a22 : PySem.W.nsIn K mainGlobals "sum_of" = some (some (.ref f22))) (l22 : K.lookup f22 = some ⟨oc22, od22, .func (PySem.W.fnOf "sum_of" "sum_of" (defArgs s_sum_of) (defBody s_sum_of) (defScope s_sum_of) .none kV22 dc22 pm22 an22 cd22 ct22), sl22⟩) (c22 : PySem.W.codeIn K cd22 "sum_of" = true) (k22 : PySem.W.keepIn K (.ref f22) = true)
    (a23 : PySem.W.nsIn K mainGlobals "_law_bag" = some (some (.ref f23))) (l23 : K.lookup f23 = some ⟨oc23, od23, .func (PySem.W.fnOf "_law_bag" "_law_bag" (defArgs s__law_bag) (defBody s__law_bag) (defScope s__law_bag) .none kV23 dc23 pm23 an23 cd23 ct23), sl23⟩) (c23 : PySem.W.codeIn K cd23 "_law_bag" = true) (k23 : PySem.W.keepIn K (.ref f23) = true)
    (a24 : PySem.W.nsIn K mainGlobals "_law_take" = some (some (.ref f24))) (l24 : K.lookup f24 = some ⟨oc24, od24, .func (PySem.W.fnOf "_law_take" "_law_take" (defArgs s__law_take) (defBody s__law_take) (defScope s__law_take) .none kV24 dc24 pm24 an24 cd24 ct24), sl24⟩) (c24 : PySem.W.codeIn K cd24 "_law_take" = true) (k24 : PySem.W.keepIn K (.ref f24) = true)
    (a25 : PySem.W.nsIn K mainGlobals "_law_is_whole" = some (some (.ref f25))) (l25 : K.lookup f25 = some ⟨oc25, od25, .func (PySem.W.fnOf "_law_is_whole" "_law_is_whole" (defArgs s__law_is_whole) (defBody s__law_is_whole) (defScope s__law_is_whole) .none kV25 dc25 pm25 an25 cd25 ct25), sl25⟩) (c25 : PySem.W.codeIn K cd25 "_law_is_whole" = true) (k25 : PySem.W.keepIn K (.ref f25) = true)
    (a26 : PySem.W.nsIn K mainGlobals "_law_shared" = some (some (.ref f26))) (l26 : K.lookup f26 = some ⟨oc26, od26, .func (PySem.W.fnOf "_law_shared" "_law_shared" (defArgs s__law_shared) (defBody s__law_shared) (defScope s__law_shared) .none kV26 dc26 pm26 an26 cd26 ct26), sl26⟩) (c26 : PySem.W.codeIn K cd26 "_law_shared" = true) (k26 : PySem.W.keepIn K (.ref f26) = true)
    (a27 : PySem.W.nsIn K mainGlobals "_law_low" = some (some (.ref f27))) (l27 : K.lookup f27 = some ⟨oc27, od27, .func (PySem.W.fnOf "_law_low" "_law_low" (defArgs s__law_low) (defBody s__law_low) (defScope s__law_low) .none kV27 dc27 pm27 an27 cd27 ct27), sl27⟩) (c27 : PySem.W.codeIn K cd27 "_law_low" = true) (k27 : PySem.W.keepIn K (.ref f27) = true)
    (a28 : PySem.W.nsIn K mainGlobals "_law_is_number" = some (some (.ref f28))) (l28 : K.lookup f28 = some ⟨oc28, od28, .func (PySem.W.fnOf "_law_is_number" "_law_is_number" (defArgs s__law_is_number) (defBody s__law_is_number) (defScope s__law_is_number) .none kV28 dc28 pm28 an28 cd28 ct28), sl28⟩) (c28 : PySem.W.codeIn K cd28 "_law_is_number" = true) (k28 : PySem.W.keepIn K (.ref f28) = true)
    (a29 : PySem.W.nsIn K mainGlobals "_law_plus" = some (some (.ref f29))) (l29 : K.lookup f29 = some ⟨oc29, od29, .func (PySem.W.fnOf "_law_plus" "_law_plus" (defArgs s__law_plus) (defBody s__law_plus) (defScope s__law_plus) .none kV29 dc29 pm29 an29 cd29 ct29), sl29⟩) (c29 : PySem.W.codeIn K cd29 "_law_plus" = true) (k29 : PySem.W.keepIn K (.ref f29) = true)
    (a30 : PySem.W.nsIn K mainGlobals "_law_minus" = some (some (.ref f30))) (l30 : K.lookup f30 = some ⟨oc30, od30, .func (PySem.W.fnOf "_law_minus" "_law_minus" (defArgs s__law_minus) (defBody s__law_minus) (defScope s__law_minus) .none kV30 dc30 pm30 an30 cd30 ct30), sl30⟩) (c30 : PySem.W.codeIn K cd30 "_law_minus" = true) (k30 : PySem.W.keepIn K (.ref f30) = true)
    (a31 : PySem.W.nsIn K mainGlobals "_law_mate" = some (some (.ref f31))) (l31 : K.lookup f31 = some ⟨oc31, od31, .func (PySem.W.fnOf "_law_mate" "_law_mate" (defArgs s__law_mate) (defBody s__law_mate) (defScope s__law_mate) .none kV31 dc31 pm31 an31 cd31 ct31), sl31⟩) (c31 : PySem.W.codeIn K cd31 "_law_mate" = true) (k31 : PySem.W.keepIn K (.ref f31) = true)
    (a32 : PySem.W.nsIn K mainGlobals "_law_times" = some (some (.ref f32))) (l32 : K.lookup f32 = some ⟨oc32, od32, .func (PySem.W.fnOf "_law_times" "_law_times" (defArgs s__law_times) (defBody s__law_times) (defScope s__law_times) .none kV32 dc32 pm32 an32 cd32 ct32), sl32⟩) (c32 : PySem.W.codeIn K cd32 "_law_times" = true) (k32 : PySem.W.keepIn K (.ref f32) = true)
    (a33 : PySem.W.nsIn K mainGlobals "_law_contrary" = some (some (.ref f33))) (l33 : K.lookup f33 = some ⟨oc33, od33, .func (PySem.W.fnOf "_law_contrary" "_law_contrary" (defArgs s__law_contrary) (defBody s__law_contrary) (defScope s__law_contrary) .none kV33 dc33 pm33 an33 cd33 ct33), sl33⟩) (c33 : PySem.W.codeIn K cd33 "_law_contrary" = true) (k33 : PySem.W.keepIn K (.ref f33) = true)
    (a34 : PySem.W.nsIn K mainGlobals "_law_sign" = some (some (.ref f34))) (l34 : K.lookup f34 = some ⟨oc34, od34, .func (PySem.W.fnOf "_law_sign" "_law_sign" (defArgs s__law_sign) (defBody s__law_sign) (defScope s__law_sign) .none kV34 dc34 pm34 an34 cd34 ct34), sl34⟩) (c34 : PySem.W.codeIn K cd34 "_law_sign" = true) (k34 : PySem.W.keepIn K (.ref f34) = true)
    (a35 : PySem.W.nsIn K mainGlobals "_law_root" = some (some (.ref f35))) (l35 : K.lookup f35 = some ⟨oc35, od35, .func (PySem.W.fnOf "_law_root" "_law_root" (defArgs s__law_root) (defBody s__law_root) (defScope s__law_root) .none kV35 dc35 pm35 an35 cd35 ct35), sl35⟩) (c35 : PySem.W.codeIn K cd35 "_law_root" = true) (k35 : PySem.W.keepIn K (.ref f35) = true)
    (a36 : PySem.W.nsIn K mainGlobals "_law_number" = some (some (.ref f36))) (l36 : K.lookup f36 = some ⟨oc36, od36, .func (PySem.W.fnOf "_law_number" "_law_number" (defArgs s__law_number) (defBody s__law_number) (defScope s__law_number) .none kV36 dc36 pm36 an36 cd36 ct36), sl36⟩) (c36 : PySem.W.codeIn K cd36 "_law_number" = true) (k36 : PySem.W.keepIn K (.ref f36) = true)
    (a37 : PySem.W.nsIn K mainGlobals "_law_above" = some (some (.ref f37))) (l37 : K.lookup f37 = some ⟨oc37, od37, .func (PySem.W.fnOf "_law_above" "_law_above" (defArgs s__law_above) (defBody s__law_above) (defScope s__law_above) .none kV37 dc37 pm37 an37 cd37 ct37), sl37⟩) (c37 : PySem.W.codeIn K cd37 "_law_above" = true) (k37 : PySem.W.keepIn K (.ref f37) = true)
    (a38 : PySem.W.nsIn K mainGlobals "_law_kinds" = some (some (.ref f38))) (l38 : K.lookup f38 = some ⟨oc38, od38, .func (PySem.W.fnOf "_law_kinds" "_law_kinds" (defArgs s__law_kinds) (defBody s__law_kinds) (defScope s__law_kinds) .none kV38 dc38 pm38 an38 cd38 ct38), sl38⟩) (c38 : PySem.W.codeIn K cd38 "_law_kinds" = true) (k38 : PySem.W.keepIn K (.ref f38) = true)
    (a39 : PySem.W.nsIn K mainGlobals "_law_grid_size" = some (some (.ref f39))) (l39 : K.lookup f39 = some ⟨oc39, od39, .func (PySem.W.fnOf "_law_grid_size" "_law_grid_size" (defArgs s__law_grid_size) (defBody s__law_grid_size) (defScope s__law_grid_size) .none kV39 dc39 pm39 an39 cd39 ct39), sl39⟩) (c39 : PySem.W.codeIn K cd39 "_law_grid_size" = true) (k39 : PySem.W.keepIn K (.ref f39) = true)
    (a40 : PySem.W.nsIn K mainGlobals "_law_plan" = some (some (.ref f40))) (l40 : K.lookup f40 = some ⟨oc40, od40, .func (PySem.W.fnOf "_law_plan" "_law_plan" (defArgs s__law_plan) (defBody s__law_plan) (defScope s__law_plan) .none kV40 dc40 pm40 an40 cd40 ct40), sl40⟩) (c40 : PySem.W.codeIn K cd40 "_law_plan" = true) (k40 : PySem.W.keepIn K (.ref f40) = true)
    (a41 : PySem.W.nsIn K mainGlobals "_law_sum" = some (some (.ref f41))) (l41 : K.lookup f41 = some ⟨oc41, od41, .func (PySem.W.fnOf "_law_sum" "_law_sum" (defArgs s__law_sum) (defBody s__law_sum) (defScope s__law_sum) .none kV41 dc41 pm41 an41 cd41 ct41), sl41⟩) (c41 : PySem.W.codeIn K cd41 "_law_sum" = true) (k41 : PySem.W.keepIn K (.ref f41) = true)
    (a42 : PySem.W.nsIn K mainGlobals "_law_shape" = some (some (.ref f42))) (l42 : K.lookup f42 = some ⟨oc42, od42, .func (PySem.W.fnOf "_law_shape" "_law_shape" (defArgs s__law_shape) (defBody s__law_shape) (defScope s__law_shape) .none kV42 dc42 pm42 an42 cd42 ct42), sl42⟩) (c42 : PySem.W.codeIn K cd42 "_law_shape" = true) (k42 : PySem.W.keepIn K (.ref f42) = true)
    (a43 : PySem.W.nsIn K mainGlobals "_law_plans_in" = some (some (.ref f43))) (l43 : K.lookup f43 = some ⟨oc43, od43, .func (PySem.W.fnOf "_law_plans_in" "_law_plans_in" (defArgs s__law_plans_in) (defBody s__law_plans_in) (defScope s__law_plans_in) .none kV43 dc43 pm43 an43 cd43 ct43), sl43⟩) (c43 : PySem.W.codeIn K cd43 "_law_plans_in" = true) (k43 : PySem.W.keepIn K (.ref f43) = true)
    (a44 : PySem.W.nsIn K mainGlobals "_law_is_a_plan" = some (some (.ref f44))) (l44 : K.lookup f44 = some ⟨oc44, od44, .func (PySem.W.fnOf "_law_is_a_plan" "_law_is_a_plan" (defArgs s__law_is_a_plan) (defBody s__law_is_a_plan) (defScope s__law_is_a_plan) .none kV44 dc44 pm44 an44 cd44 ct44), sl44⟩) (c44 : PySem.W.codeIn K cd44 "_law_is_a_plan" = true) (k44 : PySem.W.keepIn K (.ref f44) = true)
    (a45 : PySem.W.nsIn K mainGlobals "_law_few_figures" = some (some (.ref f45))) (l45 : K.lookup f45 = some ⟨oc45, od45, .func (PySem.W.fnOf "_law_few_figures" "_law_few_figures" (defArgs s__law_few_figures) (defBody s__law_few_figures) (defScope s__law_few_figures) .none kV45 dc45 pm45 an45 cd45 ct45), sl45⟩) (c45 : PySem.W.codeIn K cd45 "_law_few_figures" = true) (k45 : PySem.W.keepIn K (.ref f45) = true)
    (a46 : PySem.W.nsIn K mainGlobals "law" = some (some (.ref f46))) (l46 : K.lookup f46 = some ⟨oc46, od46, .func (PySem.W.fnOf "law" "law" (defArgs s_law) (defBody s_law) (defScope s_law) .none kV46 dc46 pm46 an46 cd46 ct46), sl46⟩) (c46 : PySem.W.codeIn K cd46 "law" = true) (k46 : PySem.W.keepIn K (.ref f46) = true)
    (z0 : PySem.W.nsIn K mainGlobals "isinstance" = some none)
    (z1 : PySem.W.nsIn K mainGlobals "int" = some none)
    (z2 : PySem.W.nsIn K mainGlobals "bool" = some none)
    (z3 : PySem.W.nsIn K mainGlobals "abs" = some none)
    (z4 : PySem.W.nsIn K mainGlobals "tuple" = some none)
    (z5 : PySem.W.nsIn K mainGlobals "len" = some none)
    (z6 : PySem.W.nsIn K mainGlobals "all" = some none)
    (z7 : PySem.W.nsIn K mainGlobals "list" = some none)
    (z8 : PySem.W.nsIn K mainGlobals "range" = some none)
    (z9 : PySem.W.nsIn K mainGlobals "min" = some none)
    (z10 : PySem.W.nsIn K mainGlobals "max" = some none)
    (z11 : PySem.W.nsIn K mainGlobals "sum" = some none)
    (v0 : PySem.W.nsIn K mainGlobals "MOST_KINDS" = some (some (.int 3 q0)))
    (v1 : PySem.W.nsIn K mainGlobals "MOST_WITHIN" = some (some (.int 12 q1)))
    (v2 : PySem.W.nsIn K mainGlobals "MOST_PLANS" = some (some (.int 60 q2)))
    (v3 : PySem.W.nsIn K mainGlobals "LEAST_PARTS" = some (some (.int 2 q3)))
    (v4 : PySem.W.nsIn K mainGlobals "MOST_PARTS" = some (some (.int 8 q4)))
    (v5 : PySem.W.nsIn K mainGlobals "NOUGHT" = some (some (.ref g5))) (w5 : K.lookup g5 = some ⟨.type "tuple", go5, .seq #[.int 0 q5a, .int 0 q5b, .int 1 q5c] gn5, gs5⟩) :
    ∃ fd : FuncData, (∀ (s : Shared) (v : Value), BindsTo s fd ⟨[v], []⟩ [("_law_script", v)]) ∧ ∀ base : Heap, K.In base → base.Ns mainGlobals mg → FnOk l.prog w K mg base CX0 35 fa fd ["_law_script"] (spD K spLaw) := by
  have e := hfa.symm.trans (PySem.W.mg_of X G a46)
  cases e
  have F0 := fun_mk (st := s_is_whole) l0 c0 k0
  have b0 := F0.binds (ps := ["thing"]) fun _ _ _ _ _ _ us hl => match us, hl with | [_], _ => rfl
  have F1 := fun_mk (st := s_common_divisor) l1 c1 k1
  have b1 := F1.binds (ps := ["a", "b"]) fun _ _ _ _ _ _ us hl => match us, hl with | [_, _], _ => rfl
  have F2 := fun_mk (st := s_is_number) l2 c2 k2
  have b2 := F2.binds (ps := ["thing"]) fun _ _ _ _ _ _ us hl => match us, hl with | [_], _ => rfl
  have F3 := fun_mk (st := s_divisor_of_all) l3 c3 k3
  have b3 := F3.binds (ps := ["a", "b", "c"]) fun _ _ _ _ _ _ us hl => match us, hl with | [_, _, _], _ => rfl
  have F4 := fun_mk (st := s_number) l4 c4 k4
  have b4 := F4.binds (ps := ["a", "b", "c"]) fun _ _ _ _ _ _ us hl => match us, hl with | [_, _, _], _ => rfl
  have F5 := fun_mk (st := s_mate) l5 c5 k5
  have b5 := F5.binds (ps := ["x"]) fun _ _ _ _ _ _ us hl => match us, hl with | [_], _ => rfl
  have F6 := fun_mk (st := s_plus) l6 c6 k6
  have b6 := F6.binds (ps := ["x", "y"]) fun _ _ _ _ _ _ us hl => match us, hl with | [_, _], _ => rfl
  have F7 := fun_mk (st := s_times) l7 c7 k7
  have b7 := F7.binds (ps := ["d", "x", "y"]) fun _ _ _ _ _ _ us hl => match us, hl with | [_, _, _], _ => rfl
  have F8 := fun_mk (st := s_contrary) l8 c8 k8
  have b8 := F8.binds (ps := ["d", "x"]) fun _ _ _ _ _ _ us hl => match us, hl with | [_, _], _ => rfl
  have F9 := fun_mk (st := s_sign_of) l9 c9 k9
  have b9 := F9.binds (ps := ["d", "x"]) fun _ _ _ _ _ _ us hl => match us, hl with | [_, _], _ => rfl
  have F10 := fun_mk (st := s_sign_of_parts) l10 c10 k10
  have b10 := F10.binds (ps := ["d", "a", "b"]) fun _ _ _ _ _ _ us hl => match us, hl with | [_, _, _], _ => rfl
  have F11 := fun_mk (st := s_is_above_nought) l11 c11 k11
  have b11 := F11.binds (ps := ["d", "thing"]) fun _ _ _ _ _ _ us hl => match us, hl with | [_, _], _ => rfl
  have F12 := fun_mk (st := s_is_kinds) l12 c12 k12
  have b12 := F12.binds (ps := ["d", "thing"]) fun _ _ _ _ _ _ us hl => match us, hl with | [_, _], _ => rfl
  have F13 := fun_mk (st := s_must_be_kinds) l13 c13 k13
  have b13 := F13.binds (ps := ["d", "thing"]) fun _ _ _ _ _ _ us hl => match us, hl with | [_, _], _ => rfl
  have F14 := fun_mk (st := s_is_plan) l14 c14 k14
  have b14 := F14.binds (ps := ["thing", "many"]) fun _ _ _ _ _ _ us hl => match us, hl with | [_, _], _ => rfl
  have F15 := fun_mk (st := s_has_form) l15 c15 k15
  have b15 := F15.binds (ps := ["thing", "many"]) fun _ _ _ _ _ _ us hl => match us, hl with | [_, _], _ => rfl
  have F16 := fun_mk (st := s_is_count) l16 c16 k16
  have b16 := F16.binds (ps := ["thing"]) fun _ _ _ _ _ _ us hl => match us, hl with | [_], _ => rfl
  have F17 := fun_mk (st := s_parts_of) l17 c17 k17
  have b17 := F17.binds (ps := ["plan"]) fun _ _ _ _ _ _ us hl => match us, hl with | [_], _ => rfl
  have F18 := fun_mk (st := s_must_be_plan) l18 c18 k18
  have b18 := F18.binds (ps := ["thing", "many"]) fun _ _ _ _ _ _ us hl => match us, hl with | [_, _], _ => rfl
  have F19 := fun_mk (st := s_shape_of) l19 c19 k19
  have b19 := F19.binds (ps := ["d", "kinds", "plan"]) fun _ _ _ _ _ _ us hl => match us, hl with | [_, _, _], _ => rfl
  have F20 := fun_mk (st := s_mate_shape) l20 c20 k20
  have b20 := F20.binds (ps := ["d", "kinds", "plan"]) fun _ _ _ _ _ _ us hl => match us, hl with | [_, _, _], _ => rfl
  have F21 := fun_mk (st := s_made_of) l21 c21 k21
  have b21 := F21.binds (ps := ["d", "shapes", "plan"]) fun _ _ _ _ _ _ us hl => match us, hl with | [_, _, _], _ => rfl
  have F22 := fun_mk (st := s_sum_of) l22 c22 k22
  have b22 := F22.binds (ps := ["shapes"]) fun _ _ _ _ _ _ us hl => match us, hl with | [_], _ => rfl
  have F23 := fun_mk (st := s__law_bag) l23 c23 k23
  have b23 := F23.binds (ps := ["_law_script", "_law_at"]) fun _ _ _ _ _ _ us hl => match us, hl with | [_, _], _ => rfl
  have F24 := fun_mk (st := s__law_take) l24 c24 k24
  have b24 := F24.binds (ps := ["_law_bag_here", "_law_many"]) fun _ _ _ _ _ _ us hl => match us, hl with | [_, _], _ => rfl
  have F25 := fun_mk (st := s__law_is_whole) l25 c25 k25
  have b25 := F25.binds (ps := ["_law_thing"]) fun _ _ _ _ _ _ us hl => match us, hl with | [_], _ => rfl
  have F26 := fun_mk (st := s__law_shared) l26 c26 k26
  have b26 := F26.binds (ps := ["_law_one", "_law_other"]) fun _ _ _ _ _ _ us hl => match us, hl with | [_, _], _ => rfl
  have F27 := fun_mk (st := s__law_low) l27 c27 k27
  have b27 := F27.binds (ps := ["_law_a", "_law_b", "_law_c"]) fun _ _ _ _ _ _ us hl => match us, hl with | [_, _, _], _ => rfl
  have F28 := fun_mk (st := s__law_is_number) l28 c28 k28
  have b28 := F28.binds (ps := ["_law_thing"]) fun _ _ _ _ _ _ us hl => match us, hl with | [_], _ => rfl
  have F29 := fun_mk (st := s__law_plus) l29 c29 k29
  have b29 := F29.binds (ps := ["_law_x", "_law_y"]) fun _ _ _ _ _ _ us hl => match us, hl with | [_, _], _ => rfl
  have F30 := fun_mk (st := s__law_minus) l30 c30 k30
  have b30 := F30.binds (ps := ["_law_x"]) fun _ _ _ _ _ _ us hl => match us, hl with | [_], _ => rfl
  have F31 := fun_mk (st := s__law_mate) l31 c31 k31
  have b31 := F31.binds (ps := ["_law_x"]) fun _ _ _ _ _ _ us hl => match us, hl with | [_], _ => rfl
  have F32 := fun_mk (st := s__law_times) l32 c32 k32
  have b32 := F32.binds (ps := ["_law_d", "_law_x", "_law_y"]) fun _ _ _ _ _ _ us hl => match us, hl with | [_, _, _], _ => rfl
  have F33 := fun_mk (st := s__law_contrary) l33 c33 k33
  have b33 := F33.binds (ps := ["_law_d", "_law_x"]) fun _ _ _ _ _ _ us hl => match us, hl with | [_, _], _ => rfl
  have F34 := fun_mk (st := s__law_sign) l34 c34 k34
  have b34 := F34.binds (ps := ["_law_d", "_law_x"]) fun _ _ _ _ _ _ us hl => match us, hl with | [_, _], _ => rfl
  have F35 := fun_mk (st := s__law_root) l35 c35 k35
  have b35 := F35.binds (ps := ["_law_bag_here"]) fun _ _ _ _ _ _ us hl => match us, hl with | [_], _ => rfl
  have F36 := fun_mk (st := s__law_number) l36 c36 k36
  have b36 := F36.binds (ps := ["_law_bag_here"]) fun _ _ _ _ _ _ us hl => match us, hl with | [_], _ => rfl
  have F37 := fun_mk (st := s__law_above) l37 c37 k37
  have b37 := F37.binds (ps := ["_law_bag_here", "_law_d"]) fun _ _ _ _ _ _ us hl => match us, hl with | [_, _], _ => rfl
  have F38 := fun_mk (st := s__law_kinds) l38 c38 k38
  have b38 := F38.binds (ps := ["_law_bag_here", "_law_d"]) fun _ _ _ _ _ _ us hl => match us, hl with | [_, _], _ => rfl
  have F39 := fun_mk (st := s__law_grid_size) l39 c39 k39
  have b39 := F39.binds (ps := ["_law_bag_here"]) fun _ _ _ _ _ _ us hl => match us, hl with | [_], _ => rfl
  have F40 := fun_mk (st := s__law_plan) l40 c40 k40
  have b40 := F40.binds (ps := ["_law_bag_here", "_law_many"]) fun _ _ _ _ _ _ us hl => match us, hl with | [_, _], _ => rfl
  have F41 := fun_mk (st := s__law_sum) l41 c41 k41
  have b41 := F41.binds (ps := ["_law_some"]) fun _ _ _ _ _ _ us hl => match us, hl with | [_], _ => rfl
  have F42 := fun_mk (st := s__law_shape) l42 c42 k42
  have b42 := F42.binds (ps := ["_law_d", "_law_kinds_here", "_law_plan_here"]) fun _ _ _ _ _ _ us hl => match us, hl with | [_, _, _], _ => rfl
  have F43 := fun_mk (st := s__law_plans_in) l43 c43 k43
  have b43 := F43.binds (ps := ["_law_thing", "_law_many", "_law_deep"]) fun _ _ _ _ _ _ us hl => match us, hl with | [_, _, _], _ => rfl
  have F44 := fun_mk (st := s__law_is_a_plan) l44 c44 k44
  have b44 := F44.binds (ps := ["_law_thing", "_law_many"]) fun _ _ _ _ _ _ us hl => match us, hl with | [_, _], _ => rfl
  have F45 := fun_mk (st := s__law_few_figures) l45 c45 k45
  have b45 := F45.binds (ps := ["_law_bag_here", "_law_d", "_law_kinds_here", "_law_plan_here"]) fun _ _ _ _ _ _ us hl => match us, hl with | [_, _, _, _], _ => rfl
  have F46 := fun_mk (st := s_law) l46 c46 k46
  have b46 := F46.binds (ps := ["_law_script"]) fun _ _ _ _ _ _ us hl => match us, hl with | [_], _ => rfl
  have T : Txt K mg ⟨f0, PySem.W.fnOf "is_whole" "is_whole" (defArgs s_is_whole) (defBody s_is_whole) (defScope s_is_whole) .none kV0 dc0 pm0 an0 cd0 ct0, f1, PySem.W.fnOf "common_divisor" "common_divisor" (defArgs s_common_divisor) (defBody s_common_divisor) (defScope s_common_divisor) .none kV1 dc1 pm1 an1 cd1 ct1, f2, PySem.W.fnOf "is_number" "is_number" (defArgs s_is_number) (defBody s_is_number) (defScope s_is_number) .none kV2 dc2 pm2 an2 cd2 ct2, f3, PySem.W.fnOf "divisor_of_all" "divisor_of_all" (defArgs s_divisor_of_all) (defBody s_divisor_of_all) (defScope s_divisor_of_all) .none kV3 dc3 pm3 an3 cd3 ct3, f4, PySem.W.fnOf "number" "number" (defArgs s_number) (defBody s_number) (defScope s_number) .none kV4 dc4 pm4 an4 cd4 ct4, f5, PySem.W.fnOf "mate" "mate" (defArgs s_mate) (defBody s_mate) (defScope s_mate) .none kV5 dc5 pm5 an5 cd5 ct5, f6, PySem.W.fnOf "plus" "plus" (defArgs s_plus) (defBody s_plus) (defScope s_plus) .none kV6 dc6 pm6 an6 cd6 ct6, f7, PySem.W.fnOf "times" "times" (defArgs s_times) (defBody s_times) (defScope s_times) .none kV7 dc7 pm7 an7 cd7 ct7, f8, PySem.W.fnOf "contrary" "contrary" (defArgs s_contrary) (defBody s_contrary) (defScope s_contrary) .none kV8 dc8 pm8 an8 cd8 ct8, f9, PySem.W.fnOf "sign_of" "sign_of" (defArgs s_sign_of) (defBody s_sign_of) (defScope s_sign_of) .none kV9 dc9 pm9 an9 cd9 ct9, f10, PySem.W.fnOf "sign_of_parts" "sign_of_parts" (defArgs s_sign_of_parts) (defBody s_sign_of_parts) (defScope s_sign_of_parts) .none kV10 dc10 pm10 an10 cd10 ct10, f11, PySem.W.fnOf "is_above_nought" "is_above_nought" (defArgs s_is_above_nought) (defBody s_is_above_nought) (defScope s_is_above_nought) .none kV11 dc11 pm11 an11 cd11 ct11, f12, PySem.W.fnOf "is_kinds" "is_kinds" (defArgs s_is_kinds) (defBody s_is_kinds) (defScope s_is_kinds) .none kV12 dc12 pm12 an12 cd12 ct12, f13, PySem.W.fnOf "must_be_kinds" "must_be_kinds" (defArgs s_must_be_kinds) (defBody s_must_be_kinds) (defScope s_must_be_kinds) .none kV13 dc13 pm13 an13 cd13 ct13, f14, PySem.W.fnOf "is_plan" "is_plan" (defArgs s_is_plan) (defBody s_is_plan) (defScope s_is_plan) .none kV14 dc14 pm14 an14 cd14 ct14, f15, PySem.W.fnOf "has_form" "has_form" (defArgs s_has_form) (defBody s_has_form) (defScope s_has_form) .none kV15 dc15 pm15 an15 cd15 ct15, f16, PySem.W.fnOf "is_count" "is_count" (defArgs s_is_count) (defBody s_is_count) (defScope s_is_count) .none kV16 dc16 pm16 an16 cd16 ct16, f17, PySem.W.fnOf "parts_of" "parts_of" (defArgs s_parts_of) (defBody s_parts_of) (defScope s_parts_of) .none kV17 dc17 pm17 an17 cd17 ct17, f18, PySem.W.fnOf "must_be_plan" "must_be_plan" (defArgs s_must_be_plan) (defBody s_must_be_plan) (defScope s_must_be_plan) .none kV18 dc18 pm18 an18 cd18 ct18, f19, PySem.W.fnOf "shape_of" "shape_of" (defArgs s_shape_of) (defBody s_shape_of) (defScope s_shape_of) .none kV19 dc19 pm19 an19 cd19 ct19, f20, PySem.W.fnOf "mate_shape" "mate_shape" (defArgs s_mate_shape) (defBody s_mate_shape) (defScope s_mate_shape) .none kV20 dc20 pm20 an20 cd20 ct20, f21, PySem.W.fnOf "made_of" "made_of" (defArgs s_made_of) (defBody s_made_of) (defScope s_made_of) .none kV21 dc21 pm21 an21 cd21 ct21, f22, PySem.W.fnOf "sum_of" "sum_of" (defArgs s_sum_of) (defBody s_sum_of) (defScope s_sum_of) .none kV22 dc22 pm22 an22 cd22 ct22, f23, PySem.W.fnOf "_law_bag" "_law_bag" (defArgs s__law_bag) (defBody s__law_bag) (defScope s__law_bag) .none kV23 dc23 pm23 an23 cd23 ct23, f24, PySem.W.fnOf "_law_take" "_law_take" (defArgs s__law_take) (defBody s__law_take) (defScope s__law_take) .none kV24 dc24 pm24 an24 cd24 ct24, f25, PySem.W.fnOf "_law_is_whole" "_law_is_whole" (defArgs s__law_is_whole) (defBody s__law_is_whole) (defScope s__law_is_whole) .none kV25 dc25 pm25 an25 cd25 ct25, f26, PySem.W.fnOf "_law_shared" "_law_shared" (defArgs s__law_shared) (defBody s__law_shared) (defScope s__law_shared) .none kV26 dc26 pm26 an26 cd26 ct26, f27, PySem.W.fnOf "_law_low" "_law_low" (defArgs s__law_low) (defBody s__law_low) (defScope s__law_low) .none kV27 dc27 pm27 an27 cd27 ct27, f28, PySem.W.fnOf "_law_is_number" "_law_is_number" (defArgs s__law_is_number) (defBody s__law_is_number) (defScope s__law_is_number) .none kV28 dc28 pm28 an28 cd28 ct28, f29, PySem.W.fnOf "_law_plus" "_law_plus" (defArgs s__law_plus) (defBody s__law_plus) (defScope s__law_plus) .none kV29 dc29 pm29 an29 cd29 ct29, f30, PySem.W.fnOf "_law_minus" "_law_minus" (defArgs s__law_minus) (defBody s__law_minus) (defScope s__law_minus) .none kV30 dc30 pm30 an30 cd30 ct30, f31, PySem.W.fnOf "_law_mate" "_law_mate" (defArgs s__law_mate) (defBody s__law_mate) (defScope s__law_mate) .none kV31 dc31 pm31 an31 cd31 ct31, f32, PySem.W.fnOf "_law_times" "_law_times" (defArgs s__law_times) (defBody s__law_times) (defScope s__law_times) .none kV32 dc32 pm32 an32 cd32 ct32, f33, PySem.W.fnOf "_law_contrary" "_law_contrary" (defArgs s__law_contrary) (defBody s__law_contrary) (defScope s__law_contrary) .none kV33 dc33 pm33 an33 cd33 ct33, f34, PySem.W.fnOf "_law_sign" "_law_sign" (defArgs s__law_sign) (defBody s__law_sign) (defScope s__law_sign) .none kV34 dc34 pm34 an34 cd34 ct34, f35, PySem.W.fnOf "_law_root" "_law_root" (defArgs s__law_root) (defBody s__law_root) (defScope s__law_root) .none kV35 dc35 pm35 an35 cd35 ct35, f36, PySem.W.fnOf "_law_number" "_law_number" (defArgs s__law_number) (defBody s__law_number) (defScope s__law_number) .none kV36 dc36 pm36 an36 cd36 ct36, f37, PySem.W.fnOf "_law_above" "_law_above" (defArgs s__law_above) (defBody s__law_above) (defScope s__law_above) .none kV37 dc37 pm37 an37 cd37 ct37, f38, PySem.W.fnOf "_law_kinds" "_law_kinds" (defArgs s__law_kinds) (defBody s__law_kinds) (defScope s__law_kinds) .none kV38 dc38 pm38 an38 cd38 ct38, f39, PySem.W.fnOf "_law_grid_size" "_law_grid_size" (defArgs s__law_grid_size) (defBody s__law_grid_size) (defScope s__law_grid_size) .none kV39 dc39 pm39 an39 cd39 ct39, f40, PySem.W.fnOf "_law_plan" "_law_plan" (defArgs s__law_plan) (defBody s__law_plan) (defScope s__law_plan) .none kV40 dc40 pm40 an40 cd40 ct40, f41, PySem.W.fnOf "_law_sum" "_law_sum" (defArgs s__law_sum) (defBody s__law_sum) (defScope s__law_sum) .none kV41 dc41 pm41 an41 cd41 ct41, f42, PySem.W.fnOf "_law_shape" "_law_shape" (defArgs s__law_shape) (defBody s__law_shape) (defScope s__law_shape) .none kV42 dc42 pm42 an42 cd42 ct42, f43, PySem.W.fnOf "_law_plans_in" "_law_plans_in" (defArgs s__law_plans_in) (defBody s__law_plans_in) (defScope s__law_plans_in) .none kV43 dc43 pm43 an43 cd43 ct43, f44, PySem.W.fnOf "_law_is_a_plan" "_law_is_a_plan" (defArgs s__law_is_a_plan) (defBody s__law_is_a_plan) (defScope s__law_is_a_plan) .none kV44 dc44 pm44 an44 cd44 ct44, f45, PySem.W.fnOf "_law_few_figures" "_law_few_figures" (defArgs s__law_few_figures) (defBody s__law_few_figures) (defScope s__law_few_figures) .none kV45 dc45 pm45 an45 cd45 ct45, fa, PySem.W.fnOf "law" "law" (defArgs s_law) (defBody s_law) (defScope s_law) .none kV46 dc46 pm46 an46 cd46 ct46, q0, q1, q2, q3, q4, g5⟩ := ⟨F0, PySem.W.mg_of X G a0, k0, b0, F1, PySem.W.mg_of X G a1, k1, b1, F2, PySem.W.mg_of X G a2, k2, b2, F3, PySem.W.mg_of X G a3, k3, b3, F4, PySem.W.mg_of X G a4, k4, b4, F5, PySem.W.mg_of X G a5, k5, b5, F6, PySem.W.mg_of X G a6, k6, b6, F7, PySem.W.mg_of X G a7, k7, b7, F8, PySem.W.mg_of X G a8, k8, b8, F9, PySem.W.mg_of X G a9, k9, b9, F10, PySem.W.mg_of X G a10, k10, b10, F11, PySem.W.mg_of X G a11, k11, b11, F12, PySem.W.mg_of X G a12, k12, b12, F13, PySem.W.mg_of X G a13, k13, b13, F14, PySem.W.mg_of X G a14, k14, b14, F15, PySem.W.mg_of X G a15, k15, b15, F16, PySem.W.mg_of X G a16, k16, b16, F17, PySem.W.mg_of X G a17, k17, b17, F18, PySem.W.mg_of X G a18, k18, b18, F19, PySem.W.mg_of X G a19, k19, b19, F20, PySem.W.mg_of X G a20, k20, b20, F21, PySem.W.mg_of X G a21, k21, b21, F22, PySem.W.mg_of X G a22, k22, b22, F23, PySem.W.mg_of X G a23, k23, b23, F24, PySem.W.mg_of X G a24, k24, b24, F25, PySem.W.mg_of X G a25, k25, b25, F26, PySem.W.mg_of X G a26, k26, b26, F27, PySem.W.mg_of X G a27, k27, b27, F28, PySem.W.mg_of X G a28, k28, b28, F29, PySem.W.mg_of X G a29, k29, b29, F30, PySem.W.mg_of X G a30, k30, b30, F31, PySem.W.mg_of X G a31, k31, b31, F32, PySem.W.mg_of X G a32, k32, b32, F33, PySem.W.mg_of X G a33, k33, b33, F34, PySem.W.mg_of X G a34, k34, b34, F35, PySem.W.mg_of X G a35, k35, b35, F36, PySem.W.mg_of X G a36, k36, b36, F37, PySem.W.mg_of X G a37, k37, b37, F38, PySem.W.mg_of X G a38, k38, b38, F39, PySem.W.mg_of X G a39, k39, b39, F40, PySem.W.mg_of X G a40, k40, b40, F41, PySem.W.mg_of X G a41, k41, b41, F42, PySem.W.mg_of X G a42, k42, b42, F43, PySem.W.mg_of X G a43, k43, b43, F44, PySem.W.mg_of X G a44, k44, b44, F45, PySem.W.mg_of X G a45, k45, b45, F46, PySem.W.mg_of X G a46, k46, b46, PySem.W.mg_none_of X G z0, PySem.W.mg_none_of X G z1, PySem.W.mg_none_of X G z2, PySem.W.mg_none_of X G z3, PySem.W.mg_none_of X G z4, PySem.W.mg_none_of X G z5, PySem.W.mg_none_of X G z6, PySem.W.mg_none_of X G z7, PySem.W.mg_none_of X G z8, PySem.W.mg_none_of X G z9, PySem.W.mg_none_of X G z10, PySem.W.mg_none_of X G z11, PySem.W.mg_of X G v0, PySem.W.mg_of X G v1, PySem.W.mg_of X G v2, PySem.W.mg_of X G v3, PySem.W.mg_of X G v4, ⟨PySem.W.mg_of X G v5, ⟨_, _, _, _, _, _, w5⟩⟩⟩
  exact ⟨_, fun s v => .of_eq rfl, fun base _ _ => ok_all T⟩
theorem walk {l : PySem.W.OpenLaw} {q : Program} {loose : List Str} {XP : (Str → Option Value) → Heap → Prop} {YP : World → Heap → Prop} {d : DefRec} {K : Params → PySem.W.Frag} (hn : l.most = some 63) (hdf : d.params.defaults = [])
    (hY : ∀ (w : World) (h : Heap), YP w h → (K w.params).In h)
    (F : ∀ (w : World) (mg : Str → Option Value) (fa : Addr) (h : Heap), (K w.params).In h → h.Ns mainGlobals mg → mg d.name = some (.ref fa) →
      ∃ fd : FuncData, (∀ (s : Shared) (u : Value), BindsTo s fd ⟨[u], []⟩ [("_law_script", u)]) ∧ ∀ base : Heap, (K w.params).In base → base.Ns mainGlobals mg → FnOk l.prog w (K w.params) mg base CX0 35 fa fd ["_law_script"] (spD (K w.params) spLaw)) :
    PySem.W.WalkO q loose XP YP l.row.toRowW d [] (fun f vs => PySem.call f vs) :=
  L2.walk_of (n := 63) (k := 35) (x := "_law_script") (CX := fun _ => CX0) (sp := fun w => spD (K w.params) spLaw) hn (by decide) hdf ⟨rfl, by decide, by decide⟩ hY F (fun w H a ns hl ho hS => law_start hl hS) fun _ _ _ _ _ z => z
end K23
open PySem PySem.W PyProof.Rows in
set_option maxRecDepth 100000 in
set_option maxHeartbeats 0 in
theorem PySem.Challenge.cw_matefloors_k23_shapes_of_plans_holds : PySem.Challenge.rw_matefloors_k23_shapes_of_plans.Holds :=
  holds_law K23.H.ws fun said => holds_open (XP := XL K23.H.V []) (YP := K23.H.HK.says) (d := K23.H.D) (kwd := []) K23.H.left K23.H.HK.of K23.H.HK.keeps (fun s e => xl_of s (Bool.and_eq_true_iff.mp e).1) XL.keeps (by kernel_rfl) (by kernel_rfl) (by kernel_rfl)
    (fun s e => recFacts_of (Bool.and_eq_true_iff.mp e).2) (by kernel_rfl) said (by kernel_rfl) ⟨by kernel_rfl, by kernel_rfl, by kernel_rfl, by kernel_rfl, by kernel_rfl, by kernel_rfl⟩ ⟨[.list []], by kernel_rfl, by kernel_rfl⟩
    (K23.walk (l := PySem.Challenge.rw_matefloors_k23_shapes_of_plans) (K := K23.H.K) (by kernel_rfl) (by kernel_rfl) (fun w h Y => Y) fun w mg fa h KX G hmg => by
      have h := K23.H.facts w.params
      exact K23.all_mk KX G hmg (f0 := 71) (od0 := none) (an0 := none) (sl0 := #[]) (oc0 := .type "function") (kV0 := .none) (dc0 := .none) (pm0 := .str "matefloors.numbers" 255) (cd0 := .ref 70) (ct0 := .none) (f1 := 78) (od1 := none) (an1 := none) (sl1 := #[]) (oc1 := .type "function") (kV1 := .none) (dc1 := .none) (pm1 := .str "matefloors.numbers" 255) (cd1 := .ref 77) (ct1 := .none) (f2 := 85) (od2 := none) (an2 := none) (sl2 := #[]) (oc2 := .type "function") (kV2 := .none) (dc2 := .none) (pm2 := .str "matefloors.numbers" 255) (cd2 := .ref 84) (ct2 := .none) (f3 := 92) (od3 := none) (an3 := none) (sl3 := #[]) (oc3 := .type "function") (kV3 := .none) (dc3 := .none) (pm3 := .str "matefloors.numbers" 255) (cd3 := .ref 91) (ct3 := .none) (f4 := 99) (od4 := none) (an4 := none) (sl4 := #[]) (oc4 := .type "function") (kV4 := .none) (dc4 := .none) (pm4 := .str "matefloors.numbers" 255) (cd4 := .ref 98) (ct4 := .none) (f5 := 106) (od5 := none) (an5 := none) (sl5 := #[]) (oc5 := .type "function") (kV5 := .none) (dc5 := .none) (pm5 := .str "matefloors.numbers" 255) (cd5 := .ref 105) (ct5 := .none) (f6 := 113) (od6 := none) (an6 := none) (sl6 := #[]) (oc6 := .type "function") (kV6 := .none) (dc6 := .none) (pm6 := .str "matefloors.numbers" 255) (cd6 := .ref 112) (ct6 := .none) (f7 := 120) (od7 := none) (an7 := none) (sl7 := #[]) (oc7 := .type "function") (kV7 := .none) (dc7 := .none) (pm7 := .str "matefloors.numbers" 255) (cd7 := .ref 119) (ct7 := .none) (f8 := 127) (od8 := none) (an8 := none) (sl8 := #[]) (oc8 := .type "function") (kV8 := .none) (dc8 := .none) (pm8 := .str "matefloors.numbers" 255) (cd8 := .ref 126) (ct8 := .none) (f9 := 134) (od9 := none) (an9 := none) (sl9 := #[]) (oc9 := .type "function") (kV9 := .none) (dc9 := .none) (pm9 := .str "matefloors.numbers" 255) (cd9 := .ref 133) (ct9 := .none) (f10 := 141) (od10 := none) (an10 := none) (sl10 := #[]) (oc10 := .type "function") (kV10 := .none) (dc10 := .none) (pm10 := .str "matefloors.numbers" 255) (cd10 := .ref 140) (ct10 := .none) (f11 := 148) (od11 := none) (an11 := none) (sl11 := #[]) (oc11 := .type "function") (kV11 := .none) (dc11 := .none) (pm11 := .str "matefloors.numbers" 255) (cd11 := .ref 147) (ct11 := .none) (f12 := 153) (od12 := none) (an12 := none) (sl12 := #[]) (oc12 := .type "function") (kV12 := .none) (dc12 := .none) (pm12 := .str "matefloors.layings" 364) (cd12 := .ref 152) (ct12 := .none) (f13 := 160) (od13 := none) (an13 := none) (sl13 := #[]) (oc13 := .type "function") (kV13 := .none) (dc13 := .none) (pm13 := .str "matefloors.layings" 364) (cd13 := .ref 159) (ct13 := .none) (f14 := 167) (od14 := none) (an14 := none) (sl14 := #[]) (oc14 := .type "function") (kV14 := .none) (dc14 := .none) (pm14 := .str "matefloors.plans" 382) (cd14 := .ref 166) (ct14 := .none) (f15 := 174) (od15 := none) (an15 := none) (sl15 := #[]) (oc15 := .type "function") (kV15 := .none) (dc15 := .none) (pm15 := .str "matefloors.plans" 382) (cd15 := .ref 173) (ct15 := .none) (f16 := 181) (od16 := none) (an16 := none) (sl16 := #[]) (oc16 := .type "function") (kV16 := .none) (dc16 := .none) (pm16 := .str "matefloors.plans" 382) (cd16 := .ref 180) (ct16 := .none) (f17 := 188) (od17 := none) (an17 := none) (sl17 := #[]) (oc17 := .type "function") (kV17 := .none) (dc17 := .none) (pm17 := .str "matefloors.plans" 382) (cd17 := .ref 187) (ct17 := .none) (f18 := 195) (od18 := none) (an18 := none) (sl18 := #[]) (oc18 := .type "function") (kV18 := .none) (dc18 := .none) (pm18 := .str "matefloors.plans" 382) (cd18 := .ref 194) (ct18 := .none) (f19 := 202) (od19 := none) (an19 := none) (sl19 := #[]) (oc19 := .type "function") (kV19 := .none) (dc19 := .none) (pm19 := .str "matefloors.plans" 382) (cd19 := .ref 201) (ct19 := .none) (f20 := 207) (od20 := none) (an20 := none) (sl20 := #[]) (oc20 := .type "function") (kV20 := .none) (dc20 := .none) (pm20 := .str "matefloors.plans" 382) (cd20 := .ref 206) (ct20 := .none) (f21 := 212) (od21 := none) (an21 := none) (sl21 := #[]) (oc21 := .type "function") (kV21 := .none) (dc21 := .none) (pm21 := .str "matefloors.plans" 382) (cd21 := .ref 211) (ct21 := .none) (f22 := 219) (od22 := none) (an22 := none) (sl22 := #[]) (oc22 := .type "function") (kV22 := .none) (dc22 := .none) (pm22 := .str "matefloors.plans" 382) (cd22 := .ref 218) (ct22 := .none) (f23 := 226) (od23 := none) (an23 := none) (sl23 := #[]) (oc23 := .type "function") (kV23 := .none) (dc23 := .none) (pm23 := .str "law_matefloors_k23_shapes_of_plans" 467) (cd23 := .ref 225) (ct23 := .none) (f24 := 233) (od24 := none) (an24 := none) (sl24 := #[]) (oc24 := .type "function") (kV24 := .none) (dc24 := .none) (pm24 := .str "law_matefloors_k23_shapes_of_plans" 467) (cd24 := .ref 232) (ct24 := .none) (f25 := 240) (od25 := none) (an25 := none) (sl25 := #[]) (oc25 := .type "function") (kV25 := .none) (dc25 := .none) (pm25 := .str "law_matefloors_k23_shapes_of_plans" 467) (cd25 := .ref 239) (ct25 := .none) (f26 := 247) (od26 := none) (an26 := none) (sl26 := #[]) (oc26 := .type "function") (kV26 := .none) (dc26 := .none) (pm26 := .str "law_matefloors_k23_shapes_of_plans" 467) (cd26 := .ref 246) (ct26 := .none) (f27 := 254) (od27 := none) (an27 := none) (sl27 := #[]) (oc27 := .type "function") (kV27 := .none) (dc27 := .none) (pm27 := .str "law_matefloors_k23_shapes_of_plans" 467) (cd27 := .ref 253) (ct27 := .none) (f28 := 259) (od28 := none) (an28 := none) (sl28 := #[]) (oc28 := .type "function") (kV28 := .none) (dc28 := .none) (pm28 := .str "law_matefloors_k23_shapes_of_plans" 467) (cd28 := .ref 258) (ct28 := .none) (f29 := 266) (od29 := none) (an29 := none) (sl29 := #[]) (oc29 := .type "function") (kV29 := .none) (dc29 := .none) (pm29 := .str "law_matefloors_k23_shapes_of_plans" 467) (cd29 := .ref 265) (ct29 := .none) (f30 := 273) (od30 := none) (an30 := none) (sl30 := #[]) (oc30 := .type "function") (kV30 := .none) (dc30 := .none) (pm30 := .str "law_matefloors_k23_shapes_of_plans" 467) (cd30 := .ref 272) (ct30 := .none) (f31 := 280) (od31 := none) (an31 := none) (sl31 := #[]) (oc31 := .type "function") (kV31 := .none) (dc31 := .none) (pm31 := .str "law_matefloors_k23_shapes_of_plans" 467) (cd31 := .ref 279) (ct31 := .none) (f32 := 287) (od32 := none) (an32 := none) (sl32 := #[]) (oc32 := .type "function") (kV32 := .none) (dc32 := .none) (pm32 := .str "law_matefloors_k23_shapes_of_plans" 467) (cd32 := .ref 286) (ct32 := .none) (f33 := 294) (od33 := none) (an33 := none) (sl33 := #[]) (oc33 := .type "function") (kV33 := .none) (dc33 := .none) (pm33 := .str "law_matefloors_k23_shapes_of_plans" 467) (cd33 := .ref 293) (ct33 := .none) (f34 := 301) (od34 := none) (an34 := none) (sl34 := #[]) (oc34 := .type "function") (kV34 := .none) (dc34 := .none) (pm34 := .str "law_matefloors_k23_shapes_of_plans" 467) (cd34 := .ref 300) (ct34 := .none) (f35 := 306) (od35 := none) (an35 := none) (sl35 := #[]) (oc35 := .type "function") (kV35 := .none) (dc35 := .none) (pm35 := .str "law_matefloors_k23_shapes_of_plans" 467) (cd35 := .ref 305) (ct35 := .none) (f36 := 313) (od36 := none) (an36 := none) (sl36 := #[]) (oc36 := .type "function") (kV36 := .none) (dc36 := .none) (pm36 := .str "law_matefloors_k23_shapes_of_plans" 467) (cd36 := .ref 312) (ct36 := .none) (f37 := 320) (od37 := none) (an37 := none) (sl37 := #[]) (oc37 := .type "function") (kV37 := .none) (dc37 := .none) (pm37 := .str "law_matefloors_k23_shapes_of_plans" 467) (cd37 := .ref 319) (ct37 := .none) (f38 := 327) (od38 := none) (an38 := none) (sl38 := #[]) (oc38 := .type "function") (kV38 := .none) (dc38 := .none) (pm38 := .str "law_matefloors_k23_shapes_of_plans" 467) (cd38 := .ref 326) (ct38 := .none) (f39 := 334) (od39 := none) (an39 := none) (sl39 := #[]) (oc39 := .type "function") (kV39 := .none) (dc39 := .none) (pm39 := .str "law_matefloors_k23_shapes_of_plans" 467) (cd39 := .ref 333) (ct39 := .none) (f40 := 339) (od40 := none) (an40 := none) (sl40 := #[]) (oc40 := .type "function") (kV40 := .none) (dc40 := .none) (pm40 := .str "law_matefloors_k23_shapes_of_plans" 467) (cd40 := .ref 338) (ct40 := .none) (f41 := 346) (od41 := none) (an41 := none) (sl41 := #[]) (oc41 := .type "function") (kV41 := .none) (dc41 := .none) (pm41 := .str "law_matefloors_k23_shapes_of_plans" 467) (cd41 := .ref 345) (ct41 := .none) (f42 := 351) (od42 := none) (an42 := none) (sl42 := #[]) (oc42 := .type "function") (kV42 := .none) (dc42 := .none) (pm42 := .str "law_matefloors_k23_shapes_of_plans" 467) (cd42 := .ref 350) (ct42 := .none) (f43 := 356) (od43 := none) (an43 := none) (sl43 := #[]) (oc43 := .type "function") (kV43 := .none) (dc43 := .none) (pm43 := .str "law_matefloors_k23_shapes_of_plans" 467) (cd43 := .ref 355) (ct43 := .none) (f44 := 363) (od44 := none) (an44 := none) (sl44 := #[]) (oc44 := .type "function") (kV44 := .none) (dc44 := .none) (pm44 := .str "law_matefloors_k23_shapes_of_plans" 467) (cd44 := .ref 362) (ct44 := .none) (f45 := 370) (od45 := none) (an45 := none) (sl45 := #[]) (oc45 := .type "function") (kV45 := .none) (dc45 := .none) (pm45 := .str "law_matefloors_k23_shapes_of_plans" 467) (cd45 := .ref 369) (ct45 := .none) (f46 := 377) (od46 := none) (an46 := none) (sl46 := #[]) (oc46 := .type "function") (kV46 := .none) (dc46 := .none) (pm46 := .str "law_matefloors_k23_shapes_of_plans" 467) (cd46 := .ref 376) (ct46 := .none) (q0 := 366) (q1 := 384) (q2 := 386) (q3 := 388) (q4 := 390) (g5 := 64) (go5 := none) (q5a := 257) (q5b := 258) (q5c := 259) (gn5 := 0) (gs5 := #[]) h.1.1 h.1.2.1 h.1.2.2.1 h.1.2.2.2 h.2.1.1 h.2.1.2.1 h.2.1.2.2.1 h.2.1.2.2.2 h.2.2.1.1 h.2.2.1.2.1 h.2.2.1.2.2.1 h.2.2.1.2.2.2 h.2.2.2.1.1 h.2.2.2.1.2.1 h.2.2.2.1.2.2.1 h.2.2.2.1.2.2.2 h.2.2.2.2.1.1 h.2.2.2.2.1.2.1 h.2.2.2.2.1.2.2.1 h.2.2.2.2.1.2.2.2 h.2.2.2.2.2.1.1 h.2.2.2.2.2.1.2.1 h.2.2.2.2.2.1.2.2.1 h.2.2.2.2.2.1.2.2.2 h.2.2.2.2.2.2.1.1 h.2.2.2.2.2.2.1.2.1 h.2.2.2.2.2.2.1.2.2.1 h.2.2.2.2.2.2.1.2.2.2 h.2.2.2.2.2.2.2.1.1 h.2.2.2.2.2.2.2.1.2.1 h.2.2.2.2.2.2.2.1.2.2.1 h.2.2.2.2.2.2.2.1.2.2.2 h.2.2.2.2.2.2.2.2.1.1 h.2.2.2.2.2.2.2.2.1.2.1 h.2.2.2.2.2.2.2.2.1.2.2.1 h.2.2.2.2.2.2.2.2.1.2.2.2 h.2.2.2.2.2.2.2.2.2.1.1 h.2.2.2.2.2.2.2.2.2.1.2.1 h.2.2.2.2.2.2.2.2.2.1.2.2.1 h.2.2.2.2.2.2.2.2.2.1.2.2.2 h.2.2.2.2.2.2.2.2.2.2.1.1 h.2.2.2.2.2.2.2.2.2.2.1.2.1 h.2.2.2.2.2.2.2.2.2.2.1.2.2.1 h.2.2.2.2.2.2.2.2.2.2.1.2.2.2 h.2.2.2.2.2.2.2.2.2.2.2.1.1 h.2.2.2.2.2.2.2.2.2.2.2.1.2.1 h.2.2.2.2.2.2.2.2.2.2.2.1.2.2.1 h.2.2.2.2.2.2.2.2.2.2.2.1.2.2.2 h.2.2.2.2.2.2.2.2.2.2.2.2.1.1 h.2.2.2.2.2.2.2.2.2.2.2.2.1.2.1 h.2.2.2.2.2.2.2.2.2.2.2.2.1.2.2.1 h.2.2.2.2.2.2.2.2.2.2.2.2.1.2.2.2 h.2.2.2.2.2.2.2.2.2.2.2.2.2.1.1 h.2.2.2.2.2.2.2.2.2.2.2.2.2.1.2.1 h.2.2.2.2.2.2.2.2.2.2.2.2.2.1.2.2.1 h.2.2.2.2.2.2.2.2.2.2.2.2.2.1.2.2.2 h.2.2.2.2.2.2.2.2.2.2.2.2.2.2.1.1 h.2.2.2.2.2.2.2.2.2.2.2.2.2.2.1.2.1 h.2.2.2.2.2.2.2.2.2.2.2.2.2.2.1.2.2.1 h.2.2.2.2.2.2.2.2.2.2.2.2.2.2.1.2.2.2 h.2.2.2.2.2.2.2.2.2.2.2.2.2.2.2.1.1 h.2.2.2.2.2.2.2.2.2.2.2.2.2.2.2.1.2.1 h.2.2.2.2.2.2.2.2.2.2.2.2.2.2.2.1.2.2.1 h.2.2.2.2.2.2.2.2.2.2.2.2.2.2.2.1.2.2.2 h.2.2.2.2.2.2.2.2.2.2.2.2.2.2.2.2.1.1 h.2.2.2.2.2.2.2.2.2.2.2.2.2.2.2.2.1.2.1 h.2.2.2.2.2.2.2.2.2.2.2.2.2.2.2.2.1.2.2.1 h.2.2.2.2.2.2.2.2.2.2.2.2.2.2.2.2.1.2.2.2 h.2.2.2.2.2.2.2.2.2.2.2.2.2.2.2.2.2.1.1 h.2.2.2.2.2.2.2.2.2.2.2.2.2.2.2.2.2.1.2.1 h.2.2.2.2.2.2.2.2.2.2.2.2.2.2.2.2.2.1.2.2.1 h.2.2.2.2.2.2.2.2.2.2.2.2.2.2.2.2.2.1.2.2.2 h.2.2.2.2.2.2.2.2.2.2.2.2.2.2.2.2.2.2.1.1 h.2.2.2.2.2.2.2.2.2.2.2.2.2.2.2.2.2.2.1.2.1 h.2.2.2.2.2.2.2.2.2.2.2.2.2.2.2.2.2.2.1.2.2.1 h.2.2.2.2.2.2.2.2.2.2.2.2.2.2.2.2.2.2.1.2.2.2 h.2.2.2.2.2.2.2.2.2.2.2.2.2.2.2.2.2.2.2.1.1 h.2.2.2.2.2.2.2.2.2.2.2.2.2.2.2.2.2.2.2.1.2.1 h.2.2.2.2.2.2.2.2.2.2.2.2.2.2.2.2.2.2.2.1.2.2.1 h.2.2.2.2.2.2.2.2.2.2.2.2.2.2.2.2.2.2.2.1.2.2.2 h.2.2.2.2.2.2.2.2.2.2.2.2.2.2.2.2.2.2.2.2.1.1 h.2.2.2.2.2.2.2.2.2.2.2.2.2.2.2.2.2.2.2.2.1.2.1 h.2.2.2.2.2.2.2.2.2.2.2.2.2.2.2.2.2.2.2.2.1.2.2.1 h.2.2.2.2.2.2.2.2.2.2.2.2.2.2.2.2.2.2.2.2.1.2.2.2 h.2.2.2.2.2.2.2.2.2.2.2.2.2.2.2.2.2.2.2.2.2.1.1 h.2.2.2.2.2.2.2.2.2.2.2.2.2.2.2.2.2.2.2.2.2.1.2.1 h.2.2.2.2.2.2.2.2.2.2.2.2.2.2.2.2.2.2.2.2.2.1.2.2.1 h.2.2.2.2.2.2.2.2.2.2.2.2.2.2.2.2.2.2.2.2.2.1.2.2.2 h.2.2.2.2.2.2.2.2.2.2.2.2.2.2.2.2.2.2.2.2.2.2.1.1 h.2.2.2.2.2.2.2.2.2.2.2.2.2.2.2.2.2.2.2.2.2.2.1.2.1 h.2.2.2.2.2.2.2.2.2.2.2.2.2.2.2.2.2.2.2.2.2.2.1.2.2.1 h.2.2.2.2.2.2.2.2.2.2.2.2.2.2.2.2.2.2.2.2.2.2.1.2.2.2 h.2.2.2.2.2.2.2.2.2.2.2.2.2.2.2.2.2.2.2.2.2.2.2.1.1 h.2.2.2.2.2.2.2.2.2.2.2.2.2.2.2.2.2.2.2.2.2.2.2.1.2.1 h.2.2.2.2.2.2.2.2.2.2.2.2.2.2.2.2.2.2.2.2.2.2.2.1.2.2.1 h.2.2.2.2.2.2.2.2.2.2.2.2.2.2.2.2.2.2.2.2.2.2.2.1.2.2.2 h.2.2.2.2.2.2.2.2.2.2.2.2.2.2.2.2.2.2.2.2.2.2.2.2.1.1 h.2.2.2.2.2.2.2.2.2.2.2.2.2.2.2.2.2.2.2.2.2.2.2.2.1.2.1 h.2.2.2.2.2.2.2.2.2.2.2.2.2.2.2.2.2.2.2.2.2.2.2.2.1.2.2.1 h.2.2.2.2.2.2.2.2.2.2.2.2.2.2.2.2.2.2.2.2.2.2.2.2.1.2.2.2 h.2.2.2.2.2.2.2.2.2.2.2.2.2.2.2.2.2.2.2.2.2.2.2.2.2.1.1 h.2.2.2.2.2.2.2.2.2.2.2.2.2.2.2.2.2.2.2.2.2.2.2.2.2.1.2.1 h.2.2.2.2.2.2.2.2.2.2.2.2.2.2.2.2.2.2.2.2.2.2.2.2.2.1.2.2.1 h.2.2.2.2.2.2.2.2.2.2.2.2.2.2.2.2.2.2.2.2.2.2.2.2.2.1.2.2.2 h.2.2.2.2.2.2.2.2.2.2.2.2.2.2.2.2.2.2.2.2.2.2.2.2.2.2.1.1 h.2.2.2.2.2.2.2.2.2.2.2.2.2.2.2.2.2.2.2.2.2.2.2.2.2.2.1.2.1 h.2.2.2.2.2.2.2.2.2.2.2.2.2.2.2.2.2.2.2.2.2.2.2.2.2.2.1.2.2.1 h.2.2.2.2.2.2.2.2.2.2.2.2.2.2.2.2.2.2.2.2.2.2.2.2.2.2.1.2.2.2 h.2.2.2.2.2.2.2.2.2.2.2.2.2.2.2.2.2.2.2.2.2.2.2.2.2.2.2.1.1 h.2.2.2.2.2.2.2.2.2.2.2.2.2.2.2.2.2.2.2.2.2.2.2.2.2.2.2.1.2.1 h.2.2.2.2.2.2.2.2.2.2.2.2.2.2.2.2.2.2.2.2.2.2.2.2.2.2.2.1.2.2.1 h.2.2.2.2.2.2.2.2.2.2.2.2.2.2.2.2.2.2.2.2.2.2.2.2.2.2.2.1.2.2.2 h.2.2.2.2.2.2.2.2.2.2.2.2.2.2.2.2.2.2.2.2.2.2.2.2.2.2.2.2.1.1 h.2.2.2.2.2.2.2.2.2.2.2.2.2.2.2.2.2.2.2.2.2.2.2.2.2.2.2.2.1.2.1 h.2.2.2.2.2.2.2.2.2.2.2.2.2.2.2.2.2.2.2.2.2.2.2.2.2.2.2.2.1.2.2.1 h.2.2.2.2.2.2.2.2.2.2.2.2.2.2.2.2.2.2.2.2.2.2.2.2.2.2.2.2.1.2.2.2 h.2.2.2.2.2.2.2.2.2.2.2.2.2.2.2.2.2.2.2.2.2.2.2.2.2.2.2.2.2.1.1 h.2.2.2.2.2.2.2.2.2.2.2.2.2.2.2.2.2.2.2.2.2.2.2.2.2.2.2.2.2.1.2.1 h.2.2.2.2.2.2.2.2.2.2.2.2.2.2.2.2.2.2.2.2.2.2.2.2.2.2.2.2.2.1.2.2.1 h.2.2.2.2.2.2.2.2.2.2.2.2.2.2.2.2.2.2.2.2.2.2.2.2.2.2.2.2.2.1.2.2.2 h.2.2.2.2.2.2.2.2.2.2.2.2.2.2.2.2.2.2.2.2.2.2.2.2.2.2.2.2.2.2.1.1 h.2.2.2.2.2.2.2.2.2.2.2.2.2.2.2.2.2.2.2.2.2.2.2.2.2.2.2.2.2.2.1.2.1 h.2.2.2.2.2.2.2.2.2.2.2.2.2.2.2.2.2.2.2.2.2.2.2.2.2.2.2.2.2.2.1.2.2.1 h.2.2.2.2.2.2.2.2.2.2.2.2.2.2.2.2.2.2.2.2.2.2.2.2.2.2.2.2.2.2.1.2.2.2 h.2.2.2.2.2.2.2.2.2.2.2.2.2.2.2.2.2.2.2.2.2.2.2.2.2.2.2.2.2.2.2.1.1 h.2.2.2.2.2.2.2.2.2.2.2.2.2.2.2.2.2.2.2.2.2.2.2.2.2.2.2.2.2.2.2.1.2.1 h.2.2.2.2.2.2.2.2.2.2.2.2.2.2.2.2.2.2.2.2.2.2.2.2.2.2.2.2.2.2.2.1.2.2.1 h.2.2.2.2.2.2.2.2.2.2.2.2.2.2.2.2.2.2.2.2.2.2.2.2.2.2.2.2.2.2.2.1.2.2.2 h.2.2.2.2.2.2.2.2.2.2.2.2.2.2.2.2.2.2.2.2.2.2.2.2.2.2.2.2.2.2.2.2.1.1 h.2.2.2.2.2.2.2.2.2.2.2.2.2.2.2.2.2.2.2.2.2.2.2.2.2.2.2.2.2.2.2.2.1.2.1 h.2.2.2.2.2.2.2.2.2.2.2.2.2.2.2.2.2.2.2.2.2.2.2.2.2.2.2.2.2.2.2.2.1.2.2.1 h.2.2.2.2.2.2.2.2.2.2.2.2.2.2.2.2.2.2.2.2.2.2.2.2.2.2.2.2.2.2.2.2.1.2.2.2 h.2.2.2.2.2.2.2.2.2.2.2.2.2.2.2.2.2.2.2.2.2.2.2.2.2.2.2.2.2.2.2.2.2.1.1 h.2.2.2.2.2.2.2.2.2.2.2.2.2.2.2.2.2.2.2.2.2.2.2.2.2.2.2.2.2.2.2.2.2.1.2.1 h.2.2.2.2.2.2.2.2.2.2.2.2.2.2.2.2.2.2.2.2.2.2.2.2.2.2.2.2.2.2.2.2.2.1.2.2.1 h.2.2.2.2.2.2.2.2.2.2.2.2.2.2.2.2.2.2.2.2.2.2.2.2.2.2.2.2.2.2.2.2.2.1.2.2.2 h.2.2.2.2.2.2.2.2.2.2.2.2.2.2.2.2.2.2.2.2.2.2.2.2.2.2.2.2.2.2.2.2.2.2.1.1 h.2.2.2.2.2.2.2.2.2.2.2.2.2.2.2.2.2.2.2.2.2.2.2.2.2.2.2.2.2.2.2.2.2.2.1.2.1 h.2.2.2.2.2.2.2.2.2.2.2.2.2.2.2.2.2.2.2.2.2.2.2.2.2.2.2.2.2.2.2.2.2.2.1.2.2.1 h.2.2.2.2.2.2.2.2.2.2.2.2.2.2.2.2.2.2.2.2.2.2.2.2.2.2.2.2.2.2.2.2.2.2.1.2.2.2 h.2.2.2.2.2.2.2.2.2.2.2.2.2.2.2.2.2.2.2.2.2.2.2.2.2.2.2.2.2.2.2.2.2.2.2.1.1 h.2.2.2.2.2.2.2.2.2.2.2.2.2.2.2.2.2.2.2.2.2.2.2.2.2.2.2.2.2.2.2.2.2.2.2.1.2.1 h.2.2.2.2.2.2.2.2.2.2.2.2.2.2.2.2.2.2.2.2.2.2.2.2.2.2.2.2.2.2.2.2.2.2.2.1.2.2.1 h.2.2.2.2.2.2.2.2.2.2.2.2.2.2.2.2.2.2.2.2.2.2.2.2.2.2.2.2.2.2.2.2.2.2.2.1.2.2.2 h.2.2.2.2.2.2.2.2.2.2.2.2.2.2.2.2.2.2.2.2.2.2.2.2.2.2.2.2.2.2.2.2.2.2.2.2.1.1 h.2.2.2.2.2.2.2.2.2.2.2.2.2.2.2.2.2.2.2.2.2.2.2.2.2.2.2.2.2.2.2.2.2.2.2.2.1.2.1 h.2.2.2.2.2.2.2.2.2.2.2.2.2.2.2.2.2.2.2.2.2.2.2.2.2.2.2.2.2.2.2.2.2.2.2.2.1.2.2.1 h.2.2.2.2.2.2.2.2.2.2.2.2.2.2.2.2.2.2.2.2.2.2.2.2.2.2.2.2.2.2.2.2.2.2.2.2.1.2.2.2 h.2.2.2.2.2.2.2.2.2.2.2.2.2.2.2.2.2.2.2.2.2.2.2.2.2.2.2.2.2.2.2.2.2.2.2.2.2.1.1 h.2.2.2.2.2.2.2.2.2.2.2.2.2.2.2.2.2.2.2.2.2.2.2.2.2.2.2.2.2.2.2.2.2.2.2.2.2.1.2.1 h.2.2.2.2.2.2.2.2.2.2.2.2.2.2.2.2.2.2.2.2.2.2.2.2.2.2.2.2.2.2.2.2.2.2.2.2.2.1.2.2.1 h.2.2.2.2.2.2.2.2.2.2.2.2.2.2.2.2.2.2.2.2.2.2.2.2.2.2.2.2.2.2.2.2.2.2.2.2.2.1.2.2.2 h.2.2.2.2.2.2.2.2.2.2.2.2.2.2.2.2.2.2.2.2.2.2.2.2.2.2.2.2.2.2.2.2.2.2.2.2.2.2.1.1 h.2.2.2.2.2.2.2.2.2.2.2.2.2.2.2.2.2.2.2.2.2.2.2.2.2.2.2.2.2.2.2.2.2.2.2.2.2.2.1.2.1 h.2.2.2.2.2.2.2.2.2.2.2.2.2.2.2.2.2.2.2.2.2.2.2.2.2.2.2.2.2.2.2.2.2.2.2.2.2.2.1.2.2.1 h.2.2.2.2.2.2.2.2.2.2.2.2.2.2.2.2.2.2.2.2.2.2.2.2.2.2.2.2.2.2.2.2.2.2.2.2.2.2.1.2.2.2 h.2.2.2.2.2.2.2.2.2.2.2.2.2.2.2.2.2.2.2.2.2.2.2.2.2.2.2.2.2.2.2.2.2.2.2.2.2.2.2.1.1 h.2.2.2.2.2.2.2.2.2.2.2.2.2.2.2.2.2.2.2.2.2.2.2.2.2.2.2.2.2.2.2.2.2.2.2.2.2.2.2.1.2.1 h.2.2.2.2.2.2.2.2.2.2.2.2.2.2.2.2.2.2.2.2.2.2.2.2.2.2.2.2.2.2.2.2.2.2.2.2.2.2.2.1.2.2.1 h.2.2.2.2.2.2.2.2.2.2.2.2.2.2.2.2.2.2.2.2.2.2.2.2.2.2.2.2.2.2.2.2.2.2.2.2.2.2.2.1.2.2.2 h.2.2.2.2.2.2.2.2.2.2.2.2.2.2.2.2.2.2.2.2.2.2.2.2.2.2.2.2.2.2.2.2.2.2.2.2.2.2.2.2.1.1 h.2.2.2.2.2.2.2.2.2.2.2.2.2.2.2.2.2.2.2.2.2.2.2.2.2.2.2.2.2.2.2.2.2.2.2.2.2.2.2.2.1.2.1 h.2.2.2.2.2.2.2.2.2.2.2.2.2.2.2.2.2.2.2.2.2.2.2.2.2.2.2.2.2.2.2.2.2.2.2.2.2.2.2.2.1.2.2.1 h.2.2.2.2.2.2.2.2.2.2.2.2.2.2.2.2.2.2.2.2.2.2.2.2.2.2.2.2.2.2.2.2.2.2.2.2.2.2.2.2.1.2.2.2 h.2.2.2.2.2.2.2.2.2.2.2.2.2.2.2.2.2.2.2.2.2.2.2.2.2.2.2.2.2.2.2.2.2.2.2.2.2.2.2.2.2.1.1 h.2.2.2.2.2.2.2.2.2.2.2.2.2.2.2.2.2.2.2.2.2.2.2.2.2.2.2.2.2.2.2.2.2.2.2.2.2.2.2.2.2.1.2.1 h.2.2.2.2.2.2.2.2.2.2.2.2.2.2.2.2.2.2.2.2.2.2.2.2.2.2.2.2.2.2.2.2.2.2.2.2.2.2.2.2.2.1.2.2.1 h.2.2.2.2.2.2.2.2.2.2.2.2.2.2.2.2.2.2.2.2.2.2.2.2.2.2.2.2.2.2.2.2.2.2.2.2.2.2.2.2.2.1.2.2.2 h.2.2.2.2.2.2.2.2.2.2.2.2.2.2.2.2.2.2.2.2.2.2.2.2.2.2.2.2.2.2.2.2.2.2.2.2.2.2.2.2.2.2.1.1 h.2.2.2.2.2.2.2.2.2.2.2.2.2.2.2.2.2.2.2.2.2.2.2.2.2.2.2.2.2.2.2.2.2.2.2.2.2.2.2.2.2.2.1.2.1 h.2.2.2.2.2.2.2.2.2.2.2.2.2.2.2.2.2.2.2.2.2.2.2.2.2.2.2.2.2.2.2.2.2.2.2.2.2.2.2.2.2.2.1.2.2.1 h.2.2.2.2.2.2.2.2.2.2.2.2.2.2.2.2.2.2.2.2.2.2.2.2.2.2.2.2.2.2.2.2.2.2.2.2.2.2.2.2.2.2.1.2.2.2 h.2.2.2.2.2.2.2.2.2.2.2.2.2.2.2.2.2.2.2.2.2.2.2.2.2.2.2.2.2.2.2.2.2.2.2.2.2.2.2.2.2.2.2.1.1 h.2.2.2.2.2.2.2.2.2.2.2.2.2.2.2.2.2.2.2.2.2.2.2.2.2.2.2.2.2.2.2.2.2.2.2.2.2.2.2.2.2.2.2.1.2.1 h.2.2.2.2.2.2.2.2.2.2.2.2.2.2.2.2.2.2.2.2.2.2.2.2.2.2.2.2.2.2.2.2.2.2.2.2.2.2.2.2.2.2.2.1.2.2.1 h.2.2.2.2.2.2.2.2.2.2.2.2.2.2.2.2.2.2.2.2.2.2.2.2.2.2.2.2.2.2.2.2.2.2.2.2.2.2.2.2.2.2.2.1.2.2.2 h.2.2.2.2.2.2.2.2.2.2.2.2.2.2.2.2.2.2.2.2.2.2.2.2.2.2.2.2.2.2.2.2.2.2.2.2.2.2.2.2.2.2.2.2.1.1 h.2.2.2.2.2.2.2.2.2.2.2.2.2.2.2.2.2.2.2.2.2.2.2.2.2.2.2.2.2.2.2.2.2.2.2.2.2.2.2.2.2.2.2.2.1.2.1 h.2.2.2.2.2.2.2.2.2.2.2.2.2.2.2.2.2.2.2.2.2.2.2.2.2.2.2.2.2.2.2.2.2.2.2.2.2.2.2.2.2.2.2.2.1.2.2.1 h.2.2.2.2.2.2.2.2.2.2.2.2.2.2.2.2.2.2.2.2.2.2.2.2.2.2.2.2.2.2.2.2.2.2.2.2.2.2.2.2.2.2.2.2.1.2.2.2 h.2.2.2.2.2.2.2.2.2.2.2.2.2.2.2.2.2.2.2.2.2.2.2.2.2.2.2.2.2.2.2.2.2.2.2.2.2.2.2.2.2.2.2.2.2.1.1 h.2.2.2.2.2.2.2.2.2.2.2.2.2.2.2.2.2.2.2.2.2.2.2.2.2.2.2.2.2.2.2.2.2.2.2.2.2.2.2.2.2.2.2.2.2.1.2.1 h.2.2.2.2.2.2.2.2.2.2.2.2.2.2.2.2.2.2.2.2.2.2.2.2.2.2.2.2.2.2.2.2.2.2.2.2.2.2.2.2.2.2.2.2.2.1.2.2.1 h.2.2.2.2.2.2.2.2.2.2.2.2.2.2.2.2.2.2.2.2.2.2.2.2.2.2.2.2.2.2.2.2.2.2.2.2.2.2.2.2.2.2.2.2.2.1.2.2.2 h.2.2.2.2.2.2.2.2.2.2.2.2.2.2.2.2.2.2.2.2.2.2.2.2.2.2.2.2.2.2.2.2.2.2.2.2.2.2.2.2.2.2.2.2.2.2.1.1 h.2.2.2.2.2.2.2.2.2.2.2.2.2.2.2.2.2.2.2.2.2.2.2.2.2.2.2.2.2.2.2.2.2.2.2.2.2.2.2.2.2.2.2.2.2.2.1.2.1 h.2.2.2.2.2.2.2.2.2.2.2.2.2.2.2.2.2.2.2.2.2.2.2.2.2.2.2.2.2.2.2.2.2.2.2.2.2.2.2.2.2.2.2.2.2.2.1.2.2.1 h.2.2.2.2.2.2.2.2.2.2.2.2.2.2.2.2.2.2.2.2.2.2.2.2.2.2.2.2.2.2.2.2.2.2.2.2.2.2.2.2.2.2.2.2.2.2.1.2.2.2 h.2.2.2.2.2.2.2.2.2.2.2.2.2.2.2.2.2.2.2.2.2.2.2.2.2.2.2.2.2.2.2.2.2.2.2.2.2.2.2.2.2.2.2.2.2.2.2.1 h.2.2.2.2.2.2.2.2.2.2.2.2.2.2.2.2.2.2.2.2.2.2.2.2.2.2.2.2.2.2.2.2.2.2.2.2.2.2.2.2.2.2.2.2.2.2.2.2.1 h.2.2.2.2.2.2.2.2.2.2.2.2.2.2.2.2.2.2.2.2.2.2.2.2.2.2.2.2.2.2.2.2.2.2.2.2.2.2.2.2.2.2.2.2.2.2.2.2.2.1 h.2.2.2.2.2.2.2.2.2.2.2.2.2.2.2.2.2.2.2.2.2.2.2.2.2.2.2.2.2.2.2.2.2.2.2.2.2.2.2.2.2.2.2.2.2.2.2.2.2.2.1 h.2.2.2.2.2.2.2.2.2.2.2.2.2.2.2.2.2.2.2.2.2.2.2.2.2.2.2.2.2.2.2.2.2.2.2.2.2.2.2.2.2.2.2.2.2.2.2.2.2.2.2.1 h.2.2.2.2.2.2.2.2.2.2.2.2.2.2.2.2.2.2.2.2.2.2.2.2.2.2.2.2.2.2.2.2.2.2.2.2.2.2.2.2.2.2.2.2.2.2.2.2.2.2.2.2.1 h.2.2.2.2.2.2.2.2.2.2.2.2.2.2.2.2.2.2.2.2.2.2.2.2.2.2.2.2.2.2.2.2.2.2.2.2.2.2.2.2.2.2.2.2.2.2.2.2.2.2.2.2.2.1 h.2.2.2.2.2.2.2.2.2.2.2.2.2.2.2.2.2.2.2.2.2.2.2.2.2.2.2.2.2.2.2.2.2.2.2.2.2.2.2.2.2.2.2.2.2.2.2.2.2.2.2.2.2.2.1 h.2.2.2.2.2.2.2.2.2.2.2.2.2.2.2.2.2.2.2.2.2.2.2.2.2.2.2.2.2.2.2.2.2.2.2.2.2.2.2.2.2.2.2.2.2.2.2.2.2.2.2.2.2.2.2.1 h.2.2.2.2.2.2.2.2.2.2.2.2.2.2.2.2.2.2.2.2.2.2.2.2.2.2.2.2.2.2.2.2.2.2.2.2.2.2.2.2.2.2.2.2.2.2.2.2.2.2.2.2.2.2.2.2.1 h.2.2.2.2.2.2.2.2.2.2.2.2.2.2.2.2.2.2.2.2.2.2.2.2.2.2.2.2.2.2.2.2.2.2.2.2.2.2.2.2.2.2.2.2.2.2.2.2.2.2.2.2.2.2.2.2.2.1 h.2.2.2.2.2.2.2.2.2.2.2.2.2.2.2.2.2.2.2.2.2.2.2.2.2.2.2.2.2.2.2.2.2.2.2.2.2.2.2.2.2.2.2.2.2.2.2.2.2.2.2.2.2.2.2.2.2.2.1 h.2.2.2.2.2.2.2.2.2.2.2.2.2.2.2.2.2.2.2.2.2.2.2.2.2.2.2.2.2.2.2.2.2.2.2.2.2.2.2.2.2.2.2.2.2.2.2.2.2.2.2.2.2.2.2.2.2.2.2.1 h.2.2.2.2.2.2.2.2.2.2.2.2.2.2.2.2.2.2.2.2.2.2.2.2.2.2.2.2.2.2.2.2.2.2.2.2.2.2.2.2.2.2.2.2.2.2.2.2.2.2.2.2.2.2.2.2.2.2.2.2.1 h.2.2.2.2.2.2.2.2.2.2.2.2.2.2.2.2.2.2.2.2.2.2.2.2.2.2.2.2.2.2.2.2.2.2.2.2.2.2.2.2.2.2.2.2.2.2.2.2.2.2.2.2.2.2.2.2.2.2.2.2.2.1 h.2.2.2.2.2.2.2.2.2.2.2.2.2.2.2.2.2.2.2.2.2.2.2.2.2.2.2.2.2.2.2.2.2.2.2.2.2.2.2.2.2.2.2.2.2.2.2.2.2.2.2.2.2.2.2.2.2.2.2.2.2.2.1 h.2.2.2.2.2.2.2.2.2.2.2.2.2.2.2.2.2.2.2.2.2.2.2.2.2.2.2.2.2.2.2.2.2.2.2.2.2.2.2.2.2.2.2.2.2.2.2.2.2.2.2.2.2.2.2.2.2.2.2.2.2.2.2.1 h.2.2.2.2.2.2.2.2.2.2.2.2.2.2.2.2.2.2.2.2.2.2.2.2.2.2.2.2.2.2.2.2.2.2.2.2.2.2.2.2.2.2.2.2.2.2.2.2.2.2.2.2.2.2.2.2.2.2.2.2.2.2.2.2.1 h.2.2.2.2.2.2.2.2.2.2.2.2.2.2.2.2.2.2.2.2.2.2.2.2.2.2.2.2.2.2.2.2.2.2.2.2.2.2.2.2.2.2.2.2.2.2.2.2.2.2.2.2.2.2.2.2.2.2.2.2.2.2.2.2.2)
