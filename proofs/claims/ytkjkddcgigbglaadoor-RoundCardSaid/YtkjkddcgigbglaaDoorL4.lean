/-
  Walks: package code's layoutOf, in part.
-/
import Derived.Test.YtkjkddcgigbglaaDoorW7
import Derived.Test.YtkjkddcgigbglaaDoorLW
set_option linter.unusedVariables false
set_option linter.unusedSimpArgs false
namespace Go.Proofs.YtkjkddcgigbglaaDoor
open Go.RowKit

set_option maxRecDepth 100000 in
set_option maxHeartbeats 4000000 in
theorem layoutOf_0 (w : World) :
    Calls Tryd.prog 27 #[.int .u8 0] w fun e w' => e = .returned (layV Hm.layN) ∧ Below w.heap.size w w' := by
  go_enter Tryd.func27, Tryd.ntmps27
  go_wp2_with ((with_reducible refine' wl_store_new (cells := _) ?hx ?hy ?hi ?ho ?h1 ?h); (case hx => rfl); (case hy => rfl); (case hi => kernel_rfl); (case ho => rfl); (case h1 => kernel_rfl))
  refine bodyPost_ret (v := layV Hm.layN) ?_ rfl ⟨rfl, (Below.refl _ _).alloc (Nat.le_refl _) _⟩
  rw [results_cell_one Tryd.results27]
  exact run_loadVar_row _ _ 61 _ _ (0, 0) _ (heap_alloc_last w _) Tryd.underlying61 rfl (by kernel_rfl)

set_option maxRecDepth 100000 in
set_option maxHeartbeats 4000000 in
theorem layoutOf_8 (w : World) :
    Calls Tryd.prog 27 #[.int .u8 8] w fun e w' => e = .returned (layV Hm.layN) ∧ Below w.heap.size w w' := by
  go_enter Tryd.func27, Tryd.ntmps27
  go_wp2_with ((with_reducible refine' wl_store_new (cells := _) ?hx ?hy ?hi ?ho ?h1 ?h); (case hx => rfl); (case hy => rfl); (case hi => kernel_rfl); (case ho => rfl); (case h1 => kernel_rfl))
  refine bodyPost_ret (v := layV Hm.layN) ?_ rfl ⟨rfl, (Below.refl _ _).alloc (Nat.le_refl _) _⟩
  rw [results_cell_one Tryd.results27]
  exact run_loadVar_row _ _ 61 _ _ (0, 0) _ (heap_alloc_last w _) Tryd.underlying61 rfl (by kernel_rfl)

set_option maxRecDepth 100000 in
set_option maxHeartbeats 4000000 in
theorem layoutOf_9 (w : World) :
    Calls Tryd.prog 27 #[.int .u8 9] w fun e w' => e = .returned (layV Hm.layN) ∧ Below w.heap.size w w' := by
  go_enter Tryd.func27, Tryd.ntmps27
  go_wp2_with ((with_reducible refine' wl_store_new (cells := _) ?hx ?hy ?hi ?ho ?h1 ?h); (case hx => rfl); (case hy => rfl); (case hi => kernel_rfl); (case ho => rfl); (case h1 => kernel_rfl))
  refine bodyPost_ret (v := layV Hm.layN) ?_ rfl ⟨rfl, (Below.refl _ _).alloc (Nat.le_refl _) _⟩
  rw [results_cell_one Tryd.results27]
  exact run_loadVar_row _ _ 61 _ _ (0, 0) _ (heap_alloc_last w _) Tryd.underlying61 rfl (by kernel_rfl)

end Go.Proofs.YtkjkddcgigbglaaDoor
