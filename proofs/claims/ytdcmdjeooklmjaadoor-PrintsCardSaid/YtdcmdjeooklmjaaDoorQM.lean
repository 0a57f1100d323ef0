/-
  L3 L4 LA in one text.
-/
import Derived.Test.YtdcmdjeooklmjaaDoorQJ
import Derived.Test.YtdcmdjeooklmjaaDoorQL
set_option linter.unusedVariables false
set_option linter.unusedSimpArgs false
/-
  Walks: package code's layoutOf, in part.
-/
namespace Go.Proofs.YtdcmdjeooklmjaaDoor
open Go.RowKit

set_option maxRecDepth 100000 in
set_option maxHeartbeats 4000000 in
theorem layoutOf_6 (w : World) :
    Calls Tryd.prog 60 #[.int .u8 6] w fun e w' => e = .returned (layV Hm.layU) ∧ Below w.heap.size w w' := by
  go_enter Tryd.func60, Tryd.ntmps60
  go_wp2_with ((with_reducible refine' wl_store_new (cells := _) ?hx ?hy ?hi ?ho ?h1 ?h); (case hx => rfl); (case hy => rfl); (case hi => kernel_rfl); (case ho => rfl); (case h1 => kernel_rfl))
  refine bodyPost_ret (v := layV Hm.layU) ?_ rfl ⟨rfl, (Below.refl _ _).alloc (Nat.le_refl _) _⟩
  rw [results_cell_one Tryd.results60]
  exact run_loadVar_row _ _ 111 _ _ (0, 0) _ (heap_alloc_last w _) Tryd.underlying111 rfl (by kernel_rfl)

set_option maxRecDepth 100000 in
set_option maxHeartbeats 4000000 in
theorem layoutOf_7 (w : World) :
    Calls Tryd.prog 60 #[.int .u8 7] w fun e w' => e = .returned (layV Hm.layJ) ∧ Below w.heap.size w w' := by
  go_enter Tryd.func60, Tryd.ntmps60
  go_wp2_with ((with_reducible refine' wl_store_new (cells := _) ?hx ?hy ?hi ?ho ?h1 ?h); (case hx => rfl); (case hy => rfl); (case hi => kernel_rfl); (case ho => rfl); (case h1 => kernel_rfl))
  refine bodyPost_ret (v := layV Hm.layJ) ?_ rfl ⟨rfl, (Below.refl _ _).alloc (Nat.le_refl _) _⟩
  rw [results_cell_one Tryd.results60]
  exact run_loadVar_row _ _ 111 _ _ (0, 0) _ (heap_alloc_last w _) Tryd.underlying111 rfl (by kernel_rfl)

end Go.Proofs.YtdcmdjeooklmjaaDoor

/-
  Walks: package code's layoutOf, in part.
-/
namespace Go.Proofs.YtdcmdjeooklmjaaDoor
open Go.RowKit

set_option maxRecDepth 100000 in
set_option maxHeartbeats 4000000 in
theorem layoutOf_0 (w : World) :
    Calls Tryd.prog 60 #[.int .u8 0] w fun e w' => e = .returned (layV Hm.layN) ∧ Below w.heap.size w w' := by
  go_enter Tryd.func60, Tryd.ntmps60
  go_wp2_with ((with_reducible refine' wl_store_new (cells := _) ?hx ?hy ?hi ?ho ?h1 ?h); (case hx => rfl); (case hy => rfl); (case hi => kernel_rfl); (case ho => rfl); (case h1 => kernel_rfl))
  refine bodyPost_ret (v := layV Hm.layN) ?_ rfl ⟨rfl, (Below.refl _ _).alloc (Nat.le_refl _) _⟩
  rw [results_cell_one Tryd.results60]
  exact run_loadVar_row _ _ 111 _ _ (0, 0) _ (heap_alloc_last w _) Tryd.underlying111 rfl (by kernel_rfl)

set_option maxRecDepth 100000 in
set_option maxHeartbeats 4000000 in
theorem layoutOf_8 (w : World) :
    Calls Tryd.prog 60 #[.int .u8 8] w fun e w' => e = .returned (layV Hm.layN) ∧ Below w.heap.size w w' := by
  go_enter Tryd.func60, Tryd.ntmps60
  go_wp2_with ((with_reducible refine' wl_store_new (cells := _) ?hx ?hy ?hi ?ho ?h1 ?h); (case hx => rfl); (case hy => rfl); (case hi => kernel_rfl); (case ho => rfl); (case h1 => kernel_rfl))
  refine bodyPost_ret (v := layV Hm.layN) ?_ rfl ⟨rfl, (Below.refl _ _).alloc (Nat.le_refl _) _⟩
  rw [results_cell_one Tryd.results60]
  exact run_loadVar_row _ _ 111 _ _ (0, 0) _ (heap_alloc_last w _) Tryd.underlying111 rfl (by kernel_rfl)

set_option maxRecDepth 100000 in
set_option maxHeartbeats 4000000 in
theorem layoutOf_9 (w : World) :
    Calls Tryd.prog 60 #[.int .u8 9] w fun e w' => e = .returned (layV Hm.layN) ∧ Below w.heap.size w w' := by
  go_enter Tryd.func60, Tryd.ntmps60
  go_wp2_with ((with_reducible refine' wl_store_new (cells := _) ?hx ?hy ?hi ?ho ?h1 ?h); (case hx => rfl); (case hy => rfl); (case hi => kernel_rfl); (case ho => rfl); (case h1 => kernel_rfl))
  refine bodyPost_ret (v := layV Hm.layN) ?_ rfl ⟨rfl, (Below.refl _ _).alloc (Nat.le_refl _) _⟩
  rw [results_cell_one Tryd.results60]
  exact run_loadVar_row _ _ 111 _ _ (0, 0) _ (heap_alloc_last w _) Tryd.underlying111 rfl (by kernel_rfl)

end Go.Proofs.YtdcmdjeooklmjaaDoor

/-
  Walks: package code's layoutOf, whole.
-/
namespace Go.Proofs.YtdcmdjeooklmjaaDoor
open Go.RowKit

theorem layoutOf_any (f : Int) (w : World) (h0 : 0 ≤ f) (h1 : f ≤ 9) :
    Calls Tryd.prog 60 #[.int .u8 f] w fun e w' => e = .returned (layV (Hm.lay f)) ∧ Below w.heap.size w w' := by
  have hf : f = 0 ∨ f = 1 ∨ f = 2 ∨ f = 3 ∨ f = 4 ∨ f = 5 ∨ f = 6 ∨ f = 7 ∨ f = 8 ∨ f = 9 := by omega
  rcases hf with rfl | rfl | rfl | rfl | rfl | rfl | rfl | rfl | rfl | rfl
  · exact layoutOf_0 w
  · exact layoutOf_1 w
  · exact layoutOf_2 w
  · exact layoutOf_3 w
  · exact layoutOf_4 w
  · exact layoutOf_5 w
  · exact layoutOf_6 w
  · exact layoutOf_7 w
  · exact layoutOf_8 w
  · exact layoutOf_9 w

end Go.Proofs.YtdcmdjeooklmjaaDoor
