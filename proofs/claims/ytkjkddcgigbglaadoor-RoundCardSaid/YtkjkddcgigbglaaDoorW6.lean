/-
  Walks: hartref's bits.
-/
import Derived.Test.YtkjkddcgigbglaaDoorW5
import Derived.Test.YtkjkddcgigbglaaDoorT
set_option linter.unusedVariables false
set_option linter.unusedSimpArgs false
namespace Go.Proofs.YtkjkddcgigbglaaDoor
open Go.RowKit

theorem cells_of_row {c : Array Value} (f : Nat → Value) (n : Nat) (h : c = ((List.range n).map f).toArray) (w : World) (t : TypeId) (k : Nat) (hk : k < n) :
    (w.alloc (.cells c t)).cell? ⟨w.heap.size, k, none⟩ = some (f k) := by
  rw [World.cell?_alloc_new, h]
  simp [hk]

set_option maxRecDepth 100000 in
set_option maxHeartbeats 4000000 in
theorem bits_any (w : World) :
    Calls Tryd.prog 14 #[] w fun e w' => e = .returned (.slice (some ⟨w.heap.size, 0, none⟩) 49 49) ∧ w'.heap.size = w.heap.size + 1 ∧ Below w.heap.size w w' ∧ ∀ k, k < 49 → w'.cell? ⟨w.heap.size, k, none⟩ = some (.string (Hm.bitsS k)) := by
  go_enter Tryd.func14, Tryd.ntmps14
  go_wp2
  go_ret
  refine ⟨rfl, by simp, (Below.refl _ _).alloc (Nat.le_refl _) _, ?_⟩
  exact fun k hk => cells_of_row (fun k => .string (Hm.bitsS k)) 49 (by kernel_rfl) w _ k hk
end Go.Proofs.YtkjkddcgigbglaaDoor
