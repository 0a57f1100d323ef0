/-
  Walks: package code's layoutOf, whole.
-/
import Derived.Test.YtkjkddcgigbglaaDoorL1
import Derived.Test.YtkjkddcgigbglaaDoorL2
import Derived.Test.YtkjkddcgigbglaaDoorL3
import Derived.Test.YtkjkddcgigbglaaDoorL4
set_option linter.unusedVariables false
set_option linter.unusedSimpArgs false
namespace Go.Proofs.YtkjkddcgigbglaaDoor
open Go.RowKit

theorem layoutOf_any (f : Int) (w : World) (h0 : 0 ≤ f) (h1 : f ≤ 9) :
    Calls Tryd.prog 27 #[.int .u8 f] w fun e w' => e = .returned (layV (Hm.lay f)) ∧ Below w.heap.size w w' := by
  have hf : f = 0 ∨ f = 1 ∨ f = 2 ∨ f = 3 ∨ f = 4 ∨ f = 5 ∨ f = 6 ∨ f = 7 ∨ f = 8 ∨ f = 9 := by omega
  rcases hf with rfl | rfl | rfl | rfl | rfl | rfl | rfl | rfl | rfl | rfl
  · exact layoutOf_0 w
  · exact layoutOf_1 w
  · exact layoutOf_2 w
  · exact layoutOf_3 w
  · exact layoutOf_4 w
  · exact layoutOf_5 w
  · exact layoutOf_6 w
  · exact layoutOf_7 w
  · exact layoutOf_8 w
  · exact layoutOf_9 w

end Go.Proofs.YtkjkddcgigbglaaDoor
