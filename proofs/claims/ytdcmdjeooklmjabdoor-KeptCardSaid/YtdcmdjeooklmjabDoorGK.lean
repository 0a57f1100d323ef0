/-
  W8 W9 in one text.
-/
import Derived.Test.YtdcmdjeooklmjabDoorGJ
set_option linter.unusedVariables false
set_option linter.unusedSimpArgs false
/-
  Walks: hartref's Encode.
-/
namespace Go.Proofs.YtdcmdjeooklmjabDoor
open Go.RowKit

end Go.Proofs.YtdcmdjeooklmjabDoor

/-
  Walks: hartref's Decode.
-/
namespace Go.Proofs.YtdcmdjeooklmjabDoor
open Go.RowKit

def decVal (d : Hm.Dec) : Value := .tuple #[.agg #[.int .i64 d.op, .int .i64 d.f.d, .int .i64 d.f.r, .int .i64 d.f.t, .int .i64 d.f.imm], .int .i64 d.err]

theorem below_five {B : Nat} {w w' : World} (h : Below B w w') (v0 v1 v2 v3 v4 : Value) :
    Below B w (((((w'.setCell ⟨B, 0, none⟩ v0).setCell ⟨B, 1, none⟩ v1).setCell ⟨B, 2, none⟩ v2).setCell ⟨B, 3, none⟩ v3).setCell ⟨B, 4, none⟩ v4) :=
  ((((h.setCell (Nat.le_refl _) _).setCell (Nat.le_refl _) _).setCell (Nat.le_refl _) _).setCell (Nat.le_refl _) _).setCell (Nat.le_refl _) _
theorem ret_dec {a b : Hm.Dec} (h : a = b) : Ending.returned (decVal a) = .returned (decVal b) := by rw [h]

end Go.Proofs.YtdcmdjeooklmjabDoor
