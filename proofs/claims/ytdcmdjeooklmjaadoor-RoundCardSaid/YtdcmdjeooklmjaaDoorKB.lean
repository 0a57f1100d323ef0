/-
  P1 in one text.
-/
import Derived.Test.YtdcmdjeooklmjaaDoorKA
import Derived.Test.YtdcmdjeooklmjaaDoorHD
set_option linter.unusedVariables false
set_option linter.unusedSimpArgs false
/-
  From the row's conditions to what the walks ask: the one table.
-/
namespace Go.Proofs.YtdcmdjeooklmjaaDoor
open Go.ChangeShapes Go.WideShapes Go.ChangeAt Go.WideMaps Go.WideElems Go.RowKit Go.Joins

def laidL : List (String × DataW Unit) := [("hart/code.rows", Rows.laid_hart_code_rows)]
/-- The door's own heap meets the condition. -/
theorem door_met (os : Os) (args : Array Value) : laidMetH Tryd.prog laidL ((World.doorLaid Tryd.prog 132 os).forCall (fun _ _ => 0) ⟨#[], args, []⟩).memory :=
  laidMetH_of_parts3 (fuel := 8) (laidMet_of_run' 8 (by kernel_rfl) (by kernel_rfl)) (by kernel_rfl) (by kernel_rfl)

theorem tab_of_laid {W : World} (h : laidMetH Tryd.prog laidL W) : Tab W := by
  rw [MakeChecks.laidMetH_plain _ _ _ (by kernel_rfl)] at h
  obtain ⟨ps, ⟨g0, t0, cs0, f0, p0, q0, hg0, ht0, hv0, hd0, _, _⟩, _, _⟩ := h
  obtain rfl := Option.some.inj (gRows.symm.trans hg0)
  obtain rfl := Option.some.inj (tRows.symm.trans ht0)
  exact tab_of_var hv0 rfl hd0
end Go.Proofs.YtdcmdjeooklmjaaDoor
