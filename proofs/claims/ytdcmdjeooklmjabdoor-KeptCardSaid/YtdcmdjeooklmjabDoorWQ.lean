/-
  PD in one text.
-/
import Derived.Test.YtdcmdjeooklmjabDoorWT
set_option linter.unusedVariables false
set_option linter.unusedSimpArgs false
/-
  The tied card of the law Kept.
-/
namespace Go.Proofs.YtdcmdjeooklmjabDoor
open Go.ChangeShapes Go.WideShapes Go.ChangeAt Go.WideMaps Go.WideElems Go.RowKit Go.Joins
theorem kept_holds : Rows.KeptCardSaid :=
  Claim7.holds_tied_plain_at .later [] [.wider, .data] true Rows.keptCard.stood.harness true
    kept_row_holds (fun _ h => by cases h) (by kernel_rfl) (fun _ h => by cases h) kept_row_tie rfl ⟨rfl, rfl⟩ (by kernel_rfl) rfl
    (fun f fn hf hfn => by
      obtain rfl : f = 4 := Option.some.inj ((show Tryd.prog.funcNamed "hart/hartkeep.Kept" = some 4 by kernel_rfl).symm.trans hf) |>.symm
      obtain rfl : fn = Tryd.f4 := (Option.some.inj (Tryd.func4.symm.trans hfn)).symm
      exact ⟨by kernel_rfl, fun j t ht => by
        rw [Tryd.params4] at ht
        have hm : t ∈ [22, 22, 5] := by simpa using Array.mem_of_getElem? ht
        have hall : ([22, 22, 5].all fun u => !Tryd.prog.wantsStandIn u) = true := by kernel_rfl
        exact (show Tryd.prog.wantsStandIn t = false by simpa using List.all_eq_true.1 hall t hm)⟩)
    (by kernel_rfl)
#print axioms kept_holds
end Go.Proofs.YtdcmdjeooklmjabDoor
