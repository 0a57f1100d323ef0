/-
  P9 in one text.
-/
import Derived.Test.YtdcmdjeooklmjaaDoorVP
set_option linter.unusedVariables false
set_option linter.unusedSimpArgs false
/-
  The tied card of the law Products.
-/
namespace Go.Proofs.YtdcmdjeooklmjaaDoor
open Go.ChangeShapes Go.WideShapes Go.ChangeAt Go.WideMaps Go.WideElems Go.RowKit Go.Joins
theorem products_holds : Rows.ProductsCardSaid :=
  Claim7.holds_tied_plain_at .later [] [.wider, .data] true Rows.productsCard.stood.harness true
    products_row_holds (fun _ h => by cases h) (by kernel_rfl) (fun _ h => by cases h) products_row_tie rfl ⟨rfl, rfl⟩ (by kernel_rfl) rfl
    (fun f fn hf hfn => by
      obtain rfl : f = 10 := Option.some.inj ((show Tryd.prog.funcNamed "hart/hartkeep.Products" = some 10 by kernel_rfl).symm.trans hf) |>.symm
      obtain rfl : fn = Tryd.f10 := (Option.some.inj (Tryd.func10.symm.trans hfn)).symm
      exact ⟨by kernel_rfl, fun j t ht => by
        rw [Tryd.params10] at ht
        have hm : t ∈ [24, 24] := by simpa using Array.mem_of_getElem? ht
        have hall : ([24, 24].all fun u => !Tryd.prog.wantsStandIn u) = true := by kernel_rfl
        exact (show Tryd.prog.wantsStandIn t = false by simpa using List.all_eq_true.1 hall t hm)⟩)
    (by kernel_rfl)
#print axioms products_holds
end Go.Proofs.YtdcmdjeooklmjaaDoor
