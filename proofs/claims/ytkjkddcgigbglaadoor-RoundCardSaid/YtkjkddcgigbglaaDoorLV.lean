/-
  A layout as a value.
-/
import Derived.Test.YtkjkddcgigbglaaDoorChecked
import Derived.Test.YtkjkddcgigbglaaDoorC
import Derived.WalkKit
import Derived.Deep.WholeRow
set_option linter.unusedVariables false
set_option linter.unusedSimpArgs false
namespace Go.Proofs.YtkjkddcgigbglaaDoor
def layV (L : Hm.Lay) : Value := .agg #[.bool L.rd, .bool L.rs1, .bool L.rs2, .int .i64 L.least, .int .i64 L.most, .bool L.even, .int .u8 L.f0, .int .u8 L.c0, .int .u8 L.a0, .int .u8 L.f1, .int .u8 L.c1, .int .u8 L.a1, .int .u8 L.f2, .int .u8 L.c2, .int .u8 L.a2, .int .u8 L.f3, .int .u8 L.c3, .int .u8 L.a3]

theorem results_cell_one {fn : Func} {p : Tmp} {ty : TypeId} (h : fn.results = #[.cell p ty]) (tmps : Array Value) (P : Program) (w : World) :
    (results fn tmps).run P w = ((asAddr (tmps.getD p undef)).run P w).andThen fun a w₁ => (loadVar ty a).run P w₁ := by
  simp only [results, h]
  simp [Sem.run_bind, Result.andThen]
end Go.Proofs.YtkjkddcgigbglaaDoor
