/-
  LV LW L1 L2 in one text.
-/
import Derived.Test.YtdcmdjeooklmjaaDoorChecked
import Derived.Test.YtdcmdjeooklmjaaDoorGA
import Derived.WalkKit
import Derived.Deep.WholeRow
import Derived.Test.YtdcmdjeooklmjaaDoorGJ
set_option linter.unusedVariables false
set_option linter.unusedSimpArgs false
/-
  A layout as a value.
-/
namespace Go.Proofs.YtdcmdjeooklmjaaDoor
def layV (L : Hm.Lay) : Value := .agg #[.bool L.rd, .bool L.rs1, .bool L.rs2, .int .i64 L.least, .int .i64 L.most, .bool L.even, .int .u8 L.f0, .int .u8 L.c0, .int .u8 L.a0, .int .u8 L.f1, .int .u8 L.c1, .int .u8 L.a1, .int .u8 L.f2, .int .u8 L.c2, .int .u8 L.a2, .int .u8 L.f3, .int .u8 L.c3, .int .u8 L.a3]

theorem results_cell_one {fn : Func} {p : Tmp} {ty : TypeId} (h : fn.results = #[.cell p ty]) (tmps : Array Value) (P : Program) (w : World) :
    (results fn tmps).run P w = ((asAddr (tmps.getD p undef)).run P w).andThen fun a w₁ => (loadVar ty a).run P w₁ := by
  simp only [results, h]
  simp [Sem.run_bind, Result.andThen]
end Go.Proofs.YtdcmdjeooklmjaaDoor

/-
  A whole struct stored into a block, as the walk meets it.
-/
namespace Go.Proofs.YtdcmdjeooklmjaaDoor

/-- A whole struct into the block that was made last, as the walk's list of operations meets it. -/
theorem wl_store_new {P : Program} {ops : Array Oper} {rest : List Oper} {Q : Exit → Act → World → Prop} {a : Act} {w : World} {dst : Option Tmp} {ty : TypeId} {pos : String} {after : Array Edge} {x y : Operand} {t : TypeId} {old cells : Array Value}
    (hx : a.eval x = .pointer (some ⟨w.heap.size, 0, none⟩)) (hy : a.eval y = .agg cells) (hi : (P.info? t).map (·.size) = some cells.size) (ho : old.size = cells.size) (h1 : cells.all (·.oneCell') = true)
    (h : wpList P ops Q rest (a.put dst undef) (w.alloc (.cells cells t))) : wpList P ops Q (⟨dst, .store t x y, ty, pos, after, none⟩ :: rest) a (w.alloc (.cells old t)) :=
  wpList_store_row rfl t x y rfl w.heap.size cells hx hy t old (heap_alloc_last w _) hi ho h1 (by rw [World.setRow_alloc_new]; exact h)
end Go.Proofs.YtdcmdjeooklmjaaDoor

/-
  Walks: package code's layoutOf, in part.
-/
namespace Go.Proofs.YtdcmdjeooklmjaaDoor
open Go.RowKit

set_option maxRecDepth 100000 in
set_option maxHeartbeats 4000000 in
theorem layoutOf_1 (w : World) :
    Calls Tryd.prog 60 #[.int .u8 1] w fun e w' => e = .returned (layV Hm.layR) ∧ Below w.heap.size w w' := by
  go_enter Tryd.func60, Tryd.ntmps60
  go_wp2_with ((with_reducible refine' wl_store_new (cells := _) ?hx ?hy ?hi ?ho ?h1 ?h); (case hx => rfl); (case hy => rfl); (case hi => kernel_rfl); (case ho => rfl); (case h1 => kernel_rfl))
  refine bodyPost_ret (v := layV Hm.layR) ?_ rfl ⟨rfl, (Below.refl _ _).alloc (Nat.le_refl _) _⟩
  rw [results_cell_one Tryd.results60]
  exact run_loadVar_row _ _ 111 _ _ (0, 0) _ (heap_alloc_last w _) Tryd.underlying111 rfl (by kernel_rfl)

set_option maxRecDepth 100000 in
set_option maxHeartbeats 4000000 in
theorem layoutOf_2 (w : World) :
    Calls Tryd.prog 60 #[.int .u8 2] w fun e w' => e = .returned (layV Hm.layI) ∧ Below w.heap.size w w' := by
  go_enter Tryd.func60, Tryd.ntmps60
  go_wp2_with ((with_reducible refine' wl_store_new (cells := _) ?hx ?hy ?hi ?ho ?h1 ?h); (case hx => rfl); (case hy => rfl); (case hi => kernel_rfl); (case ho => rfl); (case h1 => kernel_rfl))
  refine bodyPost_ret (v := layV Hm.layI) ?_ rfl ⟨rfl, (Below.refl _ _).alloc (Nat.le_refl _) _⟩
  rw [results_cell_one Tryd.results60]
  exact run_loadVar_row _ _ 111 _ _ (0, 0) _ (heap_alloc_last w _) Tryd.underlying111 rfl (by kernel_rfl)

set_option maxRecDepth 100000 in
set_option maxHeartbeats 4000000 in
theorem layoutOf_3 (w : World) :
    Calls Tryd.prog 60 #[.int .u8 3] w fun e w' => e = .returned (layV Hm.layH) ∧ Below w.heap.size w w' := by
  go_enter Tryd.func60, Tryd.ntmps60
  go_wp2_with ((with_reducible refine' wl_store_new (cells := _) ?hx ?hy ?hi ?ho ?h1 ?h); (case hx => rfl); (case hy => rfl); (case hi => kernel_rfl); (case ho => rfl); (case h1 => kernel_rfl))
  refine bodyPost_ret (v := layV Hm.layH) ?_ rfl ⟨rfl, (Below.refl _ _).alloc (Nat.le_refl _) _⟩
  rw [results_cell_one Tryd.results60]
  exact run_loadVar_row _ _ 111 _ _ (0, 0) _ (heap_alloc_last w _) Tryd.underlying111 rfl (by kernel_rfl)

end Go.Proofs.YtdcmdjeooklmjaaDoor

/-
  Walks: package code's layoutOf, in part.
-/
namespace Go.Proofs.YtdcmdjeooklmjaaDoor
open Go.RowKit

set_option maxRecDepth 100000 in
set_option maxHeartbeats 4000000 in
theorem layoutOf_4 (w : World) :
    Calls Tryd.prog 60 #[.int .u8 4] w fun e w' => e = .returned (layV Hm.layS) ∧ Below w.heap.size w w' := by
  go_enter Tryd.func60, Tryd.ntmps60
  go_wp2_with ((with_reducible refine' wl_store_new (cells := _) ?hx ?hy ?hi ?ho ?h1 ?h); (case hx => rfl); (case hy => rfl); (case hi => kernel_rfl); (case ho => rfl); (case h1 => kernel_rfl))
  refine bodyPost_ret (v := layV Hm.layS) ?_ rfl ⟨rfl, (Below.refl _ _).alloc (Nat.le_refl _) _⟩
  rw [results_cell_one Tryd.results60]
  exact run_loadVar_row _ _ 111 _ _ (0, 0) _ (heap_alloc_last w _) Tryd.underlying111 rfl (by kernel_rfl)

set_option maxRecDepth 100000 in
set_option maxHeartbeats 4000000 in
theorem layoutOf_5 (w : World) :
    Calls Tryd.prog 60 #[.int .u8 5] w fun e w' => e = .returned (layV Hm.layB) ∧ Below w.heap.size w w' := by
  go_enter Tryd.func60, Tryd.ntmps60
  go_wp2_with ((with_reducible refine' wl_store_new (cells := _) ?hx ?hy ?hi ?ho ?h1 ?h); (case hx => rfl); (case hy => rfl); (case hi => kernel_rfl); (case ho => rfl); (case h1 => kernel_rfl))
  refine bodyPost_ret (v := layV Hm.layB) ?_ rfl ⟨rfl, (Below.refl _ _).alloc (Nat.le_refl _) _⟩
  rw [results_cell_one Tryd.results60]
  exact run_loadVar_row _ _ 111 _ _ (0, 0) _ (heap_alloc_last w _) Tryd.underlying111 rfl (by kernel_rfl)

end Go.Proofs.YtdcmdjeooklmjaaDoor
