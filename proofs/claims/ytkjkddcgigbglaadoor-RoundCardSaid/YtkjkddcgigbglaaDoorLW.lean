/-
  A whole struct stored into a block, as the walk meets it.
-/
import Derived.Test.YtkjkddcgigbglaaDoorLV
set_option linter.unusedVariables false
set_option linter.unusedSimpArgs false
namespace Go.Proofs.YtkjkddcgigbglaaDoor

/-- A whole struct into the block that was made last, as the walk's list of operations meets it. -/
theorem wl_store_new {P : Program} {ops : Array Oper} {rest : List Oper} {Q : Exit → Act → World → Prop} {a : Act} {w : World} {dst : Option Tmp} {ty : TypeId} {pos : String} {after : Array Edge} {x y : Operand} {t : TypeId} {old cells : Array Value}
    (hx : a.eval x = .pointer (some ⟨w.heap.size, 0, none⟩)) (hy : a.eval y = .agg cells) (hi : (P.info? t).map (·.size) = some cells.size) (ho : old.size = cells.size) (h1 : cells.all (·.oneCell') = true)
    (h : wpList P ops Q rest (a.put dst undef) (w.alloc (.cells cells t))) : wpList P ops Q (⟨dst, .store t x y, ty, pos, after, none⟩ :: rest) a (w.alloc (.cells old t)) :=
  wpList_store_row rfl t x y rfl w.heap.size cells hx hy t old (heap_alloc_last w _) hi ho h1 (by rw [World.setRow_alloc_new]; exact h)
end Go.Proofs.YtkjkddcgigbglaaDoor
