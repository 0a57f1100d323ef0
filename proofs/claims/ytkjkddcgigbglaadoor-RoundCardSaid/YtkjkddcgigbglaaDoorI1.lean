/-
  The plain functions that hartkeep's pick and inst come to.
-/
import Derived.Test.YtkjkddcgigbglaaDoorE2
set_option linter.unusedVariables false
set_option linter.unusedSimpArgs false
namespace Hm
def pickI (c n : Int) : Int := (if c < 0 then -(c + 1) else c) % n
theorem pick_bd (c n : Int) (h : 1 ≤ n) : 0 ≤ pickI c n ∧ pickI c n < n := by
  unfold pickI
  exact ⟨Int.emod_nonneg _ (by omega), Int.emod_lt_of_pos _ (by omega)⟩
def instF (op rd rs1 rs2 imm : Int) : Flds :=
  if op ≤ 2 then ⟨pickI rd 32, 0, 0, pickI imm 1048576⟩
  else if op = 3 then ⟨pickI rd 32, 0, 0, 2 * pickI imm 1048576 - 1048576⟩
  else if 5 ≤ op ∧ op ≤ 10 then ⟨0, pickI rs1 32, pickI rs2 32, 2 * pickI imm 4096 - 4096⟩
  else if 16 ≤ op ∧ op ≤ 18 then ⟨0, pickI rs1 32, pickI rs2 32, pickI imm 4096 - 2048⟩
  else if 25 ≤ op ∧ op ≤ 27 then ⟨pickI rd 32, pickI rs1 32, 0, pickI imm 32⟩
  else if 28 ≤ op ∧ op ≤ 45 then ⟨pickI rd 32, pickI rs1 32, pickI rs2 32, 0⟩
  else if op < 46 then ⟨pickI rd 32, pickI rs1 32, 0, pickI imm 4096 - 2048⟩
  else ⟨0, 0, 0, 0⟩
end Hm
