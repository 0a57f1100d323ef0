/-
  The plain mathematics: package code's Legal is the document's.
-/
import Derived.Test.YtkjkddcgigbglaaDoorC
set_option linter.unusedVariables false
set_option linter.unusedSimpArgs false
namespace Hm

def kindF (f : Int) : Int := if f = 1 then 82 else if f = 2 then 73 else if f = 3 then 72 else if f = 4 then 83 else if f = 5 then 66 else if f = 6 then 85 else if f = 7 then 74 else 78

theorem reg_eq (n : Int) (u : Bool) : regB n u = fitsC n u := by
  cases u
  · simp [regB, fitsC]
  · unfold regB fitsC
    rw [if_pos rfl, Bool.eq_iff_iff, decide_eq_true_iff, decide_eq_true_iff]
    simp only [true_and]
    omega

theorem imm_eq (f n : Int) (h0 : 1 ≤ f) (h1 : f ≤ 9) : fitsB (kindF f) n = holdsC (lay f).least (lay f).most (lay f).even n := by
  have hf : f = 1 ∨ f = 2 ∨ f = 3 ∨ f = 4 ∨ f = 5 ∨ f = 6 ∨ f = 7 ∨ f = 8 ∨ f = 9 := by omega
  rcases hf with rfl | rfl | rfl | rfl | rfl | rfl | rfl | rfl | rfl
  all_goals
    simp only [kindF, lay, layR, layI, layH, layS, layB, layU, layJ, layN, fitsB, holdsC]
    rw [Bool.eq_iff_iff]
    simp
    omega

structure TabOk (j : Nat) : Prop where
  f0 : 1 ≤ fmtT j
  f1 : fmtT j ≤ 9
  d : hasB (bitsL j) 100 = (lay (fmtT j)).rd
  r : hasB (bitsL j) 115 = (lay (fmtT j)).rs1
  t : hasB (bitsL j) 116 = (lay (fmtT j)).rs2
  k : kind (bitsL j) = kindF (fmtT j)
theorem tab_ok {k : Nat} (h0 : 1 ≤ k) (h1 : k ≤ 48) : TabOk k := by
  have : ∀ j : Fin 49, j.val = 0 ∨ (1 ≤ fmtT j ∧ fmtT j ≤ 9 ∧ hasB (bitsL j) 100 = (lay (fmtT j)).rd ∧ hasB (bitsL j) 115 = (lay (fmtT j)).rs1 ∧ hasB (bitsL j) 116 = (lay (fmtT j)).rs2 ∧ kind (bitsL j) = kindF (fmtT j)) := by decide +kernel
  rcases this ⟨k, by omega⟩ with h | ⟨a, b, c, d, e, f⟩
  · simp at h; omega
  · exact ⟨a, b, c, d, e, f⟩

theorem legal_eq (op rd rs1 rs2 imm : Int) : legalC op rd rs1 rs2 imm = legalR op rd rs1 rs2 imm := by
  unfold legalC legalR
  by_cases h : 1 ≤ op ∧ op ≤ 48
  · have hf : fmtOf op = fmtT op.toNat := by unfold fmtOf; rw [if_pos h]
    have ht := tab_ok (k := op.toNat) (by omega) (by omega)
    have hf1 := ht.f0
    rw [if_pos h, hf, if_neg (by omega), ht.d, ht.r, ht.t, ht.k, reg_eq, reg_eq, reg_eq, imm_eq _ _ ht.f0 ht.f1]
  · have hf : fmtOf op = 0 := by unfold fmtOf; rw [if_neg h]
    rw [if_neg h, hf, if_pos rfl]
end Hm
