/-
  RA in one text.
-/
import Derived.Test.YtdcmdjeooklmjaaDoorGG
import Derived.Test.YtdcmdjeooklmjaaDoorHY
set_option linter.unusedVariables false
set_option linter.unusedSimpArgs false
/-
  Mathematics of Pressed on package code's functions. Nothing of the dump is imported.
-/
namespace Hm
structure PressA (x : Int) (D : Dec) (q : Int) : Prop where
  legal : legalC D.op D.f.d D.f.r D.f.t D.f.imm = true
  err : compCE D.op D.f.d D.f.r D.f.t D.f.imm = 0
  comp : compC D.op D.f.d D.f.r D.f.t D.f.imm = q
  q0 : 0 ≤ q
  le : q ≤ x
  back : expC q = D
theorem press_a {x : Int} (h0 : 0 ≤ x) (h1 : x < 65536) (he : (expC x).err = 0) : ∃ q, PressA x (expC x) q := by
  have hx := exp_eq h0 h1
  rw [← hx] at he ⊢
  obtain ⟨a, b, c, d, e⟩ := exp_back h0 h1 he
  refine ⟨_, ⟨?_, ?_, rfl, ?_, ?_, ?_⟩⟩
  · rw [legal_eq]; exact a
  · rw [← compE_eq]; exact b
  · rw [← comp_eq]; exact c
  · rw [← comp_eq]; exact d
  · rw [← comp_eq, ← exp_eq c (by omega)]; exact e
theorem press_err {x : Int} (h0 : 0 ≤ x) (h1 : x < 65536) : (expC x).err = 0 ∨ (expC x = ⟨0, ⟨0, 0, 0, 0⟩, 3⟩ ∧ x % 4 = 3) ∨ (expC x = ⟨0, ⟨0, 0, 0, 0⟩, 2⟩ ∧ x % 4 ≠ 3) := by
  rw [← exp_eq h0 h1]; exact exp_err x
theorem press_b {op d r t i : Int} (hl : legalC op d r t i = true) : (compCE op d r t i = 4 ∧ compC op d r t i = 0) ∨ (compCE op d r t i = 0 ∧ 0 ≤ compC op d r t i ∧ compC op d r t i < 65536 ∧ expC (compC op d r t i) = ⟨op, ⟨d, r, t, i⟩, 0⟩) := by
  have hl' : legalR op d r t i = true := by rw [← legal_eq]; exact hl
  by_cases h : 0 ≤ leastTo op d r t i 26
  · right
    have he : compE op d r t i = 0 := by unfold compE; rw [if_pos hl', if_pos h]
    obtain ⟨a, b, c⟩ := comp_back he
    rw [compE_eq] at he
    rw [comp_eq] at a b c
    exact ⟨he, a, b, by rw [← exp_eq a b]; exact c⟩
  · left
    rw [← compE_eq, ← comp_eq]
    constructor
    · unfold compE; rw [if_pos hl', if_neg h]
    · unfold compR; rw [if_neg (fun hh => h hh.2)]
end Hm
