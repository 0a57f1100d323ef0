/-
  The plain mathematics: package code's Decode is the document's.
-/
import Derived.Test.YtkjkddcgigbglaaDoorZ2
import Derived.Test.YtkjkddcgigbglaaDoorE2
set_option linter.unusedVariables false
set_option linter.unusedSimpArgs false
namespace Hm

/-! ### Which bits match -/
def matchL (x : Int) : List UInt8 → Bool
  | [] => true
  | c :: l => !miss c (bt x l.length) && matchL x l
def foldF (x : Int) : List UInt8 → Flds → Flds
  | [], f => f
  | c :: l, f => foldF x l (rstep f c (bt x l.length))
theorem rd_eq (x : Int) : ∀ (l : List UInt8) (f : Flds), rd x l f = if matchL x l then some (foldF x l f) else none
  | [], f => rfl
  | c :: l, f => by
    unfold rd matchL foldF
    cases h : miss c (bt x l.length) with
    | true => simp
    | false => simp [rd_eq x l]

def okM (k : Nat) : List UInt8 → Bool
  | [] => true
  | c :: l => ((tellC (fmtT k)).toNat.testBit l.length == ((c.toNat : Int) == 48 || (c.toNat : Int) == 49)) && ((bitT k).toNat.testBit l.length == ((c.toNat : Int) == 49)) && okM k l
theorem okM_all {k : Nat} (h0 : 1 ≤ k) (h1 : k ≤ 48) : okM k (bitsL k) = true ∧ (bitsL k).length = 32 ∧ (bitT k).toNat < 2 ^ 32 ∧ 0 ≤ bitT k := by
  have : ∀ j : Fin 49, j.val = 0 ∨ (okM j (bitsL j) = true ∧ (bitsL j).length = 32 ∧ (bitT j).toNat < 4294967296 ∧ 0 ≤ bitT j) := by decide +kernel
  rcases this ⟨k, by omega⟩ with h | h
  · simp at h; omega
  · exact ⟨h.1, h.2.1, Nat.lt_of_lt_of_le h.2.2.1 (by decide), h.2.2.2⟩

theorem miss_bit {c : UInt8} {b : Bool} : miss c (b01 b) = (((c.toNat : Int) == 48 || (c.toNat : Int) == 49) && (b != ((c.toNat : Int) == 49))) := by
  unfold miss b01
  by_cases h0 : (c.toNat : Int) = 48
  · rw [h0]; cases b <;> rfl
  · by_cases h1 : (c.toNat : Int) = 49
    · rw [h1]; cases b <;> rfl
    · have e0 : ((c.toNat : Int) == 48) = false := by simpa using h0
      have e1 : ((c.toNat : Int) == 49) = false := by simpa using h1
      rw [e0, e1]; rfl
theorem matchL_iff {x : Int} {k : Nat} : ∀ {l : List UInt8}, okM k l = true → (matchL x l = true ↔ ∀ i, i < l.length → ((x % 4294967296).toNat &&& (tellC (fmtT k)).toNat).testBit i = (bitT k).toNat.testBit i)
  | [], _ => by simp [matchL]
  | c :: l, h => by
    unfold okM at h
    simp only [Bool.and_eq_true, beq_iff_eq] at h
    obtain ⟨⟨h1, h2⟩, h3⟩ := h
    have ih := matchL_iff (x := x) h3
    have hm : (!miss c (bt x l.length)) = true ↔ ((x % 4294967296).toNat &&& (tellC (fmtT k)).toNat).testBit l.length = (bitT k).toNat.testBit l.length := by
      rw [bt_nat, miss_bit, Nat.testBit_and, h1, h2]
      generalize (x % 4294967296).toNat.testBit l.length = b
      by_cases h0 : (c.toNat : Int) = 48
      · rw [h0]; cases b <;> decide
      · by_cases h1 : (c.toNat : Int) = 49
        · rw [h1]; cases b <;> decide
        · have e0 : ((c.toNat : Int) == 48) = false := by simpa using h0
          have e1 : ((c.toNat : Int) == 49) = false := by simpa using h1
          rw [e0, e1]; cases b <;> decide
    unfold matchL
    rw [Bool.and_eq_true, hm, ih, List.length_cons]
    constructor
    · intro ⟨ha, hb⟩ i hi
      by_cases e : i = l.length
      · subst e; exact ha
      · exact hb i (by omega)
    · intro ha
      exact ⟨ha _ (by omega), fun i hi => ha i (by omega)⟩
theorem tell_lt (f : Int) : (tellC f).toNat < 2 ^ 32 := by
  have e : (2 : Nat) ^ 32 = 4294967296 := by decide
  rw [e]
  unfold tellC
  repeat' split
  all_goals decide
theorem match_eq {x : Int} (x0 : 0 ≤ x) (x1 : x < 4294967296) {k : Nat} (h0 : 1 ≤ k) (h1 : k ≤ 48) : matchC x k = matchL x (bitsL k) := by
  obtain ⟨ok, hlen, hlt, hnn⟩ := okM_all h0 h1
  have hx : x % 4294967296 = x := by omega
  rw [Bool.eq_iff_iff, matchL_iff ok, hlen, hx]
  unfold matchC andI
  rw [beq_iff_eq]
  constructor
  · intro h i _
    have : x.toNat &&& (tellC (fmtT k)).toNat = (bitT k).toNat := by rw [← h, Int.toNat_natCast]
    rw [this]
  · intro h
    have : x.toNat &&& (tellC (fmtT k)).toNat = (bitT k).toNat := by
      apply Nat.eq_of_testBit_eq
      intro i
      by_cases hi : i < 32
      · exact h i hi
      · have hp : 2 ^ 32 ≤ 2 ^ i := Nat.pow_le_pow_right (by decide) (by omega)
        rw [Nat.testBit_and, Nat.testBit_lt_two_pow (Nat.lt_of_lt_of_le (tell_lt _) hp), Nat.testBit_lt_two_pow (Nat.lt_of_lt_of_le hlt hp), Bool.and_false]
    rw [this, Int.toNat_of_nonneg hnn]
end Hm
