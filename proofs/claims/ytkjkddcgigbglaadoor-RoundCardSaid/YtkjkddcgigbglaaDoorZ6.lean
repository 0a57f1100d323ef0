/-
  The plain mathematics of Round, its first half: what is written is read.
-/
import Derived.Test.YtkjkddcgigbglaaDoorZ5
import Derived.Test.YtkjkddcgigbglaaDoorI1
set_option linter.unusedVariables false
set_option linter.unusedSimpArgs false
namespace Hm

theorem bt_floor (n : Int) (j : Nat) (hj : j < 32) : bt n j = n / pw j % 2 := by
  unfold bt
  have hp := pw_pos j
  have e32 : (4294967296 : Int) = pw j * pw (32 - j) := by rw [← pw_add, show j + (32 - j) = 32 from by omega]; decide
  have e2 : pw (32 - j) = 2 * pw (31 - j) := by rw [← pw_succ]; congr 1; omega
  have h := Int.emod_add_mul_ediv n 4294967296
  have h1 : n / pw j = n % 4294967296 / pw j + pw (32 - j) * (n / 4294967296) := by
    conv => lhs; rw [← h]
    rw [show (4294967296 : Int) * (n / 4294967296) = pw j * (pw (32 - j) * (n / 4294967296)) from by rw [← Int.mul_assoc, ← e32]]
    exact Int.add_mul_ediv_left _ _ (by omega)
  rw [h1, e2, Int.mul_assoc]
  generalize pw (31 - j) * (n / 4294967296) = z
  omega
theorem sbx_congr {x y : Int} {a b : Nat} : ∀ {n : Nat}, (∀ j, j < n → bt x (a + j) = bt y (b + j)) → sbx x a n = sbx y b n
  | 0, _ => rfl
  | n + 1, h => by rw [sbx, sbx, sbx_congr (fun j hj => h j (by omega)), h n (by omega)]
theorem b01_inj {a b : Bool} (h : b01 a = b01 b) : a = b := by cases a <;> cases b <;> simp_all [b01]

theorem enc_u32 {op rd rs1 rs2 imm : Int} (hl : legalC op rd rs1 rs2 imm = true) : U32 (encC op rd rs1 rs2 imm) := by
  have hb := legal_bd hl
  have h0 : U32 (bitOf op) := bit_bd op
  have h1 : U32 (rd * 128) := ⟨by have := hb.d; omega, by have := hb.d; omega⟩
  have h2 : U32 (rs1 * 32768) := ⟨by have := hb.r; omega, by have := hb.r; omega⟩
  have h3 : U32 (rs2 * 1048576) := ⟨by have := hb.t; omega, by have := hb.t; omega⟩
  unfold encC
  rw [if_pos hl]
  exact encA_u32 (orI_u32 (orI_u32 (orI_u32 h0 h1) h2) h3) 4
theorem legal_op {op rd rs1 rs2 imm : Int} (hl : legalC op rd rs1 rs2 imm = true) : 1 ≤ op ∧ op ≤ 48 := by
  by_cases h : 1 ≤ op ∧ op ≤ 48
  · exact h
  · rw [legal_eq] at hl; unfold legalR at hl; rw [if_neg h] at hl; cases hl
theorem enc_ok {k : Nat} {rd rs1 rs2 imm : Int} (hl : legalC k rd rs1 rs2 imm = true) : bitsOk rd rs1 rs2 imm (encC k rd rs1 rs2 imm) (bitsL k) := by
  have hop := legal_op hl
  have hu := enc_u32 hl
  obtain ⟨ok, _⟩ := ok_all (k := k) (by omega) (by omega)
  have hbits := enc_bits (op := k) rfl (by omega) (by omega) hl
  unfold encC at hu ⊢
  rw [if_pos hl] at hu ⊢
  generalize encA (lay (fmtOf k)) (enc0 k rd rs1 rs2) (imm % 4294967296) 4 = E at *
  obtain ⟨N, rfl⟩ := Int.eq_ofNat_of_zero_le hu.1
  rw [Int.toNat_natCast] at hbits
  exact bitsOk_of hbits ok

/-! ### Which Op matches -/
theorem match_self {d r t imm E : Int} (h0 : 0 ≤ E) (h1 : E < 4294967296) : ∀ {l : List UInt8}, bitsOk d r t imm E l → matchL E l = true
  | [], _ => rfl
  | c :: l, ⟨hb, hr⟩ => by
    unfold matchL
    rw [match_self h0 h1 hr, Bool.and_true]
    have e : bt E l.length = fbit d r t imm c l := by unfold bt; rw [← hb]; congr 2; omega
    rw [e]
    unfold miss fbit
    by_cases c0 : (c.toNat : Int) = 48
    · rw [c0]; rfl
    by_cases c1 : (c.toNat : Int) = 49
    · rw [c1]; rfl
    have e0 : ((c.toNat : Int) == 48) = false := by simpa using c0
    have e1 : ((c.toNat : Int) == 49) = false := by simpa using c1
    rw [e0, e1]; rfl
def clash : List UInt8 → List UInt8 → Bool
  | c :: l, c' :: l' => (((c.toNat : Int) == 48 && (c'.toNat : Int) == 49) || ((c.toNat : Int) == 49 && (c'.toNat : Int) == 48)) || clash l l'
  | _, _ => false
theorem match_other {d r t imm E : Int} (h0 : 0 ≤ E) (h1 : E < 4294967296) : ∀ {l l' : List UInt8}, bitsOk d r t imm E l → l.length = l'.length → clash l l' = true → matchL E l' = false
  | c :: l, c' :: l', ⟨hb, hr⟩, hlen, hc => by
    unfold clash at hc
    unfold matchL
    rw [Bool.or_eq_true] at hc
    rcases hc with hc | hc
    · have hl2 : l'.length = l.length := by simpa using hlen.symm
      have e : bt E l'.length = fbit d r t imm c l := by rw [hl2]; unfold bt; rw [← hb]; congr 2; omega
      rw [e]
      unfold miss fbit
      rw [Bool.or_eq_true, Bool.and_eq_true, Bool.and_eq_true] at hc
      simp only [beq_iff_eq] at hc
      rcases hc with ⟨a, b⟩ | ⟨a, b⟩ <;> rw [a, b] <;> rfl
    · rw [match_other h0 h1 hr (by simpa using hlen) hc, Bool.and_false]
  | [], _, _, _, hc => by unfold clash at hc; cases hc
  | _ :: _, [], _, _, hc => by unfold clash at hc; cases hc
theorem clash_all {k k' : Nat} (h0 : 1 ≤ k) (h1 : k ≤ 48) (h0' : 1 ≤ k') (h1' : k' ≤ 48) (hne : k' < k) : clash (bitsL k) (bitsL k') = true := by
  have : ∀ j j' : Fin 49, j.val = 0 ∨ j'.val = 0 ∨ ¬ j'.val < j.val ∨ clash (bitsL j) (bitsL j') = true := by decide +kernel
  rcases this ⟨k, by omega⟩ ⟨k', by omega⟩ with h | h | h | h
  · simp at h; omega
  · simp at h; omega
  · exact absurd hne h
  · exact h
theorem dec_first {E : Int} {k : Nat} (hk : matchC E k = true) : ∀ (n j : Nat), j ≤ k → k < j + n → (∀ i, j ≤ i → i < k → matchC E i = false) → decCFrom E n j = ⟨k, fldC (lay (fmtT k)) E, 0⟩
  | 0, j, h1, h2, _ => by omega
  | n + 1, j, h1, h2, hno => by
    by_cases e : j = k
    · subst e; exact decCFrom_yes hk
    · rw [decCFrom_no (hno j (Nat.le_refl _) (by omega))]
      exact dec_first hk n (j + 1) (by omega) (by omega) (fun i h h' => hno i (by omega) h')

/-! ### The fields -/
theorem no_bit {k i : Nat} (h0 : 1 ≤ k) (h1 : k ≤ 48) (hi : i < 32) (hs : symE (lay (fmtT k)) i ≠ []) : (bitT k).toNat.testBit i = false := by
  have : ∀ (j : Fin 49) (i : Fin 32), j.val = 0 ∨ symE (lay (fmtT j)) i = [] ∨ (bitT j).toNat.testBit i = false := by decide +kernel
  rcases this ⟨k, by omega⟩ ⟨i, hi⟩ with h | h | h
  · simp at h; omega
  · exact absurd h hs
  · exact h
/-- A bit of what is written that has one source. -/
theorem enc_src {k : Nat} {rd rs1 rs2 imm : Int} (hl : legalC k rd rs1 rs2 imm = true) {i a j : Nat} (hi : i < 32) (hs : symE (lay (fmtT k)) i = [(a, j)]) :
    bt (encC k rd rs1 rs2 imm) i = if a = 0 then bt rd j else if a = 1 then bt rs1 j else if a = 2 then bt rs2 j else bt imm j := by
  have hop := legal_op hl
  have hu := enc_u32 hl
  have hbits := enc_bits (op := k) rfl (by omega) (by omega) hl i
  rw [hs, no_bit (by omega) (by omega) hi (by rw [hs]; simp)] at hbits
  have e : encC k rd rs1 rs2 imm % 4294967296 = encC k rd rs1 rs2 imm := by have := hu.1; have := hu.2; omega
  rw [bt_nat, e]
  unfold encC
  rw [if_pos hl, hbits]
  simp only [List.any_cons, List.any_nil, Bool.or_false, Bool.false_or]
  unfold ev
  rw [bt_nat rd, bt_nat rs1, bt_nat rs2, bt_nat imm]
  repeat' split
  all_goals rfl
end Hm
