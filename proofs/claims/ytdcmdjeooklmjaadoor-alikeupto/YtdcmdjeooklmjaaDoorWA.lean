/-
  Z8 in one text.
-/
import Derived.Test.YtdcmdjeooklmjaaDoorGF
set_option linter.unusedVariables false
set_option linter.unusedSimpArgs false
/-
  The plain mathematics of Round, its second half: what is read is written.
-/
namespace Hm

theorem mod_bit (z : Int) {n j : Nat} (hj : j < n) : z % pw n / pw j % 2 = z / pw j % 2 := by
  have hp := pw_pos j
  have e32 : pw n = pw j * pw (n - j) := by rw [← pw_add, show j + (n - j) = n from by omega]
  have e2 : pw (n - j) = 2 * pw (n - j - 1) := by rw [← pw_succ]; congr 1; omega
  have h := Int.emod_add_mul_ediv z (pw n)
  have h1 : z / pw j = z % pw n / pw j + pw (n - j) * (z / pw n) := by
    conv => lhs; rw [← h]
    rw [show pw n * (z / pw n) = pw j * (pw (n - j) * (z / pw n)) from by rw [← Int.mul_assoc, ← e32]]
    exact Int.add_mul_ediv_left _ _ (by omega)
  rw [h1, e2, Int.mul_assoc]
  generalize pw (n - j - 1) * (z / pw n) = y
  omega
theorem bt_sbx (x : Int) (lo : Nat) {n j : Nat} (hj : j < n) (hn : n ≤ 32) : bt (sbx x lo n) j = bt x (lo + j) := by
  rw [bt_floor _ _ (by omega), sbx_eq, mod_bit _ hj]
  unfold bt
  have := pw_pos lo
  rw [pw_add, Int.ediv_ediv_of_nonneg (by omega)]
theorem bt_sub (n : Int) {m j : Nat} (hj : j < m) (hm : m ≤ 32) : bt (n - pw m) j = bt n j := by
  rw [bt_floor _ _ (by omega), bt_floor _ _ (by omega)]
  have hp := pw_pos j
  have e : pw m = pw j * pw (m - j) := by rw [← pw_add, show j + (m - j) = m from by omega]
  have e2 : pw (m - j) = 2 * pw (m - j - 1) := by rw [← pw_succ]; congr 1; omega
  have h1 : (n - pw m) / pw j = n / pw j + -(pw (m - j)) := by
    rw [Int.sub_eq_add_neg, e, ← Int.mul_neg]
    exact Int.add_mul_ediv_left _ _ (by omega)
  rw [h1, e2]
  generalize pw (m - j - 1) = y
  omega

def symI (L : Lay) (i : Nat) : List (Nat × Nat) := symP L.a0 L.c0 L.f0 i ++ symP L.a1 L.c1 L.f1 i ++ symP L.a2 L.c2 L.f2 i ++ symP L.a3 L.c3 L.f3 i
theorem imm_bits (L : Lay) (x : Int) (x0 : 0 ≤ x) (i : Nat) : (immA L x 4).toNat.testBit i = (symI L i).any (ev (fun _ => false) (fun _ => false) (fun _ => false) (fun j => x.toNat.testBit j)) := by
  have hp : ∀ f c a, (putC f c a x).toNat.testBit i = (symP f c a i).any (ev (fun _ => false) (fun _ => false) (fun _ => false) (fun j => x.toNat.testBit j)) := fun f c a =>
    put_bit f c a x i x0 _ _ _ _ (fun j => by simp [ev])
  have h0 : (0 : Int).toNat.testBit i = false := by simp
  unfold symI
  simp only [immA, orI_bit, hp, h0, List.any_append, Bool.false_or, Bool.or_assoc]

def PosOk (f : Int) (i : Nat) : Prop :=
  (symE (lay f) i = [] ∧ (tellC f).toNat.testBit i = true) ∨ (symE (lay f) i = [(0, i - 7)] ∧ (lay f).rd = true ∧ 7 ≤ i ∧ i < 12) ∨ (symE (lay f) i = [(1, i - 15)] ∧ (lay f).rs1 = true ∧ 15 ≤ i ∧ i < 20) ∨ (symE (lay f) i = [(2, i - 20)] ∧ (lay f).rs2 = true ∧ 20 ≤ i ∧ i < 25)
  ∨ ∃ j : Fin 21, symE (lay f) i = [(3, j.val)] ∧ symI (lay f) j.val = [(3, i)] ∧ (j.val : Int) ≤ hiF f
theorem pos_ok {f : Int} (h0 : 1 ≤ f) (h1 : f ≤ 8) {i : Nat} (hi : i < 32) : PosOk f i := by
  have hf : f = 1 ∨ f = 2 ∨ f = 3 ∨ f = 4 ∨ f = 5 ∨ f = 6 ∨ f = 7 ∨ f = 8 := by omega
  unfold PosOk
  rcases hf with rfl | rfl | rfl | rfl | rfl | rfl | rfl | rfl
  · exact (show ∀ q : Fin 32, (symE (lay 1) q.val = [] ∧ (tellC 1).toNat.testBit q.val = true) ∨ (symE (lay 1) q.val = [(0, q.val - 7)] ∧ (lay 1).rd = true ∧ 7 ≤ q.val ∧ q.val < 12) ∨ (symE (lay 1) q.val = [(1, q.val - 15)] ∧ (lay 1).rs1 = true ∧ 15 ≤ q.val ∧ q.val < 20) ∨ (symE (lay 1) q.val = [(2, q.val - 20)] ∧ (lay 1).rs2 = true ∧ 20 ≤ q.val ∧ q.val < 25) ∨ ∃ j : Fin 21, symE (lay 1) q.val = [(3, j.val)] ∧ symI (lay 1) j.val = [(3, q.val)] ∧ (j.val : Int) ≤ hiF 1 by decide +kernel) ⟨i, hi⟩
  · exact (show ∀ q : Fin 32, (symE (lay 2) q.val = [] ∧ (tellC 2).toNat.testBit q.val = true) ∨ (symE (lay 2) q.val = [(0, q.val - 7)] ∧ (lay 2).rd = true ∧ 7 ≤ q.val ∧ q.val < 12) ∨ (symE (lay 2) q.val = [(1, q.val - 15)] ∧ (lay 2).rs1 = true ∧ 15 ≤ q.val ∧ q.val < 20) ∨ (symE (lay 2) q.val = [(2, q.val - 20)] ∧ (lay 2).rs2 = true ∧ 20 ≤ q.val ∧ q.val < 25) ∨ ∃ j : Fin 21, symE (lay 2) q.val = [(3, j.val)] ∧ symI (lay 2) j.val = [(3, q.val)] ∧ (j.val : Int) ≤ hiF 2 by decide +kernel) ⟨i, hi⟩
  · exact (show ∀ q : Fin 32, (symE (lay 3) q.val = [] ∧ (tellC 3).toNat.testBit q.val = true) ∨ (symE (lay 3) q.val = [(0, q.val - 7)] ∧ (lay 3).rd = true ∧ 7 ≤ q.val ∧ q.val < 12) ∨ (symE (lay 3) q.val = [(1, q.val - 15)] ∧ (lay 3).rs1 = true ∧ 15 ≤ q.val ∧ q.val < 20) ∨ (symE (lay 3) q.val = [(2, q.val - 20)] ∧ (lay 3).rs2 = true ∧ 20 ≤ q.val ∧ q.val < 25) ∨ ∃ j : Fin 21, symE (lay 3) q.val = [(3, j.val)] ∧ symI (lay 3) j.val = [(3, q.val)] ∧ (j.val : Int) ≤ hiF 3 by decide +kernel) ⟨i, hi⟩
  · exact (show ∀ q : Fin 32, (symE (lay 4) q.val = [] ∧ (tellC 4).toNat.testBit q.val = true) ∨ (symE (lay 4) q.val = [(0, q.val - 7)] ∧ (lay 4).rd = true ∧ 7 ≤ q.val ∧ q.val < 12) ∨ (symE (lay 4) q.val = [(1, q.val - 15)] ∧ (lay 4).rs1 = true ∧ 15 ≤ q.val ∧ q.val < 20) ∨ (symE (lay 4) q.val = [(2, q.val - 20)] ∧ (lay 4).rs2 = true ∧ 20 ≤ q.val ∧ q.val < 25) ∨ ∃ j : Fin 21, symE (lay 4) q.val = [(3, j.val)] ∧ symI (lay 4) j.val = [(3, q.val)] ∧ (j.val : Int) ≤ hiF 4 by decide +kernel) ⟨i, hi⟩
  · exact (show ∀ q : Fin 32, (symE (lay 5) q.val = [] ∧ (tellC 5).toNat.testBit q.val = true) ∨ (symE (lay 5) q.val = [(0, q.val - 7)] ∧ (lay 5).rd = true ∧ 7 ≤ q.val ∧ q.val < 12) ∨ (symE (lay 5) q.val = [(1, q.val - 15)] ∧ (lay 5).rs1 = true ∧ 15 ≤ q.val ∧ q.val < 20) ∨ (symE (lay 5) q.val = [(2, q.val - 20)] ∧ (lay 5).rs2 = true ∧ 20 ≤ q.val ∧ q.val < 25) ∨ ∃ j : Fin 21, symE (lay 5) q.val = [(3, j.val)] ∧ symI (lay 5) j.val = [(3, q.val)] ∧ (j.val : Int) ≤ hiF 5 by decide +kernel) ⟨i, hi⟩
  · exact (show ∀ q : Fin 32, (symE (lay 6) q.val = [] ∧ (tellC 6).toNat.testBit q.val = true) ∨ (symE (lay 6) q.val = [(0, q.val - 7)] ∧ (lay 6).rd = true ∧ 7 ≤ q.val ∧ q.val < 12) ∨ (symE (lay 6) q.val = [(1, q.val - 15)] ∧ (lay 6).rs1 = true ∧ 15 ≤ q.val ∧ q.val < 20) ∨ (symE (lay 6) q.val = [(2, q.val - 20)] ∧ (lay 6).rs2 = true ∧ 20 ≤ q.val ∧ q.val < 25) ∨ ∃ j : Fin 21, symE (lay 6) q.val = [(3, j.val)] ∧ symI (lay 6) j.val = [(3, q.val)] ∧ (j.val : Int) ≤ hiF 6 by decide +kernel) ⟨i, hi⟩
  · exact (show ∀ q : Fin 32, (symE (lay 7) q.val = [] ∧ (tellC 7).toNat.testBit q.val = true) ∨ (symE (lay 7) q.val = [(0, q.val - 7)] ∧ (lay 7).rd = true ∧ 7 ≤ q.val ∧ q.val < 12) ∨ (symE (lay 7) q.val = [(1, q.val - 15)] ∧ (lay 7).rs1 = true ∧ 15 ≤ q.val ∧ q.val < 20) ∨ (symE (lay 7) q.val = [(2, q.val - 20)] ∧ (lay 7).rs2 = true ∧ 20 ≤ q.val ∧ q.val < 25) ∨ ∃ j : Fin 21, symE (lay 7) q.val = [(3, j.val)] ∧ symI (lay 7) j.val = [(3, q.val)] ∧ (j.val : Int) ≤ hiF 7 by decide +kernel) ⟨i, hi⟩
  · exact (show ∀ q : Fin 32, (symE (lay 8) q.val = [] ∧ (tellC 8).toNat.testBit q.val = true) ∨ (symE (lay 8) q.val = [(0, q.val - 7)] ∧ (lay 8).rd = true ∧ 7 ≤ q.val ∧ q.val < 12) ∨ (symE (lay 8) q.val = [(1, q.val - 15)] ∧ (lay 8).rs1 = true ∧ 15 ≤ q.val ∧ q.val < 20) ∨ (symE (lay 8) q.val = [(2, q.val - 20)] ∧ (lay 8).rs2 = true ∧ 20 ≤ q.val ∧ q.val < 25) ∨ ∃ j : Fin 21, symE (lay 8) q.val = [(3, j.val)] ∧ symI (lay 8) j.val = [(3, q.val)] ∧ (j.val : Int) ≤ hiF 8 by decide +kernel) ⟨i, hi⟩
theorem symE_far (L : Lay) {i : Nat} (hi : 32 ≤ i) : symE L i = [] := by
  unfold symE symP
  simp [show ¬ i < 12 from by omega, show ¬ i < 20 from by omega, show ¬ i < 25 from by omega, show ¬ i < 32 from by omega]
theorem sgn_bit (f n : Int) (h0 : 1 ≤ f) (h1 : f ≤ 8) {j : Nat} (hj : (j : Int) ≤ hiF f) : bt (sgnC (lay f).least (lay f).most n) j = bt n j := by
  have hf : f = 1 ∨ f = 2 ∨ f = 3 ∨ f = 4 ∨ f = 5 ∨ f = 6 ∨ f = 7 ∨ f = 8 := by omega
  unfold sgnC
  split
  · rcases hf with rfl | rfl | rfl | rfl | rfl | rfl | rfl | rfl
    · show bt (n + 2 * 0) j = bt n j; rw [show n + 2 * 0 = n from by omega]
    · have hj' : j < 12 := by have : (j : Int) ≤ 11 := hj; omega
      show bt (n + 2 * (-2048)) j = bt n j
      have e : pw 12 = 4096 := by decide
      rw [show n + 2 * (-2048) = n - pw 12 from by omega]
      exact bt_sub n hj' (by decide)
    · show bt (n + 2 * 0) j = bt n j; rw [show n + 2 * 0 = n from by omega]
    · have hj' : j < 12 := by have : (j : Int) ≤ 11 := hj; omega
      show bt (n + 2 * (-2048)) j = bt n j
      have e : pw 12 = 4096 := by decide
      rw [show n + 2 * (-2048) = n - pw 12 from by omega]
      exact bt_sub n hj' (by decide)
    · have hj' : j < 13 := by have : (j : Int) ≤ 12 := hj; omega
      show bt (n + 2 * (-4096)) j = bt n j
      have e : pw 13 = 8192 := by decide
      rw [show n + 2 * (-4096) = n - pw 13 from by omega]
      exact bt_sub n hj' (by decide)
    · show bt (n + 2 * 0) j = bt n j; rw [show n + 2 * 0 = n from by omega]
    · have hj' : j < 21 := by have : (j : Int) ≤ 20 := hj; omega
      show bt (n + 2 * (-1048576)) j = bt n j
      have e : pw 21 = 2097152 := by decide
      rw [show n + 2 * (-1048576) = n - pw 21 from by omega]
      exact bt_sub n hj' (by decide)
    · show bt (n + 2 * 0) j = bt n j; rw [show n + 2 * 0 = n from by omega]
  · rfl

/-- The bits of what was read. -/
theorem bits_b {k : Nat} {x : Int} (x0 : 0 ≤ x) (x1 : x < 4294967296) (h0 : 1 ≤ k) (h1 : k ≤ 48) (hf : fmtT k ≤ 8) (hm : matchC x k = true) (i : Nat) :
    x.toNat.testBit i = ((bitT k).toNat.testBit i || (symE (lay (fmtT k)) i).any (ev (fun j => ((fldC (lay (fmtT k)) x).d % 4294967296).toNat.testBit j) (fun j => ((fldC (lay (fmtT k)) x).r % 4294967296).toNat.testBit j) (fun j => ((fldC (lay (fmtT k)) x).t % 4294967296).toNat.testBit j) (fun j => ((fldC (lay (fmtT k)) x).imm % 4294967296).toNat.testBit j))) := by
  have ht := tab_ok h0 h1
  obtain ⟨_, _, hlt, hnn⟩ := okM_all h0 h1
  obtain ⟨g1, g2, g3⟩ := reg_sbx x x0 x1
  have ex : x % 4294967296 = x := by omega
  by_cases hi : i < 32
  · have hand : x.toNat &&& (tellC (fmtT k)).toNat = (bitT k).toNat := by
      unfold matchC andI at hm
      rw [beq_iff_eq] at hm
      rw [← hm, Int.toNat_natCast]
    rcases pos_ok ht.f0 hf hi with ⟨hs, htl⟩ | ⟨hs, hu, ha, hb⟩ | ⟨hs, hu, ha, hb⟩ | ⟨hs, hu, ha, hb⟩ | ⟨j, hs, hI, hj⟩
    · rw [hs, ← hand, Nat.testBit_and, htl]; simp
    · rw [hs, no_bit h0 h1 hi (by rw [hs]; simp)]
      have e : (fldC (lay (fmtT k)) x).d = sbx x 7 5 := by show regC (x / 128) (lay (fmtT k)).rd = _; rw [hu, g1]
      simp only [List.any_cons, List.any_nil, Bool.or_false, Bool.false_or]
      show _ = ((fldC (lay (fmtT k)) x).d % 4294967296).toNat.testBit (i - 7)
      apply b01_inj
      rw [← bt_nat, e, bt_sbx x 7 (by omega) (by decide), bt_nat, ex, show 7 + (i - 7) = i from by omega]
    · rw [hs, no_bit h0 h1 hi (by rw [hs]; simp)]
      have e : (fldC (lay (fmtT k)) x).r = sbx x 15 5 := by show regC (x / 32768) (lay (fmtT k)).rs1 = _; rw [hu, g2]
      simp only [List.any_cons, List.any_nil, Bool.or_false, Bool.false_or]
      show _ = ((fldC (lay (fmtT k)) x).r % 4294967296).toNat.testBit (i - 15)
      apply b01_inj
      rw [← bt_nat, e, bt_sbx x 15 (by omega) (by decide), bt_nat, ex, show 15 + (i - 15) = i from by omega]
    · rw [hs, no_bit h0 h1 hi (by rw [hs]; simp)]
      have e : (fldC (lay (fmtT k)) x).t = sbx x 20 5 := by show regC (x / 1048576) (lay (fmtT k)).rs2 = _; rw [hu, g3]
      simp only [List.any_cons, List.any_nil, Bool.or_false, Bool.false_or]
      show _ = ((fldC (lay (fmtT k)) x).t % 4294967296).toNat.testBit (i - 20)
      apply b01_inj
      rw [← bt_nat, e, bt_sbx x 20 (by omega) (by decide), bt_nat, ex, show 20 + (i - 20) = i from by omega]
    · rw [hs, no_bit h0 h1 hi (by rw [hs]; simp)]
      simp only [List.any_cons, List.any_nil, Bool.or_false, Bool.false_or]
      show _ = ((fldC (lay (fmtT k)) x).imm % 4294967296).toNat.testBit j.val
      have hu := immA_u32 (L := lay (fmtT k)) (x := x) 4
      have en : immA (lay (fmtT k)) x 4 % 4294967296 = immA (lay (fmtT k)) x 4 := by have := hu.1; have := hu.2; omega
      have hb := imm_bits (lay (fmtT k)) x x0 j.val
      rw [hI] at hb
      have hb' : (immA (lay (fmtT k)) x 4).toNat.testBit j.val = x.toNat.testBit i := by rw [hb]; simp [ev]
      apply b01_inj
      rw [← bt_nat]
      show _ = bt (sgnC (lay (fmtT k)).least (lay (fmtT k)).most (immA (lay (fmtT k)) x 4)) j.val
      rw [sgn_bit _ _ ht.f0 hf hj, bt_nat, en, hb']
  · have hp : 2 ^ 32 ≤ 2 ^ i := Nat.pow_le_pow_right (by decide) (by omega)
    have e32 : (2 : Nat) ^ 32 = 4294967296 := by decide
    have hx : x.toNat < 2 ^ 32 := by omega
    rw [symE_far _ (by omega), Nat.testBit_lt_two_pow (Nat.lt_of_lt_of_le hx hp), Nat.testBit_lt_two_pow (Nat.lt_of_lt_of_le hlt hp)]; rfl

/-- What was read is legal. -/
theorem legal_b {k : Nat} {x : Int} (x0 : 0 ≤ x) (x1 : x < 4294967296) (h0 : 1 ≤ k) (h1 : k ≤ 48) : legalC k (fldC (lay (fmtT k)) x).d (fldC (lay (fmtT k)) x).r (fldC (lay (fmtT k)) x).t (fldC (lay (fmtT k)) x).imm = true := by
  have ht := tab_ok h0 h1
  have f0 := ht.f0
  have f1 := ht.f1
  have hf : fmtOf (k : Int) = fmtT k := by unfold fmtOf; rw [if_pos (by omega), Int.toNat_natCast]
  unfold legalC
  rw [hf, if_neg (by omega)]
  have hreg : ∀ (y : Int) (u : Bool), fitsC (regC y u) u = true := fun y u => by
    cases u
    · rfl
    · simp [fitsC, regC]; omega
  have e1 : fitsC (fldC (lay (fmtT k)) x).d (lay (fmtT k)).rd = true := hreg _ _
  have e2 : fitsC (fldC (lay (fmtT k)) x).r (lay (fmtT k)).rs1 = true := hreg _ _
  have e3 : fitsC (fldC (lay (fmtT k)) x).t (lay (fmtT k)).rs2 = true := hreg _ _
  rw [e1, e2, e3, Bool.true_and, Bool.true_and, Bool.true_and]
  show holdsC _ _ _ (sgnC (lay (fmtT k)).least (lay (fmtT k)).most (immA (lay (fmtT k)) x 4)) = true
  generalize fmtT k = f at *
  have hc : f = 1 ∨ f = 2 ∨ f = 3 ∨ f = 4 ∨ f = 5 ∨ f = 6 ∨ f = 7 ∨ f = 8 ∨ f = 9 := by omega
  rcases hc with rfl | rfl | rfl | rfl | rfl | rfl | rfl | rfl | rfl
  · show holdsC (0) 0 false (sgnC (0) 0 (immA layR x 4)) = true
    rw [immSR x x0 x1]
    decide
  · show holdsC (-2048) 2047 false (sgnC (-2048) 2047 (immA layI x 4)) = true
    rw [immSI x x0 x1]
    have b0 := sbx_bd x 20 12
    simp only [pw12] at b0
    unfold holdsC sgnC
    rw [decide_eq_true_iff]
    split <;> simp <;> omega
  · show holdsC (0) 31 false (sgnC (0) 31 (immA layH x 4)) = true
    rw [immSH x x0 x1]
    have b0 := sbx_bd x 20 5
    simp only [pw5] at b0
    unfold holdsC sgnC
    rw [decide_eq_true_iff]
    split <;> simp <;> omega
  · show holdsC (-2048) 2047 false (sgnC (-2048) 2047 (immA layS x 4)) = true
    rw [immSS x x0 x1]
    have b0 := sbx_bd x 25 7
    have b1 := sbx_bd x 7 5
    simp only [pw5, pw7] at b0 b1
    unfold holdsC sgnC
    rw [decide_eq_true_iff]
    split <;> simp <;> omega
  · show holdsC (-4096) 4094 true (sgnC (-4096) 4094 (immA layB x 4)) = true
    rw [immSB x x0 x1]
    have b0 := sbx_bd x 31 1
    have b1 := sbx_bd x 25 6
    have b2 := sbx_bd x 8 4
    have b3 := sbx_bd x 7 1
    simp only [pw1, pw4, pw6] at b0 b1 b2 b3
    unfold holdsC sgnC
    rw [decide_eq_true_iff]
    split <;> simp <;> omega
  · show holdsC (0) 1048575 false (sgnC (0) 1048575 (immA layU x 4)) = true
    rw [immSU x x0 x1]
    have b0 := sbx_bd x 12 20
    simp only [pw20] at b0
    unfold holdsC sgnC
    rw [decide_eq_true_iff]
    split <;> simp <;> omega
  · show holdsC (-1048576) 1048574 true (sgnC (-1048576) 1048574 (immA layJ x 4)) = true
    rw [immSJ x x0 x1]
    have b0 := sbx_bd x 31 1
    have b1 := sbx_bd x 21 10
    have b2 := sbx_bd x 20 1
    have b3 := sbx_bd x 12 8
    simp only [pw1, pw8, pw10] at b0 b1 b2 b3
    unfold holdsC sgnC
    rw [decide_eq_true_iff]
    split <;> simp <;> omega
  · show holdsC (0) 0 false (sgnC (0) 0 (immA layN x 4)) = true
    rw [immSN x x0 x1]
    decide
  · show holdsC (0) 0 false (sgnC (0) 0 (immA layN x 4)) = true
    rw [immSN x x0 x1]
    decide

/-- What was read is written as it was, but of a fence. -/
theorem enc_b {k : Nat} {x : Int} (x0 : 0 ≤ x) (x1 : x < 4294967296) (h0 : 1 ≤ k) (h1 : k ≤ 48) (hf : fmtT k ≤ 8) (hm : matchC x k = true) :
    encC k (fldC (lay (fmtT k)) x).d (fldC (lay (fmtT k)) x).r (fldC (lay (fmtT k)) x).t (fldC (lay (fmtT k)) x).imm = x := by
  have hl := legal_b x0 x1 h0 h1 (x := x)
  have hu := enc_u32 hl
  have hb := enc_ok hl
  obtain ⟨ok, hlen⟩ := ok_all h0 h1
  have hbits := bits_b x0 x1 h0 h1 hf hm
  have e32 : pw 32 = 4294967296 := by decide
  obtain ⟨N, rfl⟩ := Int.eq_ofNat_of_zero_le x0
  rw [Int.toNat_natCast] at hbits
  have hb2 := bitsOk_of hbits ok
  have a1 := fill_unique hb (w := 0) (by rw [hlen, e32]; have := hu.1; have := hu.2; omega)
  have a2 := fill_unique hb2 (w := 0) (by rw [hlen, e32]; omega)
  exact a1.trans a2.symm
theorem fence_fmt {k : Nat} (h0 : 1 ≤ k) (h1 : k ≤ 48) (hf : ¬ fmtT k ≤ 8) : k = 46 := by
  have : ∀ j : Fin 49, j.val = 0 ∨ fmtT j ≤ 8 ∨ j.val = 46 := by decide +kernel
  rcases this ⟨k, by omega⟩ with h | h | h
  · simp at h; omega
  · exact absurd h hf
  · exact h

/-- Of every 32 bits. -/
def RoundB (x : Int) (D : Dec) : Prop := D = ⟨0, ⟨0, 0, 0, 0⟩, 2⟩ ∨ (D.err = 0 ∧ legalC D.op D.f.d D.f.r D.f.t D.f.imm = true ∧ (encC D.op D.f.d D.f.r D.f.t D.f.imm = x ∨ D.op = 46))
theorem round_b {x : Int} (x0 : 0 ≤ x) (x1 : x < 4294967296) : RoundB x (decC x) := by
  have h : ∀ n k, 1 ≤ k → k + n = 49 → RoundB x (decCFrom x n k) := by
    intro n
    induction n with
    | zero => intro k _ _; exact Or.inl rfl
    | succ n ih =>
      intro k hk hn
      cases hc : matchC x k with
      | false => rw [decCFrom_no hc]; exact ih (k + 1) (by omega) (by omega)
      | true =>
        rw [decCFrom_yes hc]
        refine Or.inr ⟨rfl, legal_b x0 x1 hk (by omega), ?_⟩
        by_cases hf : fmtT k ≤ 8
        · exact Or.inl (enc_b x0 x1 hk (by omega) hf hc)
        · right; have := fence_fmt hk (by omega) hf; subst this; rfl
  exact h 48 1 (by omega) (by omega)

/-! ### What raw numbers speak of is legal -/
def fmtR (op : Int) : Int := if op ≤ 2 then 6 else if op = 3 then 7 else if 5 ≤ op ∧ op ≤ 10 then 5 else if 16 ≤ op ∧ op ≤ 18 then 4 else if 25 ≤ op ∧ op ≤ 27 then 3 else if 28 ≤ op ∧ op ≤ 45 then 1 else if op < 46 then 2 else if op = 46 then 9 else 8
theorem fmtR_eq {op : Int} (h0 : 1 ≤ op) (h1 : op ≤ 48) : fmtOf op = fmtR op := by
  obtain ⟨k, rfl⟩ := Int.eq_ofNat_of_zero_le (by omega : 0 ≤ op)
  have : ∀ j : Fin 49, j.val = 0 ∨ fmtT j = fmtR (j.val : Int) := by decide +kernel
  unfold fmtOf
  rw [if_pos ⟨h0, h1⟩, Int.toNat_natCast]
  rcases this ⟨k, by omega⟩ with h | h
  · simp at h; omega
  · exact h
theorem fits_pick (c : Int) : fitsC (pickI c 32) true = true := by
  have := pick_bd c 32 (by omega)
  simp [fitsC]; omega
theorem inst_legal (op rd rs1 rs2 imm : Int) (h0 : 1 ≤ op) (h1 : op ≤ 48) : legalC op (instF op rd rs1 rs2 imm).d (instF op rd rs1 rs2 imm).r (instF op rd rs1 rs2 imm).t (instF op rd rs1 rs2 imm).imm = true := by
  have i20 := pick_bd imm 1048576 (by omega)
  have i12 := pick_bd imm 4096 (by omega)
  have i5 := pick_bd imm 32 (by omega)
  have pd := fits_pick rd
  have ps := fits_pick rs1
  have pt := fits_pick rs2
  have z : fitsC 0 false = true := rfl
  unfold legalC
  rw [fmtR_eq h0 h1]
  unfold fmtR instF
  by_cases c1 : op ≤ 2
  · simp only [if_pos c1]
    rw [if_neg (by decide), Bool.and_eq_true, Bool.and_eq_true, Bool.and_eq_true]
    exact ⟨⟨⟨pd, z⟩, z⟩, by show holdsC 0 1048575 false _ = true; simp [holdsC]; omega⟩
  simp only [if_neg c1]
  by_cases c2 : op = 3
  · simp only [if_pos c2]
    rw [if_neg (by decide), Bool.and_eq_true, Bool.and_eq_true, Bool.and_eq_true]
    exact ⟨⟨⟨pd, z⟩, z⟩, by show holdsC (-1048576) 1048574 true _ = true; simp [holdsC]; omega⟩
  simp only [if_neg c2]
  by_cases c3 : 5 ≤ op ∧ op ≤ 10
  · simp only [if_pos c3]
    rw [if_neg (by decide), Bool.and_eq_true, Bool.and_eq_true, Bool.and_eq_true]
    exact ⟨⟨⟨z, ps⟩, pt⟩, by show holdsC (-4096) 4094 true _ = true; simp [holdsC]; omega⟩
  simp only [if_neg c3]
  by_cases c4 : 16 ≤ op ∧ op ≤ 18
  · simp only [if_pos c4]
    rw [if_neg (by decide), Bool.and_eq_true, Bool.and_eq_true, Bool.and_eq_true]
    exact ⟨⟨⟨z, ps⟩, pt⟩, by show holdsC (-2048) 2047 false _ = true; simp [holdsC]; omega⟩
  simp only [if_neg c4]
  by_cases c5 : 25 ≤ op ∧ op ≤ 27
  · simp only [if_pos c5]
    rw [if_neg (by decide), Bool.and_eq_true, Bool.and_eq_true, Bool.and_eq_true]
    exact ⟨⟨⟨pd, ps⟩, z⟩, by show holdsC 0 31 false _ = true; simp [holdsC]; omega⟩
  simp only [if_neg c5]
  by_cases c6 : 28 ≤ op ∧ op ≤ 45
  · simp only [if_pos c6]
    rw [if_neg (by decide), Bool.and_eq_true, Bool.and_eq_true, Bool.and_eq_true]
    exact ⟨⟨⟨pd, ps⟩, pt⟩, rfl⟩
  simp only [if_neg c6]
  by_cases c7 : op < 46
  · simp only [if_pos c7]
    rw [if_neg (by decide), Bool.and_eq_true, Bool.and_eq_true, Bool.and_eq_true]
    exact ⟨⟨⟨pd, ps⟩, z⟩, by show holdsC (-2048) 2047 false _ = true; simp [holdsC]; omega⟩
  simp only [if_neg c7]
  by_cases c8 : op = 46
  · simp only [if_pos c8]; decide
  · simp only [if_neg c8]; decide
end Hm
