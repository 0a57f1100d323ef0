/-
  OE in one text.
-/
import Derived.Test.YtdcmdjeooklmjaaDoorWE
import Derived.Test.YtdcmdjeooklmjaaDoorWA
set_option linter.unusedVariables false
set_option linter.unusedSimpArgs false
/-
  The numbers of jumps and branches are even.
-/
namespace Hm
theorem or_even (a b : Int) (ha : 0 ≤ a) (hb : 0 ≤ b) (h : b % 2 = 0) : orI a b % 2 = a % 2 := by
  obtain ⟨n, rfl⟩ := Int.eq_ofNat_of_zero_le ha
  obtain ⟨m, rfl⟩ := Int.eq_ofNat_of_zero_le hb
  unfold orI
  have hm : m % 2 ^ 1 = 0 := by omega
  have : (n ||| m) % 2 ^ 1 = n % 2 ^ 1 := by rw [Nat.or_mod_two_pow, hm, Nat.or_zero]
  simp only [Int.toNat_natCast]
  omega
theorem or_small {a b : Int} {w : Nat} (ha : 0 ≤ a) (hb : 0 ≤ b) (h1 : a < pw w) (h2 : b < pw w) : orI a b < pw w := by
  obtain ⟨n, rfl⟩ := Int.eq_ofNat_of_zero_le ha
  obtain ⟨m, rfl⟩ := Int.eq_ofNat_of_zero_le hb
  have e : pw w = ((2 ^ w : Nat) : Int) := by unfold pw; simp
  rw [e] at h1 h2 ⊢
  have := Nat.or_lt_two_pow (x := n) (y := m) (n := w) (by omega) (by omega)
  unfold orI
  simp only [Int.toNat_natCast]
  omega
theorem putC_small {f c a x : Int} {w : Nat} (hc : 0 ≤ c) (ha : 0 ≤ a) (h : c.toNat + a.toNat ≤ w) : putC f c a x < pw w := by
  unfold putC
  have h1 := Int.emod_lt_of_pos (x / pw f.toNat) (pw_pos c.toNat)
  have h0 := Int.emod_nonneg (x / pw f.toNat) (show pw c.toNat ≠ 0 by have := pw_pos c.toNat; omega)
  have h2 : x / pw f.toNat % pw c.toNat * pw a.toNat < pw c.toNat * pw a.toNat := Int.mul_lt_mul_of_pos_right h1 (pw_pos _)
  rw [← pw_add] at h2
  have h3 := pw_mono (c.toNat + a.toNat) w h
  have h4 : 0 ≤ x / pw f.toNat % pw c.toNat * pw a.toNat := Int.mul_nonneg h0 (by have := pw_pos a.toNat; omega)
  generalize x / pw f.toNat % pw c.toNat * pw a.toNat = y at *
  by_cases hy : y < 4294967296
  · rw [Int.emod_eq_of_lt h4 hy]; omega
  · have := Int.emod_lt_of_pos y (show (0 : Int) < 4294967296 by decide); omega
theorem putC_even {f c a x : Int} (h : c = 0 ∨ 1 ≤ a) (ha : 0 ≤ a) : putC f c a x % 2 = 0 := by
  unfold putC
  rcases h with rfl | h
  · have : x / pw f.toNat % pw (0 : Int).toNat = 0 := by show _ % pw 0 = 0; rw [show pw 0 = 1 from rfl]; omega
    rw [this]; simp
  · obtain ⟨k, hk⟩ : ∃ k : Nat, a.toNat = k + 1 := ⟨a.toNat - 1, by omega⟩
    rw [hk, pw_add, show pw 1 = 2 from rfl]
    generalize x / pw f.toNat % pw c.toNat = z
    rw [← Int.mul_assoc]
    generalize z * pw k = y
    omega
theorem gat_even (S : Spr) (x : Int) (h : ∀ k, k < 8 → (S.c k = 0 ∨ 1 ≤ S.f k) ∧ 0 ≤ S.f k) : ∀ k, k ≤ 8 → gatA S x k % 2 = 0
  | 0, _ => rfl
  | k + 1, hk => by
    rw [gatA, or_even _ _ (gatA_u32 S x k).1 (putC_u32 _ _ _ _).1 (putC_even (h k (by omega)).1 (h k (by omega)).2)]
    exact gat_even S x h k (by omega)
theorem gat_small (S : Spr) (x : Int) (w : Nat) (h : ∀ k, k < 8 → (0 ≤ S.c k ∧ 0 ≤ S.f k) ∧ (S.c k).toNat + (S.f k).toNat ≤ w) : ∀ k, k ≤ 8 → gatA S x k < pw w
  | 0, _ => pw_pos w
  | k + 1, hk => by
    rw [gatA]
    exact or_small (gatA_u32 S x k).1 (putC_u32 _ _ _ _).1 (gat_small S x w h k (by omega)) (putC_small (h k (by omega)).1.1 (h k (by omega)).1.2 (h k (by omega)).2)
theorem spr8_f (k : Nat) (hk : k < 8) : ((spr8.c k = 0 ∨ 1 ≤ spr8.f k) ∧ 0 ≤ spr8.f k) ∧ (0 ≤ spr8.c k ∧ 0 ≤ spr8.f k) ∧ (spr8.c k).toNat + (spr8.f k).toNat ≤ 9 := by
  have : ∀ j : Fin 8, ((spr8.c j = 0 ∨ 1 ≤ spr8.f j) ∧ 0 ≤ spr8.f j) ∧ (0 ≤ spr8.c j ∧ 0 ≤ spr8.f j) ∧ (spr8.c j).toNat + (spr8.f j).toNat ≤ 9 := by decide
  exact this ⟨k, hk⟩
theorem spr9_f (k : Nat) (hk : k < 8) : ((spr9.c k = 0 ∨ 1 ≤ spr9.f k) ∧ 0 ≤ spr9.f k) ∧ (0 ≤ spr9.c k ∧ 0 ≤ spr9.f k) ∧ (spr9.c k).toNat + (spr9.f k).toNat ≤ 12 := by
  have : ∀ j : Fin 8, ((spr9.c j = 0 ∨ 1 ≤ spr9.f j) ∧ 0 ≤ spr9.f j) ∧ (0 ≤ spr9.c j ∧ 0 ≤ spr9.f j) ∧ (spr9.c j).toNat + (spr9.f j).toNat ≤ 12 := by decide
  exact this ⟨k, hk⟩
theorem stake_even (s x : Int) (h : s = 8 ∨ s = 9) : stakeC s x % 2 = 0 ∧ -2048 ≤ stakeC s x := by
  rcases h with rfl | rfl
  · have e : spr 8 = spr8 := rfl
    have ev := gat_even spr8 x (fun k hk => (spr8_f k hk).1) 8 (Nat.le_refl _)
    have sm := gat_small spr8 x 9 (fun k hk => (spr8_f k hk).2) 8 (Nat.le_refl _)
    have g0 := (gatA_u32 spr8 x 8).1
    unfold stakeC
    rw [e, show spr8.signed = true from rfl, if_pos rfl, show pw (32 - wid 8) = 8388608 from rfl]
    rw [show pw 9 = 512 from rfl] at sm
    generalize gatA spr8 x 8 = g at *
    split <;> omega
  · have e : spr 9 = spr9 := rfl
    have ev := gat_even spr9 x (fun k hk => (spr9_f k hk).1) 8 (Nat.le_refl _)
    have sm := gat_small spr9 x 12 (fun k hk => (spr9_f k hk).2) 8 (Nat.le_refl _)
    have g0 := (gatA_u32 spr9 x 8).1
    unfold stakeC
    rw [e, show spr9.signed = true from rfl, if_pos rfl, show pw (32 - wid 9) = 1048576 from rfl]
    rw [show pw 12 = 4096 from rfl] at sm
    generalize gatA spr9 x 8 = g at *
    split <;> omega
/-- Ops whose Imm is a distance. -/
def distOp (op : Int) : Prop := op = 3 ∨ (5 ≤ op ∧ op ≤ 10)
theorem dist_row {k : Nat} (hk : k < 26) (h : distOp (rowC k).op) : ((rowC k).imm = 8 ∨ (rowC k).imm = 9) ∧ (lay (fmtOf (rowC k).op)).least ≤ -2048 := by
  have : ∀ j : Fin 26, ¬ ((rowC j).op = 3 ∨ (5 ≤ (rowC j).op ∧ (rowC j).op ≤ 10)) ∨ (((rowC j).imm = 8 ∨ (rowC j).imm = 9) ∧ (lay (fmtOf (rowC j).op)).least ≤ -2048) := by decide +kernel
  rcases this ⟨k, hk⟩ with h1 | h1
  · exact absurd h h1
  · exact h1
theorem exp_even (x : Int) (h : distOp (expC x).op) : (expC x).f.imm % 2 = 0 := by
  have hz : ¬ distOp 0 := by unfold distOp; omega
  have key : ∀ n k : Nat, n + k ≤ 26 → distOp (expCFrom x n k).op → (expCFrom x n k).f.imm % 2 = 0 := by
    intro n
    induction n with
    | zero => intro k _ h; exact absurd h hz
    | succ n ih =>
      intro k hn h
      rw [expCFrom] at h ⊢
      split at h
      · rename_i hm
        rw [if_pos hm]
        obtain ⟨h1, h2⟩ := dist_row (k := k) (by omega) h
        obtain ⟨s1, s2⟩ := stake_even (rowC k).imm x h1
        show wrapC _ _ (stakeC (rowC k).imm x) % 2 = 0
        unfold wrapC
        rw [if_neg (by omega)]
        exact s1
      · rename_i hm
        rw [if_neg hm]
        exact ih _ (by omega) h
  unfold expC at h ⊢
  split at h
  · exact absurd h hz
  · rename_i hc
    rw [if_neg hc]
    exact key 26 0 (by omega) h
theorem dec_even (x : Int) (x0 : 0 ≤ x) (x1 : x < 4294967296) (h : distOp (decC x).op) : (decC x).f.imm % 2 = 0 := by
  have hz : ¬ distOp 0 := by unfold distOp; omega
  have hev : ∀ j : Fin 49, ¬ ((j.val : Int) = 3 ∨ (5 ≤ (j.val : Int) ∧ (j.val : Int) ≤ 10)) ∨ ((lay (fmtOf j.val)).even = true ∧ fmtOf j.val ≠ 0) := by decide +kernel
  have key : ∀ n k : Nat, 1 ≤ k → n + k ≤ 49 → distOp (decCFrom x n k).op → (decCFrom x n k).f.imm % 2 = 0 := by
    intro n
    induction n with
    | zero => intro k _ _ h; exact absurd h hz
    | succ n ih =>
      intro k hk hn h
      rw [decCFrom] at h ⊢
      split at h
      · rename_i hm
        rw [if_pos hm]
        have hl := legal_b (k := k) x0 x1 hk (by omega)
        rcases hev ⟨k, by omega⟩ with h1 | ⟨h1, h2⟩
        · exact absurd h h1
        · unfold legalC at hl
          rw [if_neg h2] at hl
          simp only [Bool.and_eq_true] at hl
          have h3 := of_decide_eq_true hl.2
          exact Classical.byContradiction fun hne => h3.2.2 ⟨h1, hne⟩
      · rename_i hm
        rw [if_neg hm]
        exact ih _ (by omega) (by omega) h
  exact key 48 1 (by omega) (by omega) h
end Hm
