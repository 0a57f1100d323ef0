/-
  Walks: hartref's fits and signed.
-/
import Derived.Test.YtkjkddcgigbglaaDoorW2
set_option linter.unusedVariables false
set_option linter.unusedSimpArgs false
namespace Go.Proofs.YtkjkddcgigbglaaDoor
open Go.RowKit

theorem tmod2_eq (n : Int) : (n.tmod 2 == 0) = decide (n % 2 = 0) := by
  rw [Bool.eq_iff_iff, beq_iff_eq, decide_eq_true_iff, Int.tmod_eq_emod]
  split <;> omega

def kindOk (k : Int) : Prop := k = 73 ∨ k = 83 ∨ k = 72 ∨ k = 66 ∨ k = 85 ∨ k = 74 ∨ k = 82 ∨ k = 78
theorem kind_ok (l : List UInt8) : kindOk (Hm.kind l) := by
  unfold Hm.kind Hm.kindC kindOk
  repeat' split
  all_goals decide

set_option maxHeartbeats 1000000 in
theorem fits_any (k n : Int) (w : World) (hk : kindOk k) :
    Calls Tryd.prog 17 #[.int .u8 k, .int .i64 n] w fun e w' => e = .returned (.bool (Hm.fitsB k n)) ∧ w' = w := by
  rcases hk with rfl | rfl | rfl | rfl | rfl | rfl | rfl | rfl
  · have HK : Hid (Hm.fitsB 73 n = decide (-2048 ≤ n ∧ n < 2048)) := by simp [Hid, Hm.fitsB]
    by_cases h1 : -2048 ≤ n
    all_goals
      go_enter Tryd.func17, Tryd.ntmps17
      go_wp2
      go_ret
      exact ⟨ret_bool (by rw [HK.out]; first | (simp [h1]; done) | (simp; omega)), rfl⟩
  · have HK : Hid (Hm.fitsB 83 n = decide (-2048 ≤ n ∧ n < 2048)) := by simp [Hid, Hm.fitsB]
    by_cases h1 : -2048 ≤ n
    all_goals
      go_enter Tryd.func17, Tryd.ntmps17
      go_wp2
      go_ret
      exact ⟨ret_bool (by rw [HK.out]; first | (simp [h1]; done) | (simp; omega)), rfl⟩
  · have HK : Hid (Hm.fitsB 72 n = decide (0 ≤ n ∧ n < 32)) := by simp [Hid, Hm.fitsB]
    by_cases h1 : 0 ≤ n
    all_goals
      go_enter Tryd.func17, Tryd.ntmps17
      go_wp2
      go_ret
      exact ⟨ret_bool (by rw [HK.out]; first | (simp [h1]; done) | (simp; omega)), rfl⟩
  · have HK : Hid (Hm.fitsB 66 n = decide (-4096 ≤ n ∧ n < 4096 ∧ n % 2 = 0)) := by simp [Hid, Hm.fitsB]
    have HM : Hid ((n.tmod 2 == 0) = decide (n % 2 = 0)) := tmod2_eq n
    by_cases h1 : -4096 ≤ n
    all_goals by_cases h2 : n < 4096
    all_goals
      go_enter Tryd.func17, Tryd.ntmps17
      go_wp2
      go_ret
      exact ⟨ret_bool (by rw [HK.out]; first | (simp [h1, h2]; done) | (rw [HM.out]; simp [h1, h2]; done) | (simp; omega)), rfl⟩
  · have HK : Hid (Hm.fitsB 85 n = decide (0 ≤ n ∧ n < 1048576)) := by simp [Hid, Hm.fitsB]
    by_cases h1 : 0 ≤ n
    all_goals
      go_enter Tryd.func17, Tryd.ntmps17
      go_wp2
      go_ret
      exact ⟨ret_bool (by rw [HK.out]; first | (simp [h1]; done) | (simp; omega)), rfl⟩
  · have HK : Hid (Hm.fitsB 74 n = decide (-1048576 ≤ n ∧ n < 1048576 ∧ n % 2 = 0)) := by simp [Hid, Hm.fitsB]
    have HM : Hid ((n.tmod 2 == 0) = decide (n % 2 = 0)) := tmod2_eq n
    by_cases h1 : -1048576 ≤ n
    all_goals by_cases h2 : n < 1048576
    all_goals
      go_enter Tryd.func17, Tryd.ntmps17
      go_wp2
      go_ret
      exact ⟨ret_bool (by rw [HK.out]; first | (simp [h1, h2]; done) | (rw [HM.out]; simp [h1, h2]; done) | (simp; omega)), rfl⟩
  · have HK : Hid (Hm.fitsB 82 n = decide (n = 0)) := by simp [Hid, Hm.fitsB]
    go_enter Tryd.func17, Tryd.ntmps17
    go_wp2
    go_ret
    exact ⟨ret_bool (by rw [HK.out]; rfl), rfl⟩
  · have HK : Hid (Hm.fitsB 78 n = decide (n = 0)) := by simp [Hid, Hm.fitsB]
    go_enter Tryd.func17, Tryd.ntmps17
    go_wp2
    go_ret
    exact ⟨ret_bool (by rw [HK.out]; rfl), rfl⟩

set_option maxHeartbeats 400000 in
theorem signed_any (n top : Int) (w : World) (h0 : 0 ≤ top) (h1 : top ≤ 20) (hn0 : 0 ≤ n) (hn1 : n ≤ 4294967296) :
    Calls Tryd.prog 23 #[.int .i64 n, .int .i64 top] w fun e w' => e = .returned (.int .i64 (Hm.sgn n top.toNat)) ∧ w' = w := by
  have hp := Hm.pw_pos top.toNat
  have hq := Hm.pw_le top.toNat (by omega)
  rcases Hm.bt_01 n top.toNat with hb | hb
  · have HB : Hid (Hm.sgn n top.toNat = n) := Hm.sgn_0 hb
    have hb' : (Hm.bt n top.toNat == 1) = false := by rw [hb]; rfl
    clear hb
    go_enter Tryd.func23, Tryd.ntmps23
    go_wp2_with (first | (go_at_call 32; refine (bit_any _ _ _ (by omega) (by omega) (by omega) (by omega)).mono ?_; rintro e w' ⟨rfl, rfl⟩) | (go_at_call 35; refine (power_any _ _ (by omega) (by omega)).mono ?_; rintro e w' ⟨rfl, rfl⟩))
    go_ret
    exact ⟨ret_int HB.out.symm, rfl⟩
  · have HB : Hid (Hm.sgn n top.toNat = n - 2 * Hm.pw top.toNat) := Hm.sgn_1 hb
    have hb' : (Hm.bt n top.toNat == 1) = true := by rw [hb]; rfl
    clear hb
    go_enter Tryd.func23, Tryd.ntmps23
    go_wp2_with (first | (go_at_call 32; refine (bit_any _ _ _ (by omega) (by omega) (by omega) (by omega)).mono ?_; rintro e w' ⟨rfl, rfl⟩) | (go_at_call 35; refine (power_any _ _ (by omega) (by omega)).mono ?_; rintro e w' ⟨rfl, rfl⟩))
    go_ret
    exact ⟨ret_int HB.out.symm, rfl⟩

end Go.Proofs.YtkjkddcgigbglaaDoor
