/-
  Walks: package code's leaves: fits, holds, mask, register, signed, tellingBits.
-/
import Derived.Test.YtkjkddcgigbglaaDoorW8
import Derived.Test.YtkjkddcgigbglaaDoorLV
set_option linter.unusedVariables false
set_option linter.unusedSimpArgs false
namespace Go.Proofs.YtkjkddcgigbglaaDoor
open Go.RowKit

theorem and_one_i64 (n : Int) : bits .and .i64 n 1 = n % 2 := by
  have h : (BitVec.ofInt 64 n &&& BitVec.ofInt 64 1).toNat = (n % 2).toNat := by
    rw [BitVec.toNat_and, BitVec.toNat_ofInt, BitVec.toNat_ofInt]
    have e1 : (1 % ((2 : Int) ^ 64)).toNat = 1 := by decide
    have e2 : ((2 ^ 64 : Nat) : Int) = 18446744073709551616 := by decide
    rw [e2]
    rw [show ((1 : Int) % 18446744073709551616).toNat = 1 from by decide, Nat.and_one_is_mod]
    omega
  show IntKind.i64.wrap ((BitVec.ofInt 64 n &&& BitVec.ofInt 64 1).toNat : Int) = n % 2
  rw [h, IntKind.wrap_i64]
  omega

set_option maxHeartbeats 400000 in
theorem cfits_any (n : Int) (u : Bool) (w : World) :
    Calls Tryd.prog 28 #[.int .i64 n, .bool u] w fun e w' => e = .returned (.bool (Hm.fitsC n u)) ∧ w' = w := by
  cases u with
  | false =>
    have HK : Hid (Hm.fitsC n false = decide (n = 0)) := rfl
    go_enter Tryd.func28, Tryd.ntmps28
    go_wp2
    go_ret
    exact ⟨ret_bool (by rw [HK.out]; rfl), rfl⟩
  | true =>
    by_cases h : 0 ≤ n
    · have HK : Hid (Hm.fitsC n true = decide (n < 32)) := by simp [Hid, Hm.fitsC, h]
      go_enter Tryd.func28, Tryd.ntmps28
      go_wp2
      go_ret
      exact ⟨ret_bool HK.out.symm, rfl⟩
    · have HK : Hid (Hm.fitsC n true = false) := by simp [Hid, Hm.fitsC, h]
      go_enter Tryd.func28, Tryd.ntmps28
      go_wp2
      go_ret
      exact ⟨ret_bool HK.out.symm, rfl⟩

set_option maxHeartbeats 400000 in
theorem holds_any (l m n : Int) (v : Bool) (w : World) :
    Calls Tryd.prog 29 #[.agg #[.int .i64 l, .int .i64 m, .bool v], .int .i64 n] w fun e w' => e = .returned (.bool (Hm.holdsC l m v n)) ∧ Below w.heap.size w w' := by
  have HA : Hid (bits .and .i64 n 1 = n % 2) := and_one_i64 n
  by_cases h1 : l ≤ n
  · by_cases h2 : n ≤ m
    · cases v with
      | false =>
        have HK : Hid (Hm.holdsC l m false n = true) := by simp [Hid, Hm.holdsC, h1, h2]
        go_enter Tryd.func29, Tryd.ntmps29
        go_wp2
        go_ret
        exact ⟨ret_bool HK.out.symm, (Below.refl _ _).alloc (Nat.le_refl _) _⟩
      | true =>
        have HK : Hid (Hm.holdsC l m true n = !(bits .and .i64 n 1 != 0)) := by
          show _ = _
          rw [HA.out]
          simp [Hm.holdsC, h1, h2]
          by_cases e : n % 2 = 0 <;> simp [e]
        go_enter Tryd.func29, Tryd.ntmps29
        go_wp2
        go_ret
        exact ⟨ret_bool HK.out.symm, (Below.refl _ _).alloc (Nat.le_refl _) _⟩
    · have HK : Hid (Hm.holdsC l m v n = false) := by simp [Hid, Hm.holdsC, h2]
      go_enter Tryd.func29, Tryd.ntmps29
      go_wp2
      go_ret
      exact ⟨ret_bool HK.out.symm, (Below.refl _ _).alloc (Nat.le_refl _) _⟩
  · have HK : Hid (Hm.holdsC l m v n = false) := by simp [Hid, Hm.holdsC, h1]
    go_enter Tryd.func29, Tryd.ntmps29
    go_wp2
    go_ret
    exact ⟨ret_bool HK.out.symm, (Below.refl _ _).alloc (Nat.le_refl _) _⟩

set_option maxHeartbeats 400000 in
theorem mask_any (f c a : Int) (w : World) (hc0 : 0 ≤ c) (hc1 : c ≤ 31) :
    Calls Tryd.prog 36 #[.agg #[.int .u8 f, .int .u8 c, .int .u8 a]] w fun e w' => e = .returned (.int .u32 (Hm.pw c.toNat - 1)) ∧ Below w.heap.size w w' := by
  have HP : Hid ((2 ^ c.toNat % 4294967296 - 1) % 4294967296 = Hm.pw c.toNat - 1) := by
    have h1 := Hm.pw_pos c.toNat
    have h2 : Hm.pw c.toNat ≤ 2147483648 := Hm.pw_mono c.toNat 31 (by omega)
    show (Hm.pw c.toNat % 4294967296 - 1) % 4294967296 = Hm.pw c.toNat - 1
    omega
  go_enter Tryd.func36, Tryd.ntmps36
  go_wp2
  go_ret
  exact ⟨ret_int HP.out, (Below.refl _ _).alloc (Nat.le_refl _) _⟩

theorem and_31 (x : Int) (hx0 : 0 ≤ x) (hx1 : x < 4294967296) : bits .and .u32 x 31 = x % 32 := by
  rw [u32_and x 31 hx0 hx1 (by omega) (by omega)]
  rw [show (31 : Int).toNat = 31 from rfl, nat_mask5]
  omega

set_option maxHeartbeats 400000 in
theorem creg_any (x : Int) (u : Bool) (w : World) (hx0 : 0 ≤ x) (hx1 : x < 4294967296) :
    Calls Tryd.prog 37 #[.int .u32 x, .bool u] w fun e w' => e = .returned (.int .i64 (Hm.regC x u)) ∧ w' = w := by
  cases u with
  | false =>
    go_enter Tryd.func37, Tryd.ntmps37
    go_wp2
    go_ret
    exact ⟨rfl, rfl⟩
  | true =>
    have HP : Hid (wrap64 (bits .and .u32 x 31) = Hm.regC x true) := by
      show wrap64 (bits .and .u32 x 31) = x % 32
      rw [and_31 x hx0 hx1]
      exact IntWalk.wrap64_in _ ⟨by omega, by omega⟩
    go_enter Tryd.func37, Tryd.ntmps37
    go_wp2
    go_ret
    exact ⟨ret_int HP.out, rfl⟩

set_option maxHeartbeats 400000 in
theorem csigned_any (l m n : Int) (v : Bool) (w : World) (hl0 : -1048576 ≤ l) (hl1 : l ≤ 0) (hn0 : 0 ≤ n) (hn1 : n < 4294967296) :
    Calls Tryd.prog 40 #[.agg #[.int .i64 l, .int .i64 m, .bool v], .int .i64 n] w fun e w' => e = .returned (.int .i64 (Hm.sgnC l m n)) ∧ Below w.heap.size w w' := by
  by_cases h : m < n
  · have HK : Hid (Hm.sgnC l m n = n + 2 * l) := by simp [Hid, Hm.sgnC, h]
    go_enter Tryd.func40, Tryd.ntmps40
    go_wp2
    go_ret
    exact ⟨ret_int HK.out.symm, (Below.refl _ _).alloc (Nat.le_refl _) _⟩
  · have HK : Hid (Hm.sgnC l m n = n) := by simp [Hid, Hm.sgnC, h]
    go_enter Tryd.func40, Tryd.ntmps40
    go_wp2
    go_ret
    exact ⟨ret_int HK.out.symm, (Below.refl _ _).alloc (Nat.le_refl _) _⟩

set_option maxHeartbeats 1000000 in
theorem tell_any (f : Int) (w : World) (h0 : 0 ≤ f) (h1 : f ≤ 9) :
    Calls Tryd.prog 33 #[.int .u8 f] w fun e w' => e = .returned (.int .u32 (Hm.tellC f)) ∧ w' = w := by
  have hf : f = 0 ∨ f = 1 ∨ f = 2 ∨ f = 3 ∨ f = 4 ∨ f = 5 ∨ f = 6 ∨ f = 7 ∨ f = 8 ∨ f = 9 := by omega
  clear h0 h1
  rcases hf with rfl | rfl | rfl | rfl | rfl | rfl | rfl | rfl | rfl | rfl
  all_goals
    go_enter Tryd.func33, Tryd.ntmps33
    go_wp2
    go_ret
    exact ⟨rfl, rfl⟩

end Go.Proofs.YtkjkddcgigbglaaDoor
