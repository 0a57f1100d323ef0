/-
  Walks: hartref's leaves: power, bit, has, count.
-/
import Derived.Test.YtkjkddcgigbglaaDoorChecked
import Derived.Test.YtkjkddcgigbglaaDoorM
import Derived.WalkKit
import Derived.WalkSpells
import Derived.WalkLawsBesides
set_option linter.unusedVariables false
set_option linter.unusedSimpArgs false
namespace Go.Proofs.YtkjkddcgigbglaaDoor
open Go.RowKit

theorem ret_int {k : IntKind} {a b : Int} (h : a = b) : Ending.returned (.int k a) = .returned (.int k b) := by rw [h]

theorem ret_bool {a b : Bool} (h : a = b) : Ending.returned (.bool a) = .returned (.bool b) := by rw [h]

set_option maxHeartbeats 400000 in
theorem power_any (n : Int) (w : World) (h0 : 0 ≤ n) (h1 : n ≤ 40) :
    Calls Tryd.prog 35 #[.int .i64 n] w fun e w' => e = .returned (.int .i64 (Hm.pw n.toNat)) ∧ w' = w := by
  obtain ⟨m, rfl⟩ := Int.eq_ofNat_of_zero_le h0
  rw [Int.toNat_natCast]
  go_enter Tryd.func35, Tryd.ntmps35
  go_wp2
  go_loop [3, 4] (fun p i => ∃ k : Nat, k ≤ m ∧ i = .int .i64 k ∧ p = .int .i64 (Hm.pw k)) (fun _ i => m - (intOf i).toNat)
  case atStart => exact ⟨0, Nat.zero_le _, rfl, rfl⟩
  case round =>
    obtain ⟨k, hk, rfl, rfl⟩ := hrel
    have hp := Hm.pw_pos k
    have hq := Hm.pw_le k (by omega)
    by_cases hlt : k < m
    · have HS : Hid (Hm.pw (k + 1) = 2 * Hm.pw k) := Hm.pw_succ k
      go_wp2
      go_round
      case rel => exact ⟨k + 1, by omega, by go_num, by rw [HS.out]⟩
      case measure => simp [intOf]; omega
    · go_wp2
      go_ret
      exact ⟨ret_int (by rw [show k = m by omega]), rfl⟩

set_option maxHeartbeats 400000 in
theorem bit_any (n i : Int) (w : World) (hn0 : -9223372036854775807 - 1 ≤ n) (hn1 : n ≤ 9223372036854775807) (h0 : 0 ≤ i) (h1 : i ≤ 40) :
    Calls Tryd.prog 32 #[.int .i64 n, .int .i64 i] w fun e w' => e = .returned (.int .i64 (Hm.bt n i.toNat)) ∧ w' = w := by
  have hp := Hm.pw_pos i.toNat
  have hq := Hm.pw_le i.toNat (by omega)
  have ht0 : -4294967296 < n.tmod 4294967296 := Int.lt_tmod_of_pos n (by omega)
  have ht1 : n.tmod 4294967296 < 4294967296 := Int.tmod_lt_of_pos n (by omega)
  have HE : Hid (n.tmod 4294967296 % 4294967296 = n % 4294967296) := by
    show _ = _
    rw [Int.tmod_eq_emod]
    split <;> omega
  go_enter Tryd.func32, Tryd.ntmps32
  go_wp2_with (go_at_call 35; refine (power_any _ _ (by omega) (by omega)).mono ?_; rintro e w' ⟨rfl, rfl⟩)
  go_ret
  refine ⟨ret_int ?_, rfl⟩
  unfold Hm.bt
  rw [HE.out]
  exact Int.tmod_eq_emod_of_nonneg (Int.ediv_nonneg (by omega) (by omega))

theorem take_snoc (s : ByteArray) (k : Nat) (h : k < s.size) : s.data.toList.take (k + 1) = s.data.toList.take k ++ [s[k]] := by
  rw [List.take_succ_eq_append_getElem (by simpa using h)]; rfl

theorem hasB_snoc (l : List UInt8) (c : UInt8) (b : Int) : Hm.hasB (l ++ [c]) b = (Hm.hasB l b || ((c.toNat : Int) == b)) := by
  simp [Hm.hasB]
theorem cnt_snoc (l : List UInt8) (c : UInt8) (b : Int) : Hm.cnt (l ++ [c]) b = Hm.cnt l b + if ((c.toNat : Int) == b) = true then 1 else 0 := by
  unfold Hm.cnt
  rw [List.filter_append, List.length_append]
  by_cases h : ((c.toNat : Int) == b) = true <;> simp [List.filter_cons, h]
theorem cnt_le (l : List UInt8) (b : Int) : Hm.cnt l b ≤ l.length := List.length_filter_le _ _
theorem take_all (s : ByteArray) (k : Nat) (h : s.size ≤ k) : s.data.toList.take k = s.data.toList := List.take_of_length_le (by simpa using h)
theorem hasB_true {s : ByteArray} {k : Nat} {b : Int} (h : k < s.size) (hb : ((s[k].toNat : Int) == b) = true) : Hm.hasB s.data.toList b = true := by
  unfold Hm.hasB
  rw [List.any_eq_true]
  exact ⟨s[k], by rw [ByteArray.getElem_eq_getElem_data]; simp, hb⟩

set_option maxHeartbeats 400000 in
theorem has_any (s : ByteArray) (b : Int) (w : World) (hs : s.size ≤ 1000) :
    Calls Tryd.prog 16 #[.string s, .int .u8 b] w fun e w' => e = .returned (.bool (Hm.hasB s.data.toList b)) ∧ w' = w := by
  go_enter Tryd.func16, Tryd.ntmps16
  go_wp2
  go_loop [5] (fun i => ∃ k : Nat, k ≤ s.size ∧ i = .int .i64 k ∧ Hm.hasB (s.data.toList.take k) b = false) (fun i => s.size - (intOf i).toNat)
  case atStart => exact ⟨0, Nat.zero_le _, rfl, rfl⟩
  case round =>
    obtain ⟨k, hk, rfl, hno0⟩ := hrel
    have hno : Hid (Hm.hasB (s.data.toList.take k) b = false) := hno0
    clear hno0
    by_cases hlt : k < s.size
    · by_cases hb : ((s[k].toNat : Int) == b) = true
      · have HT : Hid (Hm.hasB s.data.toList b = true) := hasB_true hlt hb
        go_wp2
        go_ret
        exact ⟨ret_bool HT.out.symm, rfl⟩
      · have hb' : ((s[k].toNat : Int) == b) = false := by simpa using hb
        clear hb
        have HT : Hid (Hm.hasB (s.data.toList.take (k + 1)) b = false) := by
          show _ = _
          rw [take_snoc s k hlt, hasB_snoc, hno.out, hb']; rfl
        go_wp2
        go_round
        case rel => exact ⟨k + 1, by omega, by go_num, HT.out⟩
        case measure => simp [intOf]; omega
    · have HT : Hid (Hm.hasB s.data.toList b = false) := by
        have := hno.out; rw [take_all s k (by omega)] at this; exact this
      go_wp2
      go_ret
      exact ⟨ret_bool HT.out.symm, rfl⟩

set_option maxHeartbeats 400000 in
theorem count_any (s : ByteArray) (b : Int) (w : World) (hs : s.size ≤ 1000) :
    Calls Tryd.prog 31 #[.string s, .int .u8 b] w fun e w' => e = .returned (.int .i64 (Hm.cnt s.data.toList b)) ∧ w' = w := by
  go_enter Tryd.func31, Tryd.ntmps31
  go_wp2
  go_loop [5, 6] (fun n i => ∃ k : Nat, k ≤ s.size ∧ i = .int .i64 k ∧ n = .int .i64 (Hm.cnt (s.data.toList.take k) b)) (fun _ i => s.size - (intOf i).toNat)
  case atStart => exact ⟨0, Nat.zero_le _, rfl, rfl⟩
  case round =>
    obtain ⟨k, hk, rfl, rfl⟩ := hrel
    have hc : Hm.cnt (s.data.toList.take k) b ≤ 1000 := by
      have := cnt_le (s.data.toList.take k) b
      have h2 : (s.data.toList.take k).length ≤ k := List.length_take_le _ _
      omega
    by_cases hlt : k < s.size
    · have HT : Hid (Hm.cnt (s.data.toList.take (k + 1)) b = Hm.cnt (s.data.toList.take k) b + if ((s[k].toNat : Int) == b) = true then 1 else 0) := by
        show _ = _
        rw [take_snoc s k hlt, cnt_snoc]
      by_cases hb : ((s[k].toNat : Int) == b) = true
      · have HB : Hid (((s[k].toNat : Int) == b) = true) := hb
        go_wp2
        go_round
        case rel => exact ⟨k + 1, by omega, by go_num, by rw [HT.out, if_pos HB.out]; go_num⟩
        case measure => simp [intOf]; omega
      · have hb' : ((s[k].toNat : Int) == b) = false := by simpa using hb
        have HB : Hid (¬ ((s[k].toNat : Int) == b) = true) := hb
        clear hb
        go_wp2
        go_round
        case rel => exact ⟨k + 1, by omega, by go_num, by rw [HT.out, if_neg HB.out]; go_num⟩
        case measure => simp [intOf]; omega
    · go_wp2
      go_ret
      exact ⟨ret_int (by rw [take_all s k (by omega)]), rfl⟩

end Go.Proofs.YtkjkddcgigbglaaDoor
