/-
  W1 W2 W3 W4 in one text.
-/
import Derived.Test.YtdcmdjeooklmjaaDoorChecked
import Derived.Test.YtdcmdjeooklmjaaDoorGA
import Derived.WalkKit
import Derived.WalkSpells
import Derived.WalkLawsBesides
set_option linter.unusedVariables false
set_option linter.unusedSimpArgs false
/-
  Walks: hartref's leaves: power, bit, has, count.
-/
namespace Go.Proofs.YtdcmdjeooklmjaaDoor
open Go.RowKit

theorem ret_int {k : IntKind} {a b : Int} (h : a = b) : Ending.returned (.int k a) = .returned (.int k b) := by rw [h]

theorem ret_bool {a b : Bool} (h : a = b) : Ending.returned (.bool a) = .returned (.bool b) := by rw [h]

set_option maxHeartbeats 400000 in
theorem power_any (n : Int) (w : World) (h0 : 0 ≤ n) (h1 : n ≤ 40) :
    Calls Tryd.prog 68 #[.int .i64 n] w fun e w' => e = .returned (.int .i64 (Hm.pw n.toNat)) ∧ w' = w := by
  obtain ⟨m, rfl⟩ := Int.eq_ofNat_of_zero_le h0
  rw [Int.toNat_natCast]
  go_enter Tryd.func68, Tryd.ntmps68
  go_wp2
  go_loop [3, 4] (fun p i => ∃ k : Nat, k ≤ m ∧ i = .int .i64 k ∧ p = .int .i64 (Hm.pw k)) (fun _ i => m - (intOf i).toNat)
  case atStart => exact ⟨0, Nat.zero_le _, rfl, rfl⟩
  case round =>
    obtain ⟨k, hk, rfl, rfl⟩ := hrel
    have hp := Hm.pw_pos k
    have hq := Hm.pw_le k (by omega)
    by_cases hlt : k < m
    · have HS : Hid (Hm.pw (k + 1) = 2 * Hm.pw k) := Hm.pw_succ k
      go_wp2
      go_round
      case rel => exact ⟨k + 1, by omega, by go_num, by rw [HS.out]⟩
      case measure => simp [intOf]; omega
    · go_wp2
      go_ret
      exact ⟨ret_int (by rw [show k = m by omega]), rfl⟩

set_option maxHeartbeats 400000 in
theorem bit_any (n i : Int) (w : World) (hn0 : -9223372036854775807 - 1 ≤ n) (hn1 : n ≤ 9223372036854775807) (h0 : 0 ≤ i) (h1 : i ≤ 40) :
    Calls Tryd.prog 65 #[.int .i64 n, .int .i64 i] w fun e w' => e = .returned (.int .i64 (Hm.bt n i.toNat)) ∧ w' = w := by
  have hp := Hm.pw_pos i.toNat
  have hq := Hm.pw_le i.toNat (by omega)
  have ht0 : -4294967296 < n.tmod 4294967296 := Int.lt_tmod_of_pos n (by omega)
  have ht1 : n.tmod 4294967296 < 4294967296 := Int.tmod_lt_of_pos n (by omega)
  have HE : Hid (n.tmod 4294967296 % 4294967296 = n % 4294967296) := by
    show _ = _
    rw [Int.tmod_eq_emod]
    split <;> omega
  go_enter Tryd.func65, Tryd.ntmps65
  go_wp2_with (go_at_call 68; refine (power_any _ _ (by omega) (by omega)).mono ?_; rintro e w' ⟨rfl, rfl⟩)
  go_ret
  refine ⟨ret_int ?_, rfl⟩
  unfold Hm.bt
  rw [HE.out]
  exact Int.tmod_eq_emod_of_nonneg (Int.ediv_nonneg (by omega) (by omega))

theorem take_snoc (s : ByteArray) (k : Nat) (h : k < s.size) : s.data.toList.take (k + 1) = s.data.toList.take k ++ [s[k]] := by
  rw [List.take_succ_eq_append_getElem (by simpa using h)]; rfl

theorem hasB_snoc (l : List UInt8) (c : UInt8) (b : Int) : Hm.hasB (l ++ [c]) b = (Hm.hasB l b || ((c.toNat : Int) == b)) := by
  simp [Hm.hasB]
theorem cnt_snoc (l : List UInt8) (c : UInt8) (b : Int) : Hm.cnt (l ++ [c]) b = Hm.cnt l b + if ((c.toNat : Int) == b) = true then 1 else 0 := by
  unfold Hm.cnt
  rw [List.filter_append, List.length_append]
  by_cases h : ((c.toNat : Int) == b) = true <;> simp [List.filter_cons, h]
theorem cnt_le (l : List UInt8) (b : Int) : Hm.cnt l b ≤ l.length := List.length_filter_le _ _
theorem take_all (s : ByteArray) (k : Nat) (h : s.size ≤ k) : s.data.toList.take k = s.data.toList := List.take_of_length_le (by simpa using h)
theorem hasB_true {s : ByteArray} {k : Nat} {b : Int} (h : k < s.size) (hb : ((s[k].toNat : Int) == b) = true) : Hm.hasB s.data.toList b = true := by
  unfold Hm.hasB
  rw [List.any_eq_true]
  exact ⟨s[k], by rw [ByteArray.getElem_eq_getElem_data]; simp, hb⟩

set_option maxHeartbeats 400000 in
theorem has_any (s : ByteArray) (b : Int) (w : World) (hs : s.size ≤ 1000) :
    Calls Tryd.prog 35 #[.string s, .int .u8 b] w fun e w' => e = .returned (.bool (Hm.hasB s.data.toList b)) ∧ w' = w := by
  go_enter Tryd.func35, Tryd.ntmps35
  go_wp2
  go_loop [5] (fun i => ∃ k : Nat, k ≤ s.size ∧ i = .int .i64 k ∧ Hm.hasB (s.data.toList.take k) b = false) (fun i => s.size - (intOf i).toNat)
  case atStart => exact ⟨0, Nat.zero_le _, rfl, rfl⟩
  case round =>
    obtain ⟨k, hk, rfl, hno0⟩ := hrel
    have hno : Hid (Hm.hasB (s.data.toList.take k) b = false) := hno0
    clear hno0
    by_cases hlt : k < s.size
    · by_cases hb : ((s[k].toNat : Int) == b) = true
      · have HT : Hid (Hm.hasB s.data.toList b = true) := hasB_true hlt hb
        go_wp2
        go_ret
        exact ⟨ret_bool HT.out.symm, rfl⟩
      · have hb' : ((s[k].toNat : Int) == b) = false := by simpa using hb
        clear hb
        have HT : Hid (Hm.hasB (s.data.toList.take (k + 1)) b = false) := by
          show _ = _
          rw [take_snoc s k hlt, hasB_snoc, hno.out, hb']; rfl
        go_wp2
        go_round
        case rel => exact ⟨k + 1, by omega, by go_num, HT.out⟩
        case measure => simp [intOf]; omega
    · have HT : Hid (Hm.hasB s.data.toList b = false) := by
        have := hno.out; rw [take_all s k (by omega)] at this; exact this
      go_wp2
      go_ret
      exact ⟨ret_bool HT.out.symm, rfl⟩

set_option maxHeartbeats 400000 in
theorem count_any (s : ByteArray) (b : Int) (w : World) (hs : s.size ≤ 1000) :
    Calls Tryd.prog 64 #[.string s, .int .u8 b] w fun e w' => e = .returned (.int .i64 (Hm.cnt s.data.toList b)) ∧ w' = w := by
  go_enter Tryd.func64, Tryd.ntmps64
  go_wp2
  go_loop [5, 6] (fun n i => ∃ k : Nat, k ≤ s.size ∧ i = .int .i64 k ∧ n = .int .i64 (Hm.cnt (s.data.toList.take k) b)) (fun _ i => s.size - (intOf i).toNat)
  case atStart => exact ⟨0, Nat.zero_le _, rfl, rfl⟩
  case round =>
    obtain ⟨k, hk, rfl, rfl⟩ := hrel
    have hc : Hm.cnt (s.data.toList.take k) b ≤ 1000 := by
      have := cnt_le (s.data.toList.take k) b
      have h2 : (s.data.toList.take k).length ≤ k := List.length_take_le _ _
      omega
    by_cases hlt : k < s.size
    · have HT : Hid (Hm.cnt (s.data.toList.take (k + 1)) b = Hm.cnt (s.data.toList.take k) b + if ((s[k].toNat : Int) == b) = true then 1 else 0) := by
        show _ = _
        rw [take_snoc s k hlt, cnt_snoc]
      by_cases hb : ((s[k].toNat : Int) == b) = true
      · have HB : Hid (((s[k].toNat : Int) == b) = true) := hb
        go_wp2
        go_round
        case rel => exact ⟨k + 1, by omega, by go_num, by rw [HT.out, if_pos HB.out]; go_num⟩
        case measure => simp [intOf]; omega
      · have hb' : ((s[k].toNat : Int) == b) = false := by simpa using hb
        have HB : Hid (¬ ((s[k].toNat : Int) == b) = true) := hb
        clear hb
        go_wp2
        go_round
        case rel => exact ⟨k + 1, by omega, by go_num, by rw [HT.out, if_neg HB.out]; go_num⟩
        case measure => simp [intOf]; omega
    · go_wp2
      go_ret
      exact ⟨ret_int (by rw [take_all s k (by omega)]), rfl⟩

end Go.Proofs.YtdcmdjeooklmjaaDoor

/-
  Walks: hartref's highest, kind, register, fits, signed.
-/
namespace Go.Proofs.YtdcmdjeooklmjaaDoor
open Go.RowKit

set_option maxHeartbeats 400000 in
theorem highest_any (s : ByteArray) (w : World) (hs : s.size ≤ 1000) :
    Calls Tryd.prog 43 #[.string s] w fun e w' => e = .returned (.int .i64 (Hm.hi s.data.toList)) ∧ w' = w := by
  go_enter Tryd.func43, Tryd.ntmps43
  go_wp2
  go_loop [3] (fun i => ∃ k : Nat, k ≤ 21 ∧ i = .int .i64 ((k : Int) - 1) ∧ Hm.hiTo s.data.toList k = Hm.hi s.data.toList) (fun i => (intOf i + 1).toNat)
  case atStart => exact ⟨21, by omega, rfl, rfl⟩
  case round =>
    obtain ⟨k, hk, rfl, hno0⟩ := hrel
    have hno : Hid (Hm.hiTo s.data.toList k = Hm.hi s.data.toList) := hno0
    clear hno0
    match k, hk, hno with
    | 0, hk, hno =>
      go_wp2
      go_ret
      exact ⟨ret_int (by rw [← hno.out]; rfl), rfl⟩
    | k + 1, hk, hno =>
      cases hb : Hm.hasB s.data.toList (65 + (k : Int)) with
      | true =>
        have HB : Hid (Hm.hi s.data.toList = k) := by
          have := hno.out; rw [Hm.hiTo, hb] at this; exact this.symm
        go_wp2_with (go_at_call 35; refine (has_any _ _ _ hs).mono ?_; rintro e w' ⟨rfl, rfl⟩)
        go_ret
        exact ⟨ret_int HB.out.symm, rfl⟩
      | false =>
        have HB : Hid (Hm.hiTo s.data.toList k = Hm.hi s.data.toList) := by
          have := hno.out; rw [Hm.hiTo, hb] at this; exact this
        go_wp2_with (go_at_call 35; refine (has_any _ _ _ hs).mono ?_; rintro e w' ⟨rfl, rfl⟩)
        go_round
        case rel => exact ⟨k, by omega, by go_num, HB.out⟩
        case measure => simp [intOf]

theorem kind_eq (l : List UInt8) {d t : Bool} {top : Int} (hd : Hm.hasB l 100 = d) (ht : Hm.hasB l 116 = t) (h : Hm.hi l = top) : Hm.kind l = Hm.kindC d t top := by
  unfold Hm.kind; rw [hd, ht, h]

set_option maxHeartbeats 400000 in
theorem kind_any (s : ByteArray) (w : World) (hs : s.size ≤ 1000) :
    Calls Tryd.prog 37 #[.string s] w fun e w' => e = .returned (.int .u8 (Hm.kind s.data.toList)) ∧ w' = w := by
  generalize hd : Hm.hasB s.data.toList 100 = d
  generalize ht : Hm.hasB s.data.toList 116 = t
  generalize hh : Hm.hi s.data.toList = top
  have HK : Hid (Hm.kind s.data.toList = Hm.kindC d t top) := kind_eq _ hd ht hh
  have HD := Hid.out (p := _) hd
  go_enter Tryd.func37, Tryd.ntmps37
  go_wp2_with (first | (go_at_call 35; refine (has_any _ _ _ hs).mono ?_; rintro e w' ⟨rfl, rfl⟩) | (go_at_call 43; refine (highest_any _ _ hs).mono ?_; rintro e w' ⟨rfl, rfl⟩))
  all_goals
    go_ret
    refine ⟨ret_int ?_, rfl⟩
    rw [HK.out]
    unfold Hm.kindC
    simp_all

set_option maxHeartbeats 400000 in
theorem register_any (n : Int) (u : Bool) (w : World) :
    Calls Tryd.prog 34 #[.int .i64 n, .bool u] w fun e w' => e = .returned (.bool (Hm.regB n u)) ∧ w' = w := by
  by_cases h0 : n = 0
  · have h0' : (n == 0) = true := by simpa using h0
    have HK : Hid (Hm.regB n u = true) := by simp [Hid, Hm.regB, h0]
    clear h0
    go_enter Tryd.func34, Tryd.ntmps34
    go_wp2
    go_ret
    exact ⟨ret_bool HK.out.symm, rfl⟩
  · have h0' : (n == 0) = false := by simpa using h0
    cases u with
    | false =>
      have HK : Hid (Hm.regB n false = false) := by simp [Hid, Hm.regB, h0]
      clear h0
      go_enter Tryd.func34, Tryd.ntmps34
      go_wp2
      go_ret
      exact ⟨ret_bool HK.out.symm, rfl⟩
    | true =>
      by_cases h1 : 0 < n
      · have HK : Hid (Hm.regB n true = decide (n < 32)) := by simp [Hid, Hm.regB, h0, h1]
        clear h0
        go_enter Tryd.func34, Tryd.ntmps34
        go_wp2
        go_ret
        exact ⟨ret_bool HK.out.symm, rfl⟩
      · have HK : Hid (Hm.regB n true = false) := by simp [Hid, Hm.regB, h0, h1]
        have h1' : n < 0 := by omega
        clear h0
        go_enter Tryd.func34, Tryd.ntmps34
        go_wp2
        go_ret
        exact ⟨ret_bool HK.out.symm, rfl⟩

end Go.Proofs.YtdcmdjeooklmjaaDoor

/-
  Walks: hartref's fits and signed.
-/
namespace Go.Proofs.YtdcmdjeooklmjaaDoor
open Go.RowKit

theorem tmod2_eq (n : Int) : (n.tmod 2 == 0) = decide (n % 2 = 0) := by
  rw [Bool.eq_iff_iff, beq_iff_eq, decide_eq_true_iff, Int.tmod_eq_emod]
  split <;> omega

def kindOk (k : Int) : Prop := k = 73 ∨ k = 83 ∨ k = 72 ∨ k = 66 ∨ k = 85 ∨ k = 74 ∨ k = 82 ∨ k = 78
theorem kind_ok (l : List UInt8) : kindOk (Hm.kind l) := by
  unfold Hm.kind Hm.kindC kindOk
  repeat' split
  all_goals decide

set_option maxHeartbeats 1000000 in
theorem fits_any (k n : Int) (w : World) (hk : kindOk k) :
    Calls Tryd.prog 36 #[.int .u8 k, .int .i64 n] w fun e w' => e = .returned (.bool (Hm.fitsB k n)) ∧ w' = w := by
  rcases hk with rfl | rfl | rfl | rfl | rfl | rfl | rfl | rfl
  · have HK : Hid (Hm.fitsB 73 n = decide (-2048 ≤ n ∧ n < 2048)) := by simp [Hid, Hm.fitsB]
    by_cases h1 : -2048 ≤ n
    all_goals
      go_enter Tryd.func36, Tryd.ntmps36
      go_wp2
      go_ret
      exact ⟨ret_bool (by rw [HK.out]; first | (simp [h1]; done) | (simp; omega)), rfl⟩
  · have HK : Hid (Hm.fitsB 83 n = decide (-2048 ≤ n ∧ n < 2048)) := by simp [Hid, Hm.fitsB]
    by_cases h1 : -2048 ≤ n
    all_goals
      go_enter Tryd.func36, Tryd.ntmps36
      go_wp2
      go_ret
      exact ⟨ret_bool (by rw [HK.out]; first | (simp [h1]; done) | (simp; omega)), rfl⟩
  · have HK : Hid (Hm.fitsB 72 n = decide (0 ≤ n ∧ n < 32)) := by simp [Hid, Hm.fitsB]
    by_cases h1 : 0 ≤ n
    all_goals
      go_enter Tryd.func36, Tryd.ntmps36
      go_wp2
      go_ret
      exact ⟨ret_bool (by rw [HK.out]; first | (simp [h1]; done) | (simp; omega)), rfl⟩
  · have HK : Hid (Hm.fitsB 66 n = decide (-4096 ≤ n ∧ n < 4096 ∧ n % 2 = 0)) := by simp [Hid, Hm.fitsB]
    have HM : Hid ((n.tmod 2 == 0) = decide (n % 2 = 0)) := tmod2_eq n
    by_cases h1 : -4096 ≤ n
    all_goals by_cases h2 : n < 4096
    all_goals
      go_enter Tryd.func36, Tryd.ntmps36
      go_wp2
      go_ret
      exact ⟨ret_bool (by rw [HK.out]; first | (simp [h1, h2]; done) | (rw [HM.out]; simp [h1, h2]; done) | (simp; omega)), rfl⟩
  · have HK : Hid (Hm.fitsB 85 n = decide (0 ≤ n ∧ n < 1048576)) := by simp [Hid, Hm.fitsB]
    by_cases h1 : 0 ≤ n
    all_goals
      go_enter Tryd.func36, Tryd.ntmps36
      go_wp2
      go_ret
      exact ⟨ret_bool (by rw [HK.out]; first | (simp [h1]; done) | (simp; omega)), rfl⟩
  · have HK : Hid (Hm.fitsB 74 n = decide (-1048576 ≤ n ∧ n < 1048576 ∧ n % 2 = 0)) := by simp [Hid, Hm.fitsB]
    have HM : Hid ((n.tmod 2 == 0) = decide (n % 2 = 0)) := tmod2_eq n
    by_cases h1 : -1048576 ≤ n
    all_goals by_cases h2 : n < 1048576
    all_goals
      go_enter Tryd.func36, Tryd.ntmps36
      go_wp2
      go_ret
      exact ⟨ret_bool (by rw [HK.out]; first | (simp [h1, h2]; done) | (rw [HM.out]; simp [h1, h2]; done) | (simp; omega)), rfl⟩
  · have HK : Hid (Hm.fitsB 82 n = decide (n = 0)) := by simp [Hid, Hm.fitsB]
    go_enter Tryd.func36, Tryd.ntmps36
    go_wp2
    go_ret
    exact ⟨ret_bool (by rw [HK.out]; rfl), rfl⟩
  · have HK : Hid (Hm.fitsB 78 n = decide (n = 0)) := by simp [Hid, Hm.fitsB]
    go_enter Tryd.func36, Tryd.ntmps36
    go_wp2
    go_ret
    exact ⟨ret_bool (by rw [HK.out]; rfl), rfl⟩

set_option maxHeartbeats 400000 in
theorem signed_any (n top : Int) (w : World) (h0 : 0 ≤ top) (h1 : top ≤ 20) (hn0 : 0 ≤ n) (hn1 : n ≤ 4294967296) :
    Calls Tryd.prog 42 #[.int .i64 n, .int .i64 top] w fun e w' => e = .returned (.int .i64 (Hm.sgn n top.toNat)) ∧ w' = w := by
  have hp := Hm.pw_pos top.toNat
  have hq := Hm.pw_le top.toNat (by omega)
  rcases Hm.bt_01 n top.toNat with hb | hb
  · have HB : Hid (Hm.sgn n top.toNat = n) := Hm.sgn_0 hb
    have hb' : (Hm.bt n top.toNat == 1) = false := by rw [hb]; rfl
    clear hb
    go_enter Tryd.func42, Tryd.ntmps42
    go_wp2_with (first | (go_at_call 65; refine (bit_any _ _ _ (by omega) (by omega) (by omega) (by omega)).mono ?_; rintro e w' ⟨rfl, rfl⟩) | (go_at_call 68; refine (power_any _ _ (by omega) (by omega)).mono ?_; rintro e w' ⟨rfl, rfl⟩))
    go_ret
    exact ⟨ret_int HB.out.symm, rfl⟩
  · have HB : Hid (Hm.sgn n top.toNat = n - 2 * Hm.pw top.toNat) := Hm.sgn_1 hb
    have hb' : (Hm.bt n top.toNat == 1) = true := by rw [hb]; rfl
    clear hb
    go_enter Tryd.func42, Tryd.ntmps42
    go_wp2_with (first | (go_at_call 65; refine (bit_any _ _ _ (by omega) (by omega) (by omega) (by omega)).mono ?_; rintro e w' ⟨rfl, rfl⟩) | (go_at_call 68; refine (power_any _ _ (by omega) (by omega)).mono ?_; rintro e w' ⟨rfl, rfl⟩))
    go_ret
    exact ⟨ret_int HB.out.symm, rfl⟩

end Go.Proofs.YtdcmdjeooklmjaaDoor

/-
  Walks: hartref's Fill.
-/
namespace Go.Proofs.YtdcmdjeooklmjaaDoor
open Go.RowKit

theorem drop_cons (s : ByteArray) (k : Nat) (h : k < s.size) : s.data.toList.drop k = s[k] :: s.data.toList.drop (k + 1) := by
  rw [List.drop_eq_getElem_cons (by simpa using h)]; rfl
theorem drop_all (s : ByteArray) (k : Nat) (h : s.size ≤ k) : s.data.toList.drop k = [] := List.drop_of_length_le (by simpa using h)
theorem cntd_le (s : ByteArray) (k : Nat) (b : Int) : Hm.cnt (s.data.toList.drop k) b ≤ s.size - k := by
  have := Hm.cnt_le (s.data.toList.drop k) b
  have h2 : (s.data.toList.drop k).length = s.size - k := by simp
  omega

/-- What holds behind k letters. -/
def FillAt (d r t imm : Int) (s : ByteArray) (k : Nat) (wk : Int) : Prop := 0 ≤ wk ∧ wk < Hm.pw k ∧ Hm.fill d r t imm (s.data.toList.drop k) wk = Hm.fill d r t imm s.data.toList 0
theorem FillAt.next {d r t imm : Int} {s : ByteArray} {k : Nat} {wk b : Int} (h : FillAt d r t imm s k wk) (hk : k < s.size) (hb : Hm.fbit d r t imm s[k] (s.data.toList.drop (k + 1)) = b) :
    FillAt d r t imm s (k + 1) (2 * wk + b) := by
  obtain ⟨h0, h1, h2⟩ := h
  have h01 := Hm.fbit_01 d r t imm s[k] (s.data.toList.drop (k + 1))
  rw [hb] at h01
  refine ⟨by omega, by rw [Hm.pw_succ]; omega, ?_⟩
  rw [← h2, drop_cons s k hk]
  show _ = Hm.fill d r t imm (s.data.toList.drop (k + 1)) (2 * wk + Hm.fbit d r t imm s[k] (s.data.toList.drop (k + 1)))
  rw [hb]
theorem cntd (s : ByteArray) (k : Nat) (hk : k < s.size) (b : Int) : Hm.cnt (s.data.toList.drop k) b = Hm.cnt (s.data.toList.drop (k + 1)) b + if ((s[k].toNat : Int) == b) = true then 1 else 0 := by
  rw [drop_cons s k hk, Hm.cnt_cons]
theorem cntd_no {s : ByteArray} {k : Nat} (hk : k < s.size) {b : Int} (h : ((s[k].toNat : Int) == b) = false) : Hm.cnt (s.data.toList.drop k) b = Hm.cnt (s.data.toList.drop (k + 1)) b := by
  rw [cntd s k hk, h]; simp
theorem cntd_yes {s : ByteArray} {k : Nat} (hk : k < s.size) {b : Int} (h : (s[k].toNat : Int) = b) : Hm.cnt (s.data.toList.drop k) b = Hm.cnt (s.data.toList.drop (k + 1)) b + 1 := by
  rw [cntd s k hk, h]; simp

set_option maxHeartbeats 2000000 in
theorem fill_any (s : ByteArray) (d r t imm : Int) (w : World) (hs : s.size ≤ 32)
    (d0 : -9223372036854775807 - 1 ≤ d) (d1 : d ≤ 9223372036854775807) (r0 : -9223372036854775807 - 1 ≤ r) (r1 : r ≤ 9223372036854775807)
    (t0 : -9223372036854775807 - 1 ≤ t) (t1 : t ≤ 9223372036854775807) (i0 : -9223372036854775807 - 1 ≤ imm) (i1 : imm ≤ 9223372036854775807) :
    Calls Tryd.prog 39 #[.string s, .int .i64 d, .int .i64 r, .int .i64 t, .int .i64 imm] w fun e w' => e = .returned (.int .i64 (Hm.fill d r t imm s.data.toList 0)) ∧ w' = w := by
  go_enter Tryd.func39, Tryd.ntmps39
  go_wp2_with (go_at_call 64; refine (count_any _ _ _ (by omega)).mono ?_; rintro e w' ⟨rfl, rfl⟩)
  go_loop [11, 12, 13, 14, 15] (fun v nd ns nt i => ∃ (k : Nat) (wk : Int), k ≤ s.size ∧ i = .int .i64 k ∧ v = .int .i64 wk ∧ nd = .int .i64 (Hm.cnt (s.data.toList.drop k) 100) ∧ ns = .int .i64 (Hm.cnt (s.data.toList.drop k) 115)
      ∧ nt = .int .i64 (Hm.cnt (s.data.toList.drop k) 116) ∧ FillAt d r t imm s k wk) (fun _ _ _ _ i => s.size - (intOf i).toNat)
  case atStart => exact ⟨0, 0, Nat.zero_le _, rfl, rfl, rfl, rfl, rfl, Int.le_refl _, by decide, rfl⟩
  case round =>
    obtain ⟨k, wk, hk, rfl, rfl, rfl, rfl, rfl, hf⟩ := hrel
    have hwk0 := hf.1
    have hwk1 := hf.2.1
    have hpk := Hm.pw_le k (by omega)
    by_cases hlt : k < s.size
    · have hcd := cntd_le s (k + 1) 100
      have hcs := cntd_le s (k + 1) 115
      have hct := cntd_le s (k + 1) 116
      have hb0 : (0 : Int) ≤ s[k].toNat := by omega
      have hb1 : (s[k].toNat : Int) < 256 := by have := s[k].toNat_lt; omega
      by_cases c1 : (s[k].toNat : Int) = 49
      · have n1 : Hid (Hm.cnt (s.data.toList.drop k) 100 = Hm.cnt (s.data.toList.drop (k + 1)) 100) := cntd_no hlt (by rw [c1]; rfl)
        have n2 : Hid (Hm.cnt (s.data.toList.drop k) 115 = Hm.cnt (s.data.toList.drop (k + 1)) 115) := cntd_no hlt (by rw [c1]; rfl)
        have n3 : Hid (Hm.cnt (s.data.toList.drop k) 116 = Hm.cnt (s.data.toList.drop (k + 1)) 116) := cntd_no hlt (by rw [c1]; rfl)
        have HF : Hid (FillAt d r t imm s (k + 1) (2 * wk + 1)) := hf.next hlt (by unfold Hm.fbit; rw [if_pos c1])
        go_wp2
        go_round
        case rel => exact ⟨k + 1, _, by omega, by go_num, rfl, by rw [n1.out], by rw [n2.out], by rw [n3.out], HF.out⟩
        case measure => simp [intOf]; omega
      · have c1' : ((s[k].toNat : Int) == 49) = false := by simpa using c1
        by_cases c2 : (s[k].toNat : Int) = 100
        · skip
          have n1 : Hm.cnt (s.data.toList.drop k) 100 = Hm.cnt (s.data.toList.drop (k + 1)) 100 + 1 := cntd_yes hlt c2
          have n2 : Hid (Hm.cnt (s.data.toList.drop k) 115 = Hm.cnt (s.data.toList.drop (k + 1)) 115) := cntd_no hlt (by rw [c2]; rfl)
          have n3 : Hid (Hm.cnt (s.data.toList.drop k) 116 = Hm.cnt (s.data.toList.drop (k + 1)) 116) := cntd_no hlt (by rw [c2]; rfl)
          have HF : Hid (FillAt d r t imm s (k + 1) (2 * wk + Hm.bt d (Hm.cnt (s.data.toList.drop (k + 1)) 100))) := hf.next hlt (by unfold Hm.fbit; rw [if_neg c1, if_pos c2])
          have hbt := Hm.bt_01 d (Hm.cnt (s.data.toList.drop (k + 1)) 100)
          have hbt0 : 0 ≤ Hm.bt d (Hm.cnt (s.data.toList.drop (k + 1)) 100) := by omega
          have hbt1 : Hm.bt d (Hm.cnt (s.data.toList.drop (k + 1)) 100) ≤ 1 := by omega
          clear hbt c1
          rw [n1]
          clear n1
          generalize hq : Hm.cnt (s.data.toList.drop (k + 1)) 100 = q at *
          have HQ : Hid (Hm.cnt (s.data.toList.drop (k + 1)) 100 = q) := hq
          clear hq
          go_wp2_with (go_at_call 65; refine (bit_any _ _ _ (by omega) (by omega) (by omega) (by omega)).mono ?_; rintro e w' ⟨rfl, rfl⟩; rw [Int.toNat_natCast])
          go_round
          case rel => exact ⟨k + 1, _, by omega, by go_num, rfl, by rw [HQ.out], by rw [n2.out], by rw [n3.out], HF.out⟩
          case measure => simp [intOf]; omega
        have c2' : ((s[k].toNat : Int) == 100) = false := by simpa using c2
        by_cases c3 : (s[k].toNat : Int) = 115
        · skip
          have n1 : Hid (Hm.cnt (s.data.toList.drop k) 100 = Hm.cnt (s.data.toList.drop (k + 1)) 100) := cntd_no hlt (by rw [c3]; rfl)
          have n2 : Hm.cnt (s.data.toList.drop k) 115 = Hm.cnt (s.data.toList.drop (k + 1)) 115 + 1 := cntd_yes hlt c3
          have n3 : Hid (Hm.cnt (s.data.toList.drop k) 116 = Hm.cnt (s.data.toList.drop (k + 1)) 116) := cntd_no hlt (by rw [c3]; rfl)
          have HF : Hid (FillAt d r t imm s (k + 1) (2 * wk + Hm.bt r (Hm.cnt (s.data.toList.drop (k + 1)) 115))) := hf.next hlt (by unfold Hm.fbit; rw [if_neg c1, if_neg c2, if_pos c3])
          have hbt := Hm.bt_01 r (Hm.cnt (s.data.toList.drop (k + 1)) 115)
          have hbt0 : 0 ≤ Hm.bt r (Hm.cnt (s.data.toList.drop (k + 1)) 115) := by omega
          have hbt1 : Hm.bt r (Hm.cnt (s.data.toList.drop (k + 1)) 115) ≤ 1 := by omega
          clear hbt c1 c2
          rw [n2]
          clear n2
          generalize hq : Hm.cnt (s.data.toList.drop (k + 1)) 115 = q at *
          have HQ : Hid (Hm.cnt (s.data.toList.drop (k + 1)) 115 = q) := hq
          clear hq
          go_wp2_with (go_at_call 65; refine (bit_any _ _ _ (by omega) (by omega) (by omega) (by omega)).mono ?_; rintro e w' ⟨rfl, rfl⟩; rw [Int.toNat_natCast])
          go_round
          case rel => exact ⟨k + 1, _, by omega, by go_num, rfl, by rw [n1.out], by rw [HQ.out], by rw [n3.out], HF.out⟩
          case measure => simp [intOf]; omega
        have c3' : ((s[k].toNat : Int) == 115) = false := by simpa using c3
        by_cases c4 : (s[k].toNat : Int) = 116
        · skip
          have n1 : Hid (Hm.cnt (s.data.toList.drop k) 100 = Hm.cnt (s.data.toList.drop (k + 1)) 100) := cntd_no hlt (by rw [c4]; rfl)
          have n2 : Hid (Hm.cnt (s.data.toList.drop k) 115 = Hm.cnt (s.data.toList.drop (k + 1)) 115) := cntd_no hlt (by rw [c4]; rfl)
          have n3 : Hm.cnt (s.data.toList.drop k) 116 = Hm.cnt (s.data.toList.drop (k + 1)) 116 + 1 := cntd_yes hlt c4
          have HF : Hid (FillAt d r t imm s (k + 1) (2 * wk + Hm.bt t (Hm.cnt (s.data.toList.drop (k + 1)) 116))) := hf.next hlt (by unfold Hm.fbit; rw [if_neg c1, if_neg c2, if_neg c3, if_pos c4])
          have hbt := Hm.bt_01 t (Hm.cnt (s.data.toList.drop (k + 1)) 116)
          have hbt0 : 0 ≤ Hm.bt t (Hm.cnt (s.data.toList.drop (k + 1)) 116) := by omega
          have hbt1 : Hm.bt t (Hm.cnt (s.data.toList.drop (k + 1)) 116) ≤ 1 := by omega
          clear hbt c1 c2 c3
          rw [n3]
          clear n3
          generalize hq : Hm.cnt (s.data.toList.drop (k + 1)) 116 = q at *
          have HQ : Hid (Hm.cnt (s.data.toList.drop (k + 1)) 116 = q) := hq
          clear hq
          go_wp2_with (go_at_call 65; refine (bit_any _ _ _ (by omega) (by omega) (by omega) (by omega)).mono ?_; rintro e w' ⟨rfl, rfl⟩; rw [Int.toNat_natCast])
          go_round
          case rel => exact ⟨k + 1, _, by omega, by go_num, rfl, by rw [n1.out], by rw [n2.out], by rw [HQ.out], HF.out⟩
          case measure => simp [intOf]; omega
        have c4' : ((s[k].toNat : Int) == 116) = false := by simpa using c4
        have n1 : Hid (Hm.cnt (s.data.toList.drop k) 100 = Hm.cnt (s.data.toList.drop (k + 1)) 100) := cntd_no hlt c2'
        have n2 : Hid (Hm.cnt (s.data.toList.drop k) 115 = Hm.cnt (s.data.toList.drop (k + 1)) 115) := cntd_no hlt c3'
        have n3 : Hid (Hm.cnt (s.data.toList.drop k) 116 = Hm.cnt (s.data.toList.drop (k + 1)) 116) := cntd_no hlt c4'
        by_cases c5 : 65 ≤ (s[k].toNat : Int)
        · by_cases c6 : (s[k].toNat : Int) ≤ 85
          · have HF : Hid (FillAt d r t imm s (k + 1) (2 * wk + Hm.bt imm (s[k].toNat - 65))) := hf.next hlt (by unfold Hm.fbit; rw [if_neg c1, if_neg c2, if_neg c3, if_neg c4, if_pos ⟨c5, c6⟩, show ((s[k].toNat : Int) - 65).toNat = s[k].toNat - 65 from by omega])
            have hbt := Hm.bt_01 imm (s[k].toNat - 65)
            have hbt0 : 0 ≤ Hm.bt imm (s[k].toNat - 65) := by omega
            have hbt1 : Hm.bt imm (s[k].toNat - 65) ≤ 1 := by omega
            clear hbt c1 c2 c3 c4
            go_wp2_with (go_at_call 65; refine (bit_any _ _ _ (by omega) (by omega) (by omega) (by omega)).mono ?_; rintro e w' ⟨rfl, rfl⟩)
            go_round
            case rel => exact ⟨k + 1, _, by omega, by go_num, rfl, by rw [n1.out], by rw [n2.out], by rw [n3.out], HF.out⟩
            case measure => simp [intOf]; omega
          · have HF : Hid (FillAt d r t imm s (k + 1) (2 * wk + 0)) := hf.next hlt (by unfold Hm.fbit; rw [if_neg c1, if_neg c2, if_neg c3, if_neg c4, if_neg (by omega)])
            clear c1 c2 c3 c4
            go_wp2
            go_round
            case rel => exact ⟨k + 1, _, by omega, by go_num, by go_num, by rw [n1.out], by rw [n2.out], by rw [n3.out], HF.out⟩
            case measure => simp [intOf]; omega
        · have HF : Hid (FillAt d r t imm s (k + 1) (2 * wk + 0)) := hf.next hlt (by unfold Hm.fbit; rw [if_neg c1, if_neg c2, if_neg c3, if_neg c4, if_neg (by omega)])
          clear c1 c2 c3 c4
          go_wp2
          go_round
          case rel => exact ⟨k + 1, _, by omega, by go_num, by go_num, by rw [n1.out], by rw [n2.out], by rw [n3.out], HF.out⟩
          case measure => simp [intOf]; omega
    · have HF : Hid (wk = Hm.fill d r t imm s.data.toList 0) := by
        have := hf.2.2; rw [drop_all s k (by omega)] at this; exact this
      go_wp2
      go_ret
      exact ⟨ret_int HF.out, rfl⟩

end Go.Proofs.YtdcmdjeooklmjaaDoor
