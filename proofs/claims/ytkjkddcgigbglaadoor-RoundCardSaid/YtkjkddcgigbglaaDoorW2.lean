/-
  Walks: hartref's highest, kind, register, fits, signed.
-/
import Derived.Test.YtkjkddcgigbglaaDoorW1
set_option linter.unusedVariables false
set_option linter.unusedSimpArgs false
namespace Go.Proofs.YtkjkddcgigbglaaDoor
open Go.RowKit

set_option maxHeartbeats 400000 in
theorem highest_any (s : ByteArray) (w : World) (hs : s.size ≤ 1000) :
    Calls Tryd.prog 24 #[.string s] w fun e w' => e = .returned (.int .i64 (Hm.hi s.data.toList)) ∧ w' = w := by
  go_enter Tryd.func24, Tryd.ntmps24
  go_wp2
  go_loop [3] (fun i => ∃ k : Nat, k ≤ 21 ∧ i = .int .i64 ((k : Int) - 1) ∧ Hm.hiTo s.data.toList k = Hm.hi s.data.toList) (fun i => (intOf i + 1).toNat)
  case atStart => exact ⟨21, by omega, rfl, rfl⟩
  case round =>
    obtain ⟨k, hk, rfl, hno0⟩ := hrel
    have hno : Hid (Hm.hiTo s.data.toList k = Hm.hi s.data.toList) := hno0
    clear hno0
    match k, hk, hno with
    | 0, hk, hno =>
      go_wp2
      go_ret
      exact ⟨ret_int (by rw [← hno.out]; rfl), rfl⟩
    | k + 1, hk, hno =>
      cases hb : Hm.hasB s.data.toList (65 + (k : Int)) with
      | true =>
        have HB : Hid (Hm.hi s.data.toList = k) := by
          have := hno.out; rw [Hm.hiTo, hb] at this; exact this.symm
        go_wp2_with (go_at_call 16; refine (has_any _ _ _ hs).mono ?_; rintro e w' ⟨rfl, rfl⟩)
        go_ret
        exact ⟨ret_int HB.out.symm, rfl⟩
      | false =>
        have HB : Hid (Hm.hiTo s.data.toList k = Hm.hi s.data.toList) := by
          have := hno.out; rw [Hm.hiTo, hb] at this; exact this
        go_wp2_with (go_at_call 16; refine (has_any _ _ _ hs).mono ?_; rintro e w' ⟨rfl, rfl⟩)
        go_round
        case rel => exact ⟨k, by omega, by go_num, HB.out⟩
        case measure => simp [intOf]

theorem kind_eq (l : List UInt8) {d t : Bool} {top : Int} (hd : Hm.hasB l 100 = d) (ht : Hm.hasB l 116 = t) (h : Hm.hi l = top) : Hm.kind l = Hm.kindC d t top := by
  unfold Hm.kind; rw [hd, ht, h]

set_option maxHeartbeats 400000 in
theorem kind_any (s : ByteArray) (w : World) (hs : s.size ≤ 1000) :
    Calls Tryd.prog 18 #[.string s] w fun e w' => e = .returned (.int .u8 (Hm.kind s.data.toList)) ∧ w' = w := by
  generalize hd : Hm.hasB s.data.toList 100 = d
  generalize ht : Hm.hasB s.data.toList 116 = t
  generalize hh : Hm.hi s.data.toList = top
  have HK : Hid (Hm.kind s.data.toList = Hm.kindC d t top) := kind_eq _ hd ht hh
  have HD := Hid.out (p := _) hd
  go_enter Tryd.func18, Tryd.ntmps18
  go_wp2_with (first | (go_at_call 16; refine (has_any _ _ _ hs).mono ?_; rintro e w' ⟨rfl, rfl⟩) | (go_at_call 24; refine (highest_any _ _ hs).mono ?_; rintro e w' ⟨rfl, rfl⟩))
  all_goals
    go_ret
    refine ⟨ret_int ?_, rfl⟩
    rw [HK.out]
    unfold Hm.kindC
    simp_all

set_option maxHeartbeats 400000 in
theorem register_any (n : Int) (u : Bool) (w : World) :
    Calls Tryd.prog 15 #[.int .i64 n, .bool u] w fun e w' => e = .returned (.bool (Hm.regB n u)) ∧ w' = w := by
  by_cases h0 : n = 0
  · have h0' : (n == 0) = true := by simpa using h0
    have HK : Hid (Hm.regB n u = true) := by simp [Hid, Hm.regB, h0]
    clear h0
    go_enter Tryd.func15, Tryd.ntmps15
    go_wp2
    go_ret
    exact ⟨ret_bool HK.out.symm, rfl⟩
  · have h0' : (n == 0) = false := by simpa using h0
    cases u with
    | false =>
      have HK : Hid (Hm.regB n false = false) := by simp [Hid, Hm.regB, h0]
      clear h0
      go_enter Tryd.func15, Tryd.ntmps15
      go_wp2
      go_ret
      exact ⟨ret_bool HK.out.symm, rfl⟩
    | true =>
      by_cases h1 : 0 < n
      · have HK : Hid (Hm.regB n true = decide (n < 32)) := by simp [Hid, Hm.regB, h0, h1]
        clear h0
        go_enter Tryd.func15, Tryd.ntmps15
        go_wp2
        go_ret
        exact ⟨ret_bool HK.out.symm, rfl⟩
      · have HK : Hid (Hm.regB n true = false) := by simp [Hid, Hm.regB, h0, h1]
        have h1' : n < 0 := by omega
        clear h0
        go_enter Tryd.func15, Tryd.ntmps15
        go_wp2
        go_ret
        exact ⟨ret_bool HK.out.symm, rfl⟩

end Go.Proofs.YtkjkddcgigbglaaDoor
