/-
  Walks: hartref's Fill.
-/
import Derived.Test.YtkjkddcgigbglaaDoorW3
set_option linter.unusedVariables false
set_option linter.unusedSimpArgs false
namespace Go.Proofs.YtkjkddcgigbglaaDoor
open Go.RowKit

theorem drop_cons (s : ByteArray) (k : Nat) (h : k < s.size) : s.data.toList.drop k = s[k] :: s.data.toList.drop (k + 1) := by
  rw [List.drop_eq_getElem_cons (by simpa using h)]; rfl
theorem drop_all (s : ByteArray) (k : Nat) (h : s.size ≤ k) : s.data.toList.drop k = [] := List.drop_of_length_le (by simpa using h)
theorem cntd_le (s : ByteArray) (k : Nat) (b : Int) : Hm.cnt (s.data.toList.drop k) b ≤ s.size - k := by
  have := Hm.cnt_le (s.data.toList.drop k) b
  have h2 : (s.data.toList.drop k).length = s.size - k := by simp
  omega

/-- What holds behind k letters. -/
def FillAt (d r t imm : Int) (s : ByteArray) (k : Nat) (wk : Int) : Prop := 0 ≤ wk ∧ wk < Hm.pw k ∧ Hm.fill d r t imm (s.data.toList.drop k) wk = Hm.fill d r t imm s.data.toList 0
theorem FillAt.next {d r t imm : Int} {s : ByteArray} {k : Nat} {wk b : Int} (h : FillAt d r t imm s k wk) (hk : k < s.size) (hb : Hm.fbit d r t imm s[k] (s.data.toList.drop (k + 1)) = b) :
    FillAt d r t imm s (k + 1) (2 * wk + b) := by
  obtain ⟨h0, h1, h2⟩ := h
  have h01 := Hm.fbit_01 d r t imm s[k] (s.data.toList.drop (k + 1))
  rw [hb] at h01
  refine ⟨by omega, by rw [Hm.pw_succ]; omega, ?_⟩
  rw [← h2, drop_cons s k hk]
  show _ = Hm.fill d r t imm (s.data.toList.drop (k + 1)) (2 * wk + Hm.fbit d r t imm s[k] (s.data.toList.drop (k + 1)))
  rw [hb]
theorem cntd (s : ByteArray) (k : Nat) (hk : k < s.size) (b : Int) : Hm.cnt (s.data.toList.drop k) b = Hm.cnt (s.data.toList.drop (k + 1)) b + if ((s[k].toNat : Int) == b) = true then 1 else 0 := by
  rw [drop_cons s k hk, Hm.cnt_cons]
theorem cntd_no {s : ByteArray} {k : Nat} (hk : k < s.size) {b : Int} (h : ((s[k].toNat : Int) == b) = false) : Hm.cnt (s.data.toList.drop k) b = Hm.cnt (s.data.toList.drop (k + 1)) b := by
  rw [cntd s k hk, h]; simp
theorem cntd_yes {s : ByteArray} {k : Nat} (hk : k < s.size) {b : Int} (h : (s[k].toNat : Int) = b) : Hm.cnt (s.data.toList.drop k) b = Hm.cnt (s.data.toList.drop (k + 1)) b + 1 := by
  rw [cntd s k hk, h]; simp

set_option maxHeartbeats 2000000 in
theorem fill_any (s : ByteArray) (d r t imm : Int) (w : World) (hs : s.size ≤ 32)
    (d0 : -9223372036854775807 - 1 ≤ d) (d1 : d ≤ 9223372036854775807) (r0 : -9223372036854775807 - 1 ≤ r) (r1 : r ≤ 9223372036854775807)
    (t0 : -9223372036854775807 - 1 ≤ t) (t1 : t ≤ 9223372036854775807) (i0 : -9223372036854775807 - 1 ≤ imm) (i1 : imm ≤ 9223372036854775807) :
    Calls Tryd.prog 20 #[.string s, .int .i64 d, .int .i64 r, .int .i64 t, .int .i64 imm] w fun e w' => e = .returned (.int .i64 (Hm.fill d r t imm s.data.toList 0)) ∧ w' = w := by
  go_enter Tryd.func20, Tryd.ntmps20
  go_wp2_with (go_at_call 31; refine (count_any _ _ _ (by omega)).mono ?_; rintro e w' ⟨rfl, rfl⟩)
  go_loop [11, 12, 13, 14, 15] (fun v nd ns nt i => ∃ (k : Nat) (wk : Int), k ≤ s.size ∧ i = .int .i64 k ∧ v = .int .i64 wk ∧ nd = .int .i64 (Hm.cnt (s.data.toList.drop k) 100) ∧ ns = .int .i64 (Hm.cnt (s.data.toList.drop k) 115)
      ∧ nt = .int .i64 (Hm.cnt (s.data.toList.drop k) 116) ∧ FillAt d r t imm s k wk) (fun _ _ _ _ i => s.size - (intOf i).toNat)
  case atStart => exact ⟨0, 0, Nat.zero_le _, rfl, rfl, rfl, rfl, rfl, Int.le_refl _, by decide, rfl⟩
  case round =>
    obtain ⟨k, wk, hk, rfl, rfl, rfl, rfl, rfl, hf⟩ := hrel
    have hwk0 := hf.1
    have hwk1 := hf.2.1
    have hpk := Hm.pw_le k (by omega)
    by_cases hlt : k < s.size
    · have hcd := cntd_le s (k + 1) 100
      have hcs := cntd_le s (k + 1) 115
      have hct := cntd_le s (k + 1) 116
      have hb0 : (0 : Int) ≤ s[k].toNat := by omega
      have hb1 : (s[k].toNat : Int) < 256 := by have := s[k].toNat_lt; omega
      by_cases c1 : (s[k].toNat : Int) = 49
      · have n1 : Hid (Hm.cnt (s.data.toList.drop k) 100 = Hm.cnt (s.data.toList.drop (k + 1)) 100) := cntd_no hlt (by rw [c1]; rfl)
        have n2 : Hid (Hm.cnt (s.data.toList.drop k) 115 = Hm.cnt (s.data.toList.drop (k + 1)) 115) := cntd_no hlt (by rw [c1]; rfl)
        have n3 : Hid (Hm.cnt (s.data.toList.drop k) 116 = Hm.cnt (s.data.toList.drop (k + 1)) 116) := cntd_no hlt (by rw [c1]; rfl)
        have HF : Hid (FillAt d r t imm s (k + 1) (2 * wk + 1)) := hf.next hlt (by unfold Hm.fbit; rw [if_pos c1])
        go_wp2
        go_round
        case rel => exact ⟨k + 1, _, by omega, by go_num, rfl, by rw [n1.out], by rw [n2.out], by rw [n3.out], HF.out⟩
        case measure => simp [intOf]; omega
      · have c1' : ((s[k].toNat : Int) == 49) = false := by simpa using c1
        by_cases c2 : (s[k].toNat : Int) = 100
        · skip
          have n1 : Hm.cnt (s.data.toList.drop k) 100 = Hm.cnt (s.data.toList.drop (k + 1)) 100 + 1 := cntd_yes hlt c2
          have n2 : Hid (Hm.cnt (s.data.toList.drop k) 115 = Hm.cnt (s.data.toList.drop (k + 1)) 115) := cntd_no hlt (by rw [c2]; rfl)
          have n3 : Hid (Hm.cnt (s.data.toList.drop k) 116 = Hm.cnt (s.data.toList.drop (k + 1)) 116) := cntd_no hlt (by rw [c2]; rfl)
          have HF : Hid (FillAt d r t imm s (k + 1) (2 * wk + Hm.bt d (Hm.cnt (s.data.toList.drop (k + 1)) 100))) := hf.next hlt (by unfold Hm.fbit; rw [if_neg c1, if_pos c2])
          have hbt := Hm.bt_01 d (Hm.cnt (s.data.toList.drop (k + 1)) 100)
          have hbt0 : 0 ≤ Hm.bt d (Hm.cnt (s.data.toList.drop (k + 1)) 100) := by omega
          have hbt1 : Hm.bt d (Hm.cnt (s.data.toList.drop (k + 1)) 100) ≤ 1 := by omega
          clear hbt c1
          rw [n1]
          clear n1
          generalize hq : Hm.cnt (s.data.toList.drop (k + 1)) 100 = q at *
          have HQ : Hid (Hm.cnt (s.data.toList.drop (k + 1)) 100 = q) := hq
          clear hq
          go_wp2_with (go_at_call 32; refine (bit_any _ _ _ (by omega) (by omega) (by omega) (by omega)).mono ?_; rintro e w' ⟨rfl, rfl⟩; rw [Int.toNat_natCast])
          go_round
          case rel => exact ⟨k + 1, _, by omega, by go_num, rfl, by rw [HQ.out], by rw [n2.out], by rw [n3.out], HF.out⟩
          case measure => simp [intOf]; omega
        have c2' : ((s[k].toNat : Int) == 100) = false := by simpa using c2
        by_cases c3 : (s[k].toNat : Int) = 115
        · skip
          have n1 : Hid (Hm.cnt (s.data.toList.drop k) 100 = Hm.cnt (s.data.toList.drop (k + 1)) 100) := cntd_no hlt (by rw [c3]; rfl)
          have n2 : Hm.cnt (s.data.toList.drop k) 115 = Hm.cnt (s.data.toList.drop (k + 1)) 115 + 1 := cntd_yes hlt c3
          have n3 : Hid (Hm.cnt (s.data.toList.drop k) 116 = Hm.cnt (s.data.toList.drop (k + 1)) 116) := cntd_no hlt (by rw [c3]; rfl)
          have HF : Hid (FillAt d r t imm s (k + 1) (2 * wk + Hm.bt r (Hm.cnt (s.data.toList.drop (k + 1)) 115))) := hf.next hlt (by unfold Hm.fbit; rw [if_neg c1, if_neg c2, if_pos c3])
          have hbt := Hm.bt_01 r (Hm.cnt (s.data.toList.drop (k + 1)) 115)
          have hbt0 : 0 ≤ Hm.bt r (Hm.cnt (s.data.toList.drop (k + 1)) 115) := by omega
          have hbt1 : Hm.bt r (Hm.cnt (s.data.toList.drop (k + 1)) 115) ≤ 1 := by omega
          clear hbt c1 c2
          rw [n2]
          clear n2
          generalize hq : Hm.cnt (s.data.toList.drop (k + 1)) 115 = q at *
          have HQ : Hid (Hm.cnt (s.data.toList.drop (k + 1)) 115 = q) := hq
          clear hq
          go_wp2_with (go_at_call 32; refine (bit_any _ _ _ (by omega) (by omega) (by omega) (by omega)).mono ?_; rintro e w' ⟨rfl, rfl⟩; rw [Int.toNat_natCast])
          go_round
          case rel => exact ⟨k + 1, _, by omega, by go_num, rfl, by rw [n1.out], by rw [HQ.out], by rw [n3.out], HF.out⟩
          case measure => simp [intOf]; omega
        have c3' : ((s[k].toNat : Int) == 115) = false := by simpa using c3
        by_cases c4 : (s[k].toNat : Int) = 116
        · skip
          have n1 : Hid (Hm.cnt (s.data.toList.drop k) 100 = Hm.cnt (s.data.toList.drop (k + 1)) 100) := cntd_no hlt (by rw [c4]; rfl)
          have n2 : Hid (Hm.cnt (s.data.toList.drop k) 115 = Hm.cnt (s.data.toList.drop (k + 1)) 115) := cntd_no hlt (by rw [c4]; rfl)
          have n3 : Hm.cnt (s.data.toList.drop k) 116 = Hm.cnt (s.data.toList.drop (k + 1)) 116 + 1 := cntd_yes hlt c4
          have HF : Hid (FillAt d r t imm s (k + 1) (2 * wk + Hm.bt t (Hm.cnt (s.data.toList.drop (k + 1)) 116))) := hf.next hlt (by unfold Hm.fbit; rw [if_neg c1, if_neg c2, if_neg c3, if_pos c4])
          have hbt := Hm.bt_01 t (Hm.cnt (s.data.toList.drop (k + 1)) 116)
          have hbt0 : 0 ≤ Hm.bt t (Hm.cnt (s.data.toList.drop (k + 1)) 116) := by omega
          have hbt1 : Hm.bt t (Hm.cnt (s.data.toList.drop (k + 1)) 116) ≤ 1 := by omega
          clear hbt c1 c2 c3
          rw [n3]
          clear n3
          generalize hq : Hm.cnt (s.data.toList.drop (k + 1)) 116 = q at *
          have HQ : Hid (Hm.cnt (s.data.toList.drop (k + 1)) 116 = q) := hq
          clear hq
          go_wp2_with (go_at_call 32; refine (bit_any _ _ _ (by omega) (by omega) (by omega) (by omega)).mono ?_; rintro e w' ⟨rfl, rfl⟩; rw [Int.toNat_natCast])
          go_round
          case rel => exact ⟨k + 1, _, by omega, by go_num, rfl, by rw [n1.out], by rw [n2.out], by rw [HQ.out], HF.out⟩
          case measure => simp [intOf]; omega
        have c4' : ((s[k].toNat : Int) == 116) = false := by simpa using c4
        have n1 : Hid (Hm.cnt (s.data.toList.drop k) 100 = Hm.cnt (s.data.toList.drop (k + 1)) 100) := cntd_no hlt c2'
        have n2 : Hid (Hm.cnt (s.data.toList.drop k) 115 = Hm.cnt (s.data.toList.drop (k + 1)) 115) := cntd_no hlt c3'
        have n3 : Hid (Hm.cnt (s.data.toList.drop k) 116 = Hm.cnt (s.data.toList.drop (k + 1)) 116) := cntd_no hlt c4'
        by_cases c5 : 65 ≤ (s[k].toNat : Int)
        · by_cases c6 : (s[k].toNat : Int) ≤ 85
          · have HF : Hid (FillAt d r t imm s (k + 1) (2 * wk + Hm.bt imm (s[k].toNat - 65))) := hf.next hlt (by unfold Hm.fbit; rw [if_neg c1, if_neg c2, if_neg c3, if_neg c4, if_pos ⟨c5, c6⟩, show ((s[k].toNat : Int) - 65).toNat = s[k].toNat - 65 from by omega])
            have hbt := Hm.bt_01 imm (s[k].toNat - 65)
            have hbt0 : 0 ≤ Hm.bt imm (s[k].toNat - 65) := by omega
            have hbt1 : Hm.bt imm (s[k].toNat - 65) ≤ 1 := by omega
            clear hbt c1 c2 c3 c4
            go_wp2_with (go_at_call 32; refine (bit_any _ _ _ (by omega) (by omega) (by omega) (by omega)).mono ?_; rintro e w' ⟨rfl, rfl⟩)
            go_round
            case rel => exact ⟨k + 1, _, by omega, by go_num, rfl, by rw [n1.out], by rw [n2.out], by rw [n3.out], HF.out⟩
            case measure => simp [intOf]; omega
          · have HF : Hid (FillAt d r t imm s (k + 1) (2 * wk + 0)) := hf.next hlt (by unfold Hm.fbit; rw [if_neg c1, if_neg c2, if_neg c3, if_neg c4, if_neg (by omega)])
            clear c1 c2 c3 c4
            go_wp2
            go_round
            case rel => exact ⟨k + 1, _, by omega, by go_num, by go_num, by rw [n1.out], by rw [n2.out], by rw [n3.out], HF.out⟩
            case measure => simp [intOf]; omega
        · have HF : Hid (FillAt d r t imm s (k + 1) (2 * wk + 0)) := hf.next hlt (by unfold Hm.fbit; rw [if_neg c1, if_neg c2, if_neg c3, if_neg c4, if_neg (by omega)])
          clear c1 c2 c3 c4
          go_wp2
          go_round
          case rel => exact ⟨k + 1, _, by omega, by go_num, by go_num, by rw [n1.out], by rw [n2.out], by rw [n3.out], HF.out⟩
          case measure => simp [intOf]; omega
    · have HF : Hid (wk = Hm.fill d r t imm s.data.toList 0) := by
        have := hf.2.2; rw [drop_all s k (by omega)] at this; exact this
      go_wp2
      go_ret
      exact ⟨ret_int HF.out, rfl⟩

end Go.Proofs.YtkjkddcgigbglaaDoor
