/-
  Walks: hartref's Read.
-/
import Derived.Test.YtkjkddcgigbglaaDoorW4
set_option linter.unusedVariables false
set_option linter.unusedSimpArgs false
namespace Go.Proofs.YtkjkddcgigbglaaDoor
open Go.RowKit

def rdVal : Option Hm.Flds → Value
  | none => .tuple #[.int .i64 0, .int .i64 0, .int .i64 0, .int .i64 0, .bool false]
  | some f => .tuple #[.int .i64 f.d, .int .i64 f.r, .int .i64 f.t, .int .i64 f.imm, .bool true]

/-- What holds behind k letters. -/
def ReadAt (x : Int) (s : ByteArray) (k : Nat) (d r t imm : Int) : Prop :=
  (0 ≤ d ∧ d < Hm.pw k) ∧ (0 ≤ r ∧ r < Hm.pw k) ∧ (0 ≤ t ∧ t < Hm.pw k) ∧ (0 ≤ imm ∧ imm ≤ k * 1048576) ∧ Hm.rd x (s.data.toList.drop k) ⟨d, r, t, imm⟩ = Hm.rd x s.data.toList ⟨0, 0, 0, 0⟩

theorem drop_len (s : ByteArray) (k : Nat) : (s.data.toList.drop k).length = s.size - k := by simp

theorem rd_step {x : Int} {s : ByteArray} {k : Nat} (f : Hm.Flds) (hk : k < s.size) (hm : Hm.miss s[k] (Hm.bt x (s.size - (k + 1))) = false) :
    Hm.rd x (s.data.toList.drop k) f = Hm.rd x (s.data.toList.drop (k + 1)) (Hm.rstep f s[k] (Hm.bt x (s.size - (k + 1)))) := by
  rw [drop_cons s k hk, Hm.rd, drop_len, hm]; simp
theorem rd_miss {x : Int} {s : ByteArray} {k : Nat} (f : Hm.Flds) (hk : k < s.size) (hm : Hm.miss s[k] (Hm.bt x (s.size - (k + 1))) = true) :
    Hm.rd x (s.data.toList.drop k) f = none := by
  rw [drop_cons s k hk, Hm.rd, drop_len, hm]; simp

theorem ReadAt.next {x : Int} {s : ByteArray} {k : Nat} {d r t imm d' r' t' imm' : Int} (h : ReadAt x s k d r t imm) (hk : k < s.size) (hm : Hm.miss s[k] (Hm.bt x (s.size - (k + 1))) = false)
    (he : Hm.rstep ⟨d, r, t, imm⟩ s[k] (Hm.bt x (s.size - (k + 1))) = ⟨d', r', t', imm'⟩)
    (hd : d' = d ∨ d' = 2 * d + Hm.bt x (s.size - (k + 1))) (hr : r' = r ∨ r' = 2 * r + Hm.bt x (s.size - (k + 1))) (ht : t' = t ∨ t' = 2 * t + Hm.bt x (s.size - (k + 1)))
    (hi : imm ≤ imm' ∧ imm' ≤ imm + 1048576) : ReadAt x s (k + 1) d' r' t' imm' := by
  obtain ⟨h1, h2, h3, h4, h5⟩ := h
  have h01 := Hm.bt_01 x (s.size - (k + 1))
  have hp := Hm.pw_pos k
  refine ⟨?_, ?_, ?_, ?_, ?_⟩
  · rw [Hm.pw_succ]; omega
  · rw [Hm.pw_succ]; omega
  · rw [Hm.pw_succ]; omega
  · omega
  · rw [← h5, rd_step _ hk hm, he]

theorem miss_no {c : UInt8} {b : Int} (h0 : ¬ (c.toNat : Int) = 48) (h1 : ¬ (c.toNat : Int) = 49) : Hm.miss c b = false := by
  simp [Hm.miss, h0, h1]
theorem miss_0 {c : UInt8} {b : Int} (h : (c.toNat : Int) = 48) : Hm.miss c b = (b != 0) := by
  simp [Hm.miss, h]
theorem miss_1 {c : UInt8} {b : Int} (h : (c.toNat : Int) = 49) : Hm.miss c b = (b != 1) := by
  simp [Hm.miss, h]
theorem rstep_01 {f : Hm.Flds} {c : UInt8} {b : Int} (h : (c.toNat : Int) = 48 ∨ (c.toNat : Int) = 49) : Hm.rstep f c b = f := by
  unfold Hm.rstep
  rw [if_neg (by omega), if_neg (by omega), if_neg (by omega), if_neg (by omega)]

set_option maxRecDepth 100000 in
set_option maxHeartbeats 4000000 in
theorem read_any (s : ByteArray) (x : Int) (w : World) (hs : s.size ≤ 32) (x0 : 0 ≤ x) (x1 : x < 4294967296) :
    Calls Tryd.prog 22 #[.string s, .int .i64 x] w fun e w' => e = .returned (rdVal (Hm.rd x s.data.toList ⟨0, 0, 0, 0⟩)) ∧ w' = w := by
  go_enter Tryd.func22, Tryd.ntmps22
  go_wp2
  go_loop [9, 10, 11, 12, 13] (fun vd vr vt vi i => ∃ (k : Nat) (d r t imm : Int), k ≤ s.size ∧ i = .int .i64 k ∧ vd = .int .i64 d ∧ vr = .int .i64 r ∧ vt = .int .i64 t ∧ vi = .int .i64 imm ∧ ReadAt x s k d r t imm) (fun _ _ _ _ i => s.size - (intOf i).toNat)
  case atStart => exact ⟨0, 0, 0, 0, 0, Nat.zero_le _, rfl, rfl, rfl, rfl, rfl, ⟨by decide, by decide⟩, ⟨by decide, by decide⟩, ⟨by decide, by decide⟩, ⟨by decide, by decide⟩, rfl⟩
  case round =>
    obtain ⟨k, d, r, t, imm, hk, rfl, rfl, rfl, rfl, rfl, hf⟩ := hrel
    have hpk := Hm.pw_le k (by omega)
    have bd := hf.1
    have br := hf.2.1
    have bt := hf.2.2.1
    have bi := hf.2.2.2.1
    obtain ⟨bd0, bd1⟩ := bd
    obtain ⟨br0, br1⟩ := br
    obtain ⟨bt0, bt1⟩ := bt
    obtain ⟨bi0, bi1⟩ := bi
    by_cases hlt : k < s.size
    · have hb0 : (0 : Int) ≤ s[k].toNat := by omega
      have hb1 : (s[k].toNat : Int) < 256 := by have := s[k].toNat_lt; omega
      have h01 := Hm.bt_01 x (s.size - (k + 1))
      have hbt0 : 0 ≤ Hm.bt x (s.size - (k + 1)) := by omega
      have hbt1 : Hm.bt x (s.size - (k + 1)) ≤ 1 := by omega
      by_cases c0 : (s[k].toNat : Int) = 48
      · rcases h01 with hz | hz
        · have HZ : Hid (Hm.bt x (s.size - (k + 1)) = 0) := hz
          have HF : Hid (ReadAt x s (k + 1) d r t imm) := hf.next hlt (by rw [miss_0 c0, hz]; rfl) (rstep_01 (Or.inl c0)) (Or.inl rfl) (Or.inl rfl) (Or.inl rfl) (by omega)
          clear hz
          go_wp2_with (go_at_call 32; refine (bit_any _ _ _ (by omega) (by omega) (by omega) (by omega)).mono ?_; rintro e w' ⟨rfl, rfl⟩; rw [show ((s.size : Int) - 1 - (k : Int)).toNat = s.size - (k + 1) from by omega]; rw [HZ.out])
          go_round
          case rel => exact ⟨k + 1, d, r, t, imm, by omega, by go_num, rfl, rfl, rfl, rfl, HF.out⟩
          case measure => simp [intOf]; omega
        · skip
          have HZ : Hid (Hm.bt x (s.size - (k + 1)) = 1) := hz
          have HF : Hid (Hm.rd x s.data.toList ⟨0, 0, 0, 0⟩ = none) := by
            have := hf.2.2.2.2; rw [rd_miss _ hlt (by rw [miss_0 c0, hz]; rfl)] at this; exact this.symm
          clear hz
          go_wp2_with (go_at_call 32; refine (bit_any _ _ _ (by omega) (by omega) (by omega) (by omega)).mono ?_; rintro e w' ⟨rfl, rfl⟩; rw [show ((s.size : Int) - 1 - (k : Int)).toNat = s.size - (k + 1) from by omega]; rw [HZ.out])
          refine bodyPost_ret (v := rdVal none) (by simp [results, Tryd.results22, go_sem, rdVal]) rfl ⟨by rw [HF.out], rfl⟩
      have c0' : ((s[k].toNat : Int) == 48) = false := by simpa using c0
      by_cases c1 : (s[k].toNat : Int) = 49
      · rcases h01 with hz | hz
        · skip
          have HZ : Hid (Hm.bt x (s.size - (k + 1)) = 0) := hz
          have HF : Hid (Hm.rd x s.data.toList ⟨0, 0, 0, 0⟩ = none) := by
            have := hf.2.2.2.2; rw [rd_miss _ hlt (by rw [miss_1 c1, hz]; rfl)] at this; exact this.symm
          clear hz
          go_wp2_with (go_at_call 32; refine (bit_any _ _ _ (by omega) (by omega) (by omega) (by omega)).mono ?_; rintro e w' ⟨rfl, rfl⟩; rw [show ((s.size : Int) - 1 - (k : Int)).toNat = s.size - (k + 1) from by omega]; rw [HZ.out])
          refine bodyPost_ret (v := rdVal none) (by simp [results, Tryd.results22, go_sem, rdVal]) rfl ⟨by rw [HF.out], rfl⟩
        · skip
          have HZ : Hid (Hm.bt x (s.size - (k + 1)) = 1) := hz
          have HF : Hid (ReadAt x s (k + 1) d r t imm) := hf.next hlt (by rw [miss_1 c1, hz]; rfl) (rstep_01 (Or.inr c1)) (Or.inl rfl) (Or.inl rfl) (Or.inl rfl) (by omega)
          clear hz
          go_wp2_with (go_at_call 32; refine (bit_any _ _ _ (by omega) (by omega) (by omega) (by omega)).mono ?_; rintro e w' ⟨rfl, rfl⟩; rw [show ((s.size : Int) - 1 - (k : Int)).toNat = s.size - (k + 1) from by omega]; rw [HZ.out])
          go_round
          case rel => exact ⟨k + 1, d, r, t, imm, by omega, by go_num, rfl, rfl, rfl, rfl, HF.out⟩
          case measure => simp [intOf]; omega
      have c1' : ((s[k].toNat : Int) == 49) = false := by simpa using c1
      by_cases c2 : (s[k].toNat : Int) = 100
      · skip
        have HF : Hid (ReadAt x s (k + 1) (2 * d + Hm.bt x (s.size - (k + 1))) r t imm) := hf.next hlt (miss_no c0 c1) (by unfold Hm.rstep; rw [if_pos c2]) (Or.inr rfl) (Or.inl rfl) (Or.inl rfl) (by omega)
        clear h01 c0 c1
        go_wp2_with (go_at_call 32; refine (bit_any _ _ _ (by omega) (by omega) (by omega) (by omega)).mono ?_; rintro e w' ⟨rfl, rfl⟩; rw [show ((s.size : Int) - 1 - (k : Int)).toNat = s.size - (k + 1) from by omega])
        go_round
        case rel => exact ⟨k + 1, _, _, _, _, by omega, by go_num, rfl, rfl, rfl, rfl, HF.out⟩
        case measure => simp [intOf]; omega
      have c2' : ((s[k].toNat : Int) == 100) = false := by simpa using c2
      by_cases c3 : (s[k].toNat : Int) = 115
      · skip
        have HF : Hid (ReadAt x s (k + 1) d (2 * r + Hm.bt x (s.size - (k + 1))) t imm) := hf.next hlt (miss_no c0 c1) (by unfold Hm.rstep; rw [if_neg c2, if_pos c3]) (Or.inl rfl) (Or.inr rfl) (Or.inl rfl) (by omega)
        clear h01 c0 c1 c2
        go_wp2_with (go_at_call 32; refine (bit_any _ _ _ (by omega) (by omega) (by omega) (by omega)).mono ?_; rintro e w' ⟨rfl, rfl⟩; rw [show ((s.size : Int) - 1 - (k : Int)).toNat = s.size - (k + 1) from by omega])
        go_round
        case rel => exact ⟨k + 1, _, _, _, _, by omega, by go_num, rfl, rfl, rfl, rfl, HF.out⟩
        case measure => simp [intOf]; omega
      have c3' : ((s[k].toNat : Int) == 115) = false := by simpa using c3
      by_cases c4 : (s[k].toNat : Int) = 116
      · skip
        have HF : Hid (ReadAt x s (k + 1) d r (2 * t + Hm.bt x (s.size - (k + 1))) imm) := hf.next hlt (miss_no c0 c1) (by unfold Hm.rstep; rw [if_neg c2, if_neg c3, if_pos c4]) (Or.inl rfl) (Or.inl rfl) (Or.inr rfl) (by omega)
        clear h01 c0 c1 c2 c3
        go_wp2_with (go_at_call 32; refine (bit_any _ _ _ (by omega) (by omega) (by omega) (by omega)).mono ?_; rintro e w' ⟨rfl, rfl⟩; rw [show ((s.size : Int) - 1 - (k : Int)).toNat = s.size - (k + 1) from by omega])
        go_round
        case rel => exact ⟨k + 1, _, _, _, _, by omega, by go_num, rfl, rfl, rfl, rfl, HF.out⟩
        case measure => simp [intOf]; omega
      have c4' : ((s[k].toNat : Int) == 116) = false := by simpa using c4
      by_cases c5 : 65 ≤ (s[k].toNat : Int)
      · by_cases c6 : (s[k].toNat : Int) ≤ 85
        · have hpp := Hm.pw_pos (s[k].toNat - 65)
          have hpq : Hm.pw (s[k].toNat - 65) ≤ 1048576 := Hm.pw_mono (s[k].toNat - 65) 20 (by omega)
          have e65 : ((s[k].toNat : Int) - 65).toNat = s[k].toNat - 65 := by omega
          rcases h01 with hz | hz
          · have HZ : Hid (Hm.bt x (s.size - (k + 1)) = 0) := hz
            have HF : Hid (ReadAt x s (k + 1) d r t imm) := hf.next hlt (miss_no c0 c1) (by unfold Hm.rstep; rw [if_neg c2, if_neg c3, if_neg c4, if_pos ⟨c5, c6⟩, hz, Int.zero_mul, Int.add_zero]) (Or.inl rfl) (Or.inl rfl) (Or.inl rfl) (by omega)
            clear hz c0 c1 c2 c3 c4 e65
            go_wp2_with (first | (go_at_call 32; refine (bit_any _ _ _ (by omega) (by omega) (by omega) (by omega)).mono ?_; rintro e w' ⟨rfl, rfl⟩; rw [show ((s.size : Int) - 1 - (k : Int)).toNat = s.size - (k + 1) from by omega]; rw [HZ.out]) | (go_at_call 35; refine (power_any _ _ (by omega) (by omega)).mono ?_; rintro e w' ⟨rfl, rfl⟩))
            go_round
            case rel => exact ⟨k + 1, _, _, _, _, by omega, by go_num, rfl, rfl, rfl, by go_num, HF.out⟩
            case measure => simp [intOf]; omega
          · have HZ : Hid (Hm.bt x (s.size - (k + 1)) = 1) := hz
            have HF : Hid (ReadAt x s (k + 1) d r t (imm + Hm.pw (s[k].toNat - 65))) := hf.next hlt (miss_no c0 c1) (by unfold Hm.rstep; rw [if_neg c2, if_neg c3, if_neg c4, if_pos ⟨c5, c6⟩, hz, Int.one_mul, e65]) (Or.inl rfl) (Or.inl rfl) (Or.inl rfl) (by omega)
            clear hz c0 c1 c2 c3 c4 e65
            go_wp2_with (first | (go_at_call 32; refine (bit_any _ _ _ (by omega) (by omega) (by omega) (by omega)).mono ?_; rintro e w' ⟨rfl, rfl⟩; rw [show ((s.size : Int) - 1 - (k : Int)).toNat = s.size - (k + 1) from by omega]; rw [HZ.out]) | (go_at_call 35; refine (power_any _ _ (by omega) (by omega)).mono ?_; rintro e w' ⟨rfl, rfl⟩))
            go_round
            case rel => exact ⟨k + 1, _, _, _, _, by omega, by go_num, rfl, rfl, rfl, rfl, HF.out⟩
            case measure => simp [intOf]; omega
        · have HF : Hid (ReadAt x s (k + 1) d r t imm) := hf.next hlt (miss_no c0 c1) (by unfold Hm.rstep; rw [if_neg c2, if_neg c3, if_neg c4, if_neg (by omega)]) (Or.inl rfl) (Or.inl rfl) (Or.inl rfl) (by omega)
          clear h01 c0 c1 c2 c3 c4
          go_wp2_with (go_at_call 32; refine (bit_any _ _ _ (by omega) (by omega) (by omega) (by omega)).mono ?_; rintro e w' ⟨rfl, rfl⟩; rw [show ((s.size : Int) - 1 - (k : Int)).toNat = s.size - (k + 1) from by omega])
          go_round
          case rel => exact ⟨k + 1, _, _, _, _, by omega, by go_num, rfl, rfl, rfl, rfl, HF.out⟩
          case measure => simp [intOf]; omega
      · have HF : Hid (ReadAt x s (k + 1) d r t imm) := hf.next hlt (miss_no c0 c1) (by unfold Hm.rstep; rw [if_neg c2, if_neg c3, if_neg c4, if_neg (by omega)]) (Or.inl rfl) (Or.inl rfl) (Or.inl rfl) (by omega)
        clear h01 c0 c1 c2 c3 c4
        go_wp2_with (go_at_call 32; refine (bit_any _ _ _ (by omega) (by omega) (by omega) (by omega)).mono ?_; rintro e w' ⟨rfl, rfl⟩; rw [show ((s.size : Int) - 1 - (k : Int)).toNat = s.size - (k + 1) from by omega])
        go_round
        case rel => exact ⟨k + 1, _, _, _, _, by omega, by go_num, rfl, rfl, rfl, rfl, HF.out⟩
        case measure => simp [intOf]; omega
    · have HF : Hid (Hm.rd x s.data.toList ⟨0, 0, 0, 0⟩ = some ⟨d, r, t, imm⟩) := by
        have := hf.2.2.2.2; rw [drop_all s k (by omega)] at this; exact this.symm
      go_wp2
      refine bodyPost_ret (v := rdVal (some ⟨d, r, t, imm⟩)) (by simp [results, Tryd.results22, go_sem, rdVal]) rfl ⟨by rw [HF.out], rfl⟩

end Go.Proofs.YtkjkddcgigbglaaDoor
