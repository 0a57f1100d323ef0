/-
  W5 W6 W7 W0 in one text.
-/
import Derived.Test.YtdcmdjeooklmjaaDoorGI
import Derived.Test.YtdcmdjeooklmjaaDoorGA
import Derived.BigQuiet
import Derived.Test.YtdcmdjeooklmjaaDoorGH
set_option linter.unusedVariables false
set_option linter.unusedSimpArgs false
/-
  Walks: hartref's Read.
-/
namespace Go.Proofs.YtdcmdjeooklmjaaDoor
open Go.RowKit

def rdVal : Option Hm.Flds → Value
  | none => .tuple #[.int .i64 0, .int .i64 0, .int .i64 0, .int .i64 0, .bool false]
  | some f => .tuple #[.int .i64 f.d, .int .i64 f.r, .int .i64 f.t, .int .i64 f.imm, .bool true]

/-- What holds behind k letters. -/
def ReadAt (x : Int) (s : ByteArray) (k : Nat) (d r t imm : Int) : Prop :=
  (0 ≤ d ∧ d < Hm.pw k) ∧ (0 ≤ r ∧ r < Hm.pw k) ∧ (0 ≤ t ∧ t < Hm.pw k) ∧ (0 ≤ imm ∧ imm ≤ k * 1048576) ∧ Hm.rd x (s.data.toList.drop k) ⟨d, r, t, imm⟩ = Hm.rd x s.data.toList ⟨0, 0, 0, 0⟩

theorem drop_len (s : ByteArray) (k : Nat) : (s.data.toList.drop k).length = s.size - k := by simp

theorem rd_step {x : Int} {s : ByteArray} {k : Nat} (f : Hm.Flds) (hk : k < s.size) (hm : Hm.miss s[k] (Hm.bt x (s.size - (k + 1))) = false) :
    Hm.rd x (s.data.toList.drop k) f = Hm.rd x (s.data.toList.drop (k + 1)) (Hm.rstep f s[k] (Hm.bt x (s.size - (k + 1)))) := by
  rw [drop_cons s k hk, Hm.rd, drop_len, hm]; simp
theorem rd_miss {x : Int} {s : ByteArray} {k : Nat} (f : Hm.Flds) (hk : k < s.size) (hm : Hm.miss s[k] (Hm.bt x (s.size - (k + 1))) = true) :
    Hm.rd x (s.data.toList.drop k) f = none := by
  rw [drop_cons s k hk, Hm.rd, drop_len, hm]; simp

theorem ReadAt.next {x : Int} {s : ByteArray} {k : Nat} {d r t imm d' r' t' imm' : Int} (h : ReadAt x s k d r t imm) (hk : k < s.size) (hm : Hm.miss s[k] (Hm.bt x (s.size - (k + 1))) = false)
    (he : Hm.rstep ⟨d, r, t, imm⟩ s[k] (Hm.bt x (s.size - (k + 1))) = ⟨d', r', t', imm'⟩)
    (hd : d' = d ∨ d' = 2 * d + Hm.bt x (s.size - (k + 1))) (hr : r' = r ∨ r' = 2 * r + Hm.bt x (s.size - (k + 1))) (ht : t' = t ∨ t' = 2 * t + Hm.bt x (s.size - (k + 1)))
    (hi : imm ≤ imm' ∧ imm' ≤ imm + 1048576) : ReadAt x s (k + 1) d' r' t' imm' := by
  obtain ⟨h1, h2, h3, h4, h5⟩ := h
  have h01 := Hm.bt_01 x (s.size - (k + 1))
  have hp := Hm.pw_pos k
  refine ⟨?_, ?_, ?_, ?_, ?_⟩
  · rw [Hm.pw_succ]; omega
  · rw [Hm.pw_succ]; omega
  · rw [Hm.pw_succ]; omega
  · omega
  · rw [← h5, rd_step _ hk hm, he]

theorem miss_no {c : UInt8} {b : Int} (h0 : ¬ (c.toNat : Int) = 48) (h1 : ¬ (c.toNat : Int) = 49) : Hm.miss c b = false := by
  simp [Hm.miss, h0, h1]
theorem miss_0 {c : UInt8} {b : Int} (h : (c.toNat : Int) = 48) : Hm.miss c b = (b != 0) := by
  simp [Hm.miss, h]
theorem miss_1 {c : UInt8} {b : Int} (h : (c.toNat : Int) = 49) : Hm.miss c b = (b != 1) := by
  simp [Hm.miss, h]
theorem rstep_01 {f : Hm.Flds} {c : UInt8} {b : Int} (h : (c.toNat : Int) = 48 ∨ (c.toNat : Int) = 49) : Hm.rstep f c b = f := by
  unfold Hm.rstep
  rw [if_neg (by omega), if_neg (by omega), if_neg (by omega), if_neg (by omega)]

set_option maxRecDepth 100000 in
set_option maxHeartbeats 4000000 in
theorem read_any (s : ByteArray) (x : Int) (w : World) (hs : s.size ≤ 32) (x0 : 0 ≤ x) (x1 : x < 4294967296) :
    Calls Tryd.prog 41 #[.string s, .int .i64 x] w fun e w' => e = .returned (rdVal (Hm.rd x s.data.toList ⟨0, 0, 0, 0⟩)) ∧ w' = w := by
  go_enter Tryd.func41, Tryd.ntmps41
  go_wp2
  go_loop [9, 10, 11, 12, 13] (fun vd vr vt vi i => ∃ (k : Nat) (d r t imm : Int), k ≤ s.size ∧ i = .int .i64 k ∧ vd = .int .i64 d ∧ vr = .int .i64 r ∧ vt = .int .i64 t ∧ vi = .int .i64 imm ∧ ReadAt x s k d r t imm) (fun _ _ _ _ i => s.size - (intOf i).toNat)
  case atStart => exact ⟨0, 0, 0, 0, 0, Nat.zero_le _, rfl, rfl, rfl, rfl, rfl, ⟨by decide, by decide⟩, ⟨by decide, by decide⟩, ⟨by decide, by decide⟩, ⟨by decide, by decide⟩, rfl⟩
  case round =>
    obtain ⟨k, d, r, t, imm, hk, rfl, rfl, rfl, rfl, rfl, hf⟩ := hrel
    have hpk := Hm.pw_le k (by omega)
    have bd := hf.1
    have br := hf.2.1
    have bt := hf.2.2.1
    have bi := hf.2.2.2.1
    obtain ⟨bd0, bd1⟩ := bd
    obtain ⟨br0, br1⟩ := br
    obtain ⟨bt0, bt1⟩ := bt
    obtain ⟨bi0, bi1⟩ := bi
    by_cases hlt : k < s.size
    · have hb0 : (0 : Int) ≤ s[k].toNat := by omega
      have hb1 : (s[k].toNat : Int) < 256 := by have := s[k].toNat_lt; omega
      have h01 := Hm.bt_01 x (s.size - (k + 1))
      have hbt0 : 0 ≤ Hm.bt x (s.size - (k + 1)) := by omega
      have hbt1 : Hm.bt x (s.size - (k + 1)) ≤ 1 := by omega
      by_cases c0 : (s[k].toNat : Int) = 48
      · rcases h01 with hz | hz
        · have HZ : Hid (Hm.bt x (s.size - (k + 1)) = 0) := hz
          have HF : Hid (ReadAt x s (k + 1) d r t imm) := hf.next hlt (by rw [miss_0 c0, hz]; rfl) (rstep_01 (Or.inl c0)) (Or.inl rfl) (Or.inl rfl) (Or.inl rfl) (by omega)
          clear hz
          go_wp2_with (go_at_call 65; refine (bit_any _ _ _ (by omega) (by omega) (by omega) (by omega)).mono ?_; rintro e w' ⟨rfl, rfl⟩; rw [show ((s.size : Int) - 1 - (k : Int)).toNat = s.size - (k + 1) from by omega]; rw [HZ.out])
          go_round
          case rel => exact ⟨k + 1, d, r, t, imm, by omega, by go_num, rfl, rfl, rfl, rfl, HF.out⟩
          case measure => simp [intOf]; omega
        · skip
          have HZ : Hid (Hm.bt x (s.size - (k + 1)) = 1) := hz
          have HF : Hid (Hm.rd x s.data.toList ⟨0, 0, 0, 0⟩ = none) := by
            have := hf.2.2.2.2; rw [rd_miss _ hlt (by rw [miss_0 c0, hz]; rfl)] at this; exact this.symm
          clear hz
          go_wp2_with (go_at_call 65; refine (bit_any _ _ _ (by omega) (by omega) (by omega) (by omega)).mono ?_; rintro e w' ⟨rfl, rfl⟩; rw [show ((s.size : Int) - 1 - (k : Int)).toNat = s.size - (k + 1) from by omega]; rw [HZ.out])
          refine bodyPost_ret (v := rdVal none) (by simp [results, Tryd.results41, go_sem, rdVal]) rfl ⟨by rw [HF.out], rfl⟩
      have c0' : ((s[k].toNat : Int) == 48) = false := by simpa using c0
      by_cases c1 : (s[k].toNat : Int) = 49
      · rcases h01 with hz | hz
        · skip
          have HZ : Hid (Hm.bt x (s.size - (k + 1)) = 0) := hz
          have HF : Hid (Hm.rd x s.data.toList ⟨0, 0, 0, 0⟩ = none) := by
            have := hf.2.2.2.2; rw [rd_miss _ hlt (by rw [miss_1 c1, hz]; rfl)] at this; exact this.symm
          clear hz
          go_wp2_with (go_at_call 65; refine (bit_any _ _ _ (by omega) (by omega) (by omega) (by omega)).mono ?_; rintro e w' ⟨rfl, rfl⟩; rw [show ((s.size : Int) - 1 - (k : Int)).toNat = s.size - (k + 1) from by omega]; rw [HZ.out])
          refine bodyPost_ret (v := rdVal none) (by simp [results, Tryd.results41, go_sem, rdVal]) rfl ⟨by rw [HF.out], rfl⟩
        · skip
          have HZ : Hid (Hm.bt x (s.size - (k + 1)) = 1) := hz
          have HF : Hid (ReadAt x s (k + 1) d r t imm) := hf.next hlt (by rw [miss_1 c1, hz]; rfl) (rstep_01 (Or.inr c1)) (Or.inl rfl) (Or.inl rfl) (Or.inl rfl) (by omega)
          clear hz
          go_wp2_with (go_at_call 65; refine (bit_any _ _ _ (by omega) (by omega) (by omega) (by omega)).mono ?_; rintro e w' ⟨rfl, rfl⟩; rw [show ((s.size : Int) - 1 - (k : Int)).toNat = s.size - (k + 1) from by omega]; rw [HZ.out])
          go_round
          case rel => exact ⟨k + 1, d, r, t, imm, by omega, by go_num, rfl, rfl, rfl, rfl, HF.out⟩
          case measure => simp [intOf]; omega
      have c1' : ((s[k].toNat : Int) == 49) = false := by simpa using c1
      by_cases c2 : (s[k].toNat : Int) = 100
      · skip
        have HF : Hid (ReadAt x s (k + 1) (2 * d + Hm.bt x (s.size - (k + 1))) r t imm) := hf.next hlt (miss_no c0 c1) (by unfold Hm.rstep; rw [if_pos c2]) (Or.inr rfl) (Or.inl rfl) (Or.inl rfl) (by omega)
        clear h01 c0 c1
        go_wp2_with (go_at_call 65; refine (bit_any _ _ _ (by omega) (by omega) (by omega) (by omega)).mono ?_; rintro e w' ⟨rfl, rfl⟩; rw [show ((s.size : Int) - 1 - (k : Int)).toNat = s.size - (k + 1) from by omega])
        go_round
        case rel => exact ⟨k + 1, _, _, _, _, by omega, by go_num, rfl, rfl, rfl, rfl, HF.out⟩
        case measure => simp [intOf]; omega
      have c2' : ((s[k].toNat : Int) == 100) = false := by simpa using c2
      by_cases c3 : (s[k].toNat : Int) = 115
      · skip
        have HF : Hid (ReadAt x s (k + 1) d (2 * r + Hm.bt x (s.size - (k + 1))) t imm) := hf.next hlt (miss_no c0 c1) (by unfold Hm.rstep; rw [if_neg c2, if_pos c3]) (Or.inl rfl) (Or.inr rfl) (Or.inl rfl) (by omega)
        clear h01 c0 c1 c2
        go_wp2_with (go_at_call 65; refine (bit_any _ _ _ (by omega) (by omega) (by omega) (by omega)).mono ?_; rintro e w' ⟨rfl, rfl⟩; rw [show ((s.size : Int) - 1 - (k : Int)).toNat = s.size - (k + 1) from by omega])
        go_round
        case rel => exact ⟨k + 1, _, _, _, _, by omega, by go_num, rfl, rfl, rfl, rfl, HF.out⟩
        case measure => simp [intOf]; omega
      have c3' : ((s[k].toNat : Int) == 115) = false := by simpa using c3
      by_cases c4 : (s[k].toNat : Int) = 116
      · skip
        have HF : Hid (ReadAt x s (k + 1) d r (2 * t + Hm.bt x (s.size - (k + 1))) imm) := hf.next hlt (miss_no c0 c1) (by unfold Hm.rstep; rw [if_neg c2, if_neg c3, if_pos c4]) (Or.inl rfl) (Or.inl rfl) (Or.inr rfl) (by omega)
        clear h01 c0 c1 c2 c3
        go_wp2_with (go_at_call 65; refine (bit_any _ _ _ (by omega) (by omega) (by omega) (by omega)).mono ?_; rintro e w' ⟨rfl, rfl⟩; rw [show ((s.size : Int) - 1 - (k : Int)).toNat = s.size - (k + 1) from by omega])
        go_round
        case rel => exact ⟨k + 1, _, _, _, _, by omega, by go_num, rfl, rfl, rfl, rfl, HF.out⟩
        case measure => simp [intOf]; omega
      have c4' : ((s[k].toNat : Int) == 116) = false := by simpa using c4
      by_cases c5 : 65 ≤ (s[k].toNat : Int)
      · by_cases c6 : (s[k].toNat : Int) ≤ 85
        · have hpp := Hm.pw_pos (s[k].toNat - 65)
          have hpq : Hm.pw (s[k].toNat - 65) ≤ 1048576 := Hm.pw_mono (s[k].toNat - 65) 20 (by omega)
          have e65 : ((s[k].toNat : Int) - 65).toNat = s[k].toNat - 65 := by omega
          rcases h01 with hz | hz
          · have HZ : Hid (Hm.bt x (s.size - (k + 1)) = 0) := hz
            have HF : Hid (ReadAt x s (k + 1) d r t imm) := hf.next hlt (miss_no c0 c1) (by unfold Hm.rstep; rw [if_neg c2, if_neg c3, if_neg c4, if_pos ⟨c5, c6⟩, hz, Int.zero_mul, Int.add_zero]) (Or.inl rfl) (Or.inl rfl) (Or.inl rfl) (by omega)
            clear hz c0 c1 c2 c3 c4 e65
            go_wp2_with (first | (go_at_call 65; refine (bit_any _ _ _ (by omega) (by omega) (by omega) (by omega)).mono ?_; rintro e w' ⟨rfl, rfl⟩; rw [show ((s.size : Int) - 1 - (k : Int)).toNat = s.size - (k + 1) from by omega]; rw [HZ.out]) | (go_at_call 68; refine (power_any _ _ (by omega) (by omega)).mono ?_; rintro e w' ⟨rfl, rfl⟩))
            go_round
            case rel => exact ⟨k + 1, _, _, _, _, by omega, by go_num, rfl, rfl, rfl, by go_num, HF.out⟩
            case measure => simp [intOf]; omega
          · have HZ : Hid (Hm.bt x (s.size - (k + 1)) = 1) := hz
            have HF : Hid (ReadAt x s (k + 1) d r t (imm + Hm.pw (s[k].toNat - 65))) := hf.next hlt (miss_no c0 c1) (by unfold Hm.rstep; rw [if_neg c2, if_neg c3, if_neg c4, if_pos ⟨c5, c6⟩, hz, Int.one_mul, e65]) (Or.inl rfl) (Or.inl rfl) (Or.inl rfl) (by omega)
            clear hz c0 c1 c2 c3 c4 e65
            go_wp2_with (first | (go_at_call 65; refine (bit_any _ _ _ (by omega) (by omega) (by omega) (by omega)).mono ?_; rintro e w' ⟨rfl, rfl⟩; rw [show ((s.size : Int) - 1 - (k : Int)).toNat = s.size - (k + 1) from by omega]; rw [HZ.out]) | (go_at_call 68; refine (power_any _ _ (by omega) (by omega)).mono ?_; rintro e w' ⟨rfl, rfl⟩))
            go_round
            case rel => exact ⟨k + 1, _, _, _, _, by omega, by go_num, rfl, rfl, rfl, rfl, HF.out⟩
            case measure => simp [intOf]; omega
        · have HF : Hid (ReadAt x s (k + 1) d r t imm) := hf.next hlt (miss_no c0 c1) (by unfold Hm.rstep; rw [if_neg c2, if_neg c3, if_neg c4, if_neg (by omega)]) (Or.inl rfl) (Or.inl rfl) (Or.inl rfl) (by omega)
          clear h01 c0 c1 c2 c3 c4
          go_wp2_with (go_at_call 65; refine (bit_any _ _ _ (by omega) (by omega) (by omega) (by omega)).mono ?_; rintro e w' ⟨rfl, rfl⟩; rw [show ((s.size : Int) - 1 - (k : Int)).toNat = s.size - (k + 1) from by omega])
          go_round
          case rel => exact ⟨k + 1, _, _, _, _, by omega, by go_num, rfl, rfl, rfl, rfl, HF.out⟩
          case measure => simp [intOf]; omega
      · have HF : Hid (ReadAt x s (k + 1) d r t imm) := hf.next hlt (miss_no c0 c1) (by unfold Hm.rstep; rw [if_neg c2, if_neg c3, if_neg c4, if_neg (by omega)]) (Or.inl rfl) (Or.inl rfl) (Or.inl rfl) (by omega)
        clear h01 c0 c1 c2 c3 c4
        go_wp2_with (go_at_call 65; refine (bit_any _ _ _ (by omega) (by omega) (by omega) (by omega)).mono ?_; rintro e w' ⟨rfl, rfl⟩; rw [show ((s.size : Int) - 1 - (k : Int)).toNat = s.size - (k + 1) from by omega])
        go_round
        case rel => exact ⟨k + 1, _, _, _, _, by omega, by go_num, rfl, rfl, rfl, rfl, HF.out⟩
        case measure => simp [intOf]; omega
    · have HF : Hid (Hm.rd x s.data.toList ⟨0, 0, 0, 0⟩ = some ⟨d, r, t, imm⟩) := by
        have := hf.2.2.2.2; rw [drop_all s k (by omega)] at this; exact this.symm
      go_wp2
      refine bodyPost_ret (v := rdVal (some ⟨d, r, t, imm⟩)) (by simp [results, Tryd.results41, go_sem, rdVal]) rfl ⟨by rw [HF.out], rfl⟩

end Go.Proofs.YtdcmdjeooklmjaaDoor

/-
  Walks: hartref's bits.
-/
namespace Go.Proofs.YtdcmdjeooklmjaaDoor
open Go.RowKit

theorem cells_of_row {c : Array Value} (f : Nat → Value) (n : Nat) (h : c = ((List.range n).map f).toArray) (w : World) (t : TypeId) (k : Nat) (hk : k < n) :
    (w.alloc (.cells c t)).cell? ⟨w.heap.size, k, none⟩ = some (f k) := by
  rw [World.cell?_alloc_new, h]
  simp [hk]

set_option maxRecDepth 100000 in
set_option maxHeartbeats 4000000 in
theorem bits_any (w : World) :
    Calls Tryd.prog 33 #[] w fun e w' => e = .returned (.slice (some ⟨w.heap.size, 0, none⟩) 49 49) ∧ w'.heap.size = w.heap.size + 1 ∧ Below w.heap.size w w' ∧ ∀ k, k < 49 → w'.cell? ⟨w.heap.size, k, none⟩ = some (.string (Hm.bitsS k)) := by
  go_enter Tryd.func33, Tryd.ntmps33
  go_wp2
  go_ret
  refine ⟨rfl, by simp, (Below.refl _ _).alloc (Nat.le_refl _) _, ?_⟩
  exact fun k hk => cells_of_row (fun k => .string (Hm.bitsS k)) 49 (by kernel_rfl) w _ k hk
end Go.Proofs.YtdcmdjeooklmjaaDoor

/-
  Walks: hartref's Legal.
-/
namespace Go.Proofs.YtdcmdjeooklmjaaDoor
open Go.RowKit

theorem bcell {B : Nat} {W w1 : World} (hb : Below B W w1) : (∀ b o, b < B → w1.cell? ⟨b, o, none⟩ = W.cell? ⟨b, o, none⟩) :=
  fun b o h => hb.cell (p := ⟨b, o, none⟩) h

theorem legalR_no {op rd rs1 rs2 imm : Int} (h : op < 1 ∨ 48 < op) : Hm.legalR op rd rs1 rs2 imm = false := by
  unfold Hm.legalR; rw [if_neg (by omega)]
theorem legalR_yes {op rd rs1 rs2 imm : Int} (h : 1 ≤ op ∧ op ≤ 48) : Hm.legalR op rd rs1 rs2 imm = (Hm.regB rd (Hm.hasB (Hm.bitsL op.toNat) 100) && Hm.regB rs1 (Hm.hasB (Hm.bitsL op.toNat) 115) && Hm.regB rs2 (Hm.hasB (Hm.bitsL op.toNat) 116) && Hm.fitsB (Hm.kind (Hm.bitsL op.toNat)) imm) := by
  unfold Hm.legalR; rw [if_pos h]

set_option maxRecDepth 100000 in
set_option maxHeartbeats 1000000 in
theorem refLegal_no (op rd rs1 rs2 imm : Int) (w : World) (h : op < 1 ∨ 48 < op) :
    Calls Tryd.prog 12 #[.agg #[.int .i64 op, .int .i64 rd, .int .i64 rs1, .int .i64 rs2, .int .i64 imm]] w fun e w' => e = .returned (.bool (Hm.legalR op rd rs1 rs2 imm)) ∧ Below w.heap.size w w' := by
  have HN : Hid (Hm.legalR op rd rs1 rs2 imm = false) := legalR_no h
  rcases h with h | h
  · go_enter Tryd.func12, Tryd.ntmps12
    go_wp2
    go_ret
    exact ⟨ret_bool HN.out.symm, (Below.refl _ _).alloc (Nat.le_refl _) _⟩
  · have h' : ¬ op < 1 := by omega
    go_enter Tryd.func12, Tryd.ntmps12
    go_wp2
    go_ret
    exact ⟨ret_bool HN.out.symm, (Below.refl _ _).alloc (Nat.le_refl _) _⟩

set_option maxRecDepth 100000 in
set_option maxHeartbeats 2000000 in
theorem refLegal_yes (k : Nat) (rd rs1 rs2 imm : Int) (w : World) (h1 : 1 ≤ k) (h2 : k ≤ 48) :
    Calls Tryd.prog 12 #[.agg #[.int .i64 k, .int .i64 rd, .int .i64 rs1, .int .i64 rs2, .int .i64 imm]] w fun e w' => e = .returned (.bool (Hm.legalR k rd rs1 rs2 imm)) ∧ Below w.heap.size w w' := by
  have HN : Hid (Hm.legalR (k : Int) rd rs1 rs2 imm = _) := legalR_yes (by omega)
  rw [Int.toNat_natCast] at HN
  have h3 : ((k : Int) < 1) = False := by simp; omega
  have h4 : (k : Int) < 49 := by omega
  have h5 : (0 : Int) ≤ k := by omega
  go_enter Tryd.func12, Tryd.ntmps12
  go_wp2
  refine wp_region_held_drew (S := fun w' => w'.cell? ⟨w.heap.size, 0, none⟩ = some (.int .i64 k)) (by kernel_rfl) (by go_keep) (fun hHeld => ?_)
  refine' takeH_1 _ (by kernel_rfl) (by kernel_rfl) (by kernel_rfl) (fun _ _ _ h => h) (by rfl) ?hy1 hHeld ?rest1
  case hy1 => (intro w hSw; (try dsimp only at hSw); go_simp; try with_reducible rfl)
  simp only [Act.put, List.setIfInBounds_toArray, List.set_cons_zero, List.set_cons_succ]
  refine' takeH_2 _ (by kernel_rfl) (by kernel_rfl) (by kernel_rfl) (fun _ _ _ h => h) (by rfl) ?hy2 hHeld ?rest2
  case hy2 => (intro w hSw; (try dsimp only at hSw); go_simp; try with_reducible rfl)
  simp only [Act.put, List.setIfInBounds_toArray, List.set_cons_zero, List.set_cons_succ]
  refine runH_0 (by kernel_rfl) (fun K hK => ?_)
  go_simp
  (go_at_call 33; refine (bits_any _).mono ?_; rintro e w1 ⟨rfl, hz, hb, hc⟩; go_wp2_with fail)
  refine hK.out _ _ ?hS4 (fun hHeld => ?rest4)
  case hS4 => ((first | (go_keep; done) | (rw [bcell hb _ _ (by simp)]; simp)))
  clear hK K
  (try simp only [Act.put, List.setIfInBounds_toArray, List.set_cons_zero, List.set_cons_succ])
  have hck := hc k (by omega)
  simp at hck
  refine' takeH_3 _ (by kernel_rfl) (by kernel_rfl) (by kernel_rfl) (fun _ _ _ h => h) (by rfl) ?hy5 hHeld ?rest5
  case hy5 => (intro w hSw; (try dsimp only at hSw); go_simp; try with_reducible rfl)
  simp only [Act.put, List.setIfInBounds_toArray, List.set_cons_zero, List.set_cons_succ]
  refine runH_4 (by kernel_rfl) (fun K hK => ?_)
  go_simp
  refine hK.out _ _ ?hS7 (fun hHeld => ?rest7)
  case hS7 => (exact hHeld)
  clear hK K
  (try simp only [Act.put, List.setIfInBounds_toArray, List.set_cons_zero, List.set_cons_succ])
  refine' takeH_5 _ (by kernel_rfl) (by kernel_rfl) (by kernel_rfl) (fun _ _ _ h => h) (by rfl) ?hy8 hHeld ?rest8
  case hy8 => (intro w hSw; (try dsimp only at hSw); go_simp; try with_reducible rfl)
  simp only [Act.put, List.setIfInBounds_toArray, List.set_cons_zero, List.set_cons_succ]
  refine wpAnyH_done (by kernel_rfl) ?_ _
  have c1 : w1.cell? ⟨w.heap.size, 1, none⟩ = some (.int .i64 rd) := by rw [bcell hb _ _ (by simp)]; simp
  have c2 : w1.cell? ⟨w.heap.size, 2, none⟩ = some (.int .i64 rs1) := by rw [bcell hb _ _ (by simp)]; simp
  have c3 : w1.cell? ⟨w.heap.size, 3, none⟩ = some (.int .i64 rs2) := by rw [bcell hb _ _ (by simp)]; simp
  have c4 : w1.cell? ⟨w.heap.size, 4, none⟩ = some (.int .i64 imm) := by rw [bcell hb _ _ (by simp)]; simp
  have HB : Hid (Below w.heap.size w w1) := (((Below.refl _ _).alloc (Nat.le_refl _) _).drew).trans (hb.mono (by simp))
  have hsz : (Hm.bitsS k).size ≤ 1000 := Nat.le_trans (Hm.bitsS_size k) (by decide)
  clear hb hc hck hz hHeld h3 h4 h5
  go_wp2
  go_quiet ((first | (go_at_call 35; exact Calls.quiet_of_same (has_any _ _ _ hsz)) | (go_at_call 34; exact Calls.quiet_of_same (register_any _ _ _))))
  have c2x : (w1.drewN nq).cell? ⟨w.heap.size, 2, none⟩ = some (.int .i64 rs1) := by simpa using c2
  have c3x : (w1.drewN nq).cell? ⟨w.heap.size, 3, none⟩ = some (.int .i64 rs2) := by simpa using c3
  have c4x : (w1.drewN nq).cell? ⟨w.heap.size, 4, none⟩ = some (.int .i64 imm) := by simpa using c4
  have HB2 : Hid (Below w.heap.size w (w1.drewN nq)) := below_drewN HB.out nq
  clear HB c1 c2 c3 c4
  generalize w1.drewN nq = w2 at *
  go_wp2
  go_quiet ((first | (go_at_call 35; exact Calls.quiet_of_same (has_any _ _ _ hsz)) | (go_at_call 34; exact Calls.quiet_of_same (register_any _ _ _))))
  have c3xx : (w2.drewN nq).cell? ⟨w.heap.size, 3, none⟩ = some (.int .i64 rs2) := by simpa using c3x
  have c4xx : (w2.drewN nq).cell? ⟨w.heap.size, 4, none⟩ = some (.int .i64 imm) := by simpa using c4x
  have HB3 : Hid (Below w.heap.size w (w2.drewN nq)) := below_drewN HB2.out nq
  clear HB2 c2x c3x c4x
  generalize w2.drewN nq = w3 at *
  go_wp2
  go_quiet ((first | (go_at_call 35; exact Calls.quiet_of_same (has_any _ _ _ hsz)) | (go_at_call 34; exact Calls.quiet_of_same (register_any _ _ _))))
  have c4xxx : (w3.drewN nq).cell? ⟨w.heap.size, 4, none⟩ = some (.int .i64 imm) := by simpa using c4xx
  have HB4 : Hid (Below w.heap.size w (w3.drewN nq)) := below_drewN HB3.out nq
  clear HB3 c3xx c4xx
  generalize w3.drewN nq = w4 at *
  go_wp2
  go_quiet ((first | (go_at_call 37; exact Calls.quiet_of_same (kind_any _ _ hsz)) | (go_at_call 36; exact Calls.quiet_of_same (fits_any _ _ _ (kind_ok _)))))
  have HB5 : Hid (Below w.heap.size w (w4.drewN nq)) := below_drewN HB4.out nq
  clear HB4 c4xxx
  generalize w4.drewN nq = w5 at *
  go_wp2
  all_goals
    clear hHeld
    go_ret
    refine ⟨ret_bool ?_, HB5.out⟩
    rw [HN.out]
    simp only [← Hm.bitsS_list]
    simp [*]

theorem refLegal_any (op rd rs1 rs2 imm : Int) (w : World) :
    Calls Tryd.prog 12 #[.agg #[.int .i64 op, .int .i64 rd, .int .i64 rs1, .int .i64 rs2, .int .i64 imm]] w fun e w' => e = .returned (.bool (Hm.legalR op rd rs1 rs2 imm)) ∧ Below w.heap.size w w' := by
  by_cases h : 1 ≤ op ∧ op ≤ 48
  · obtain ⟨k, rfl⟩ := Int.eq_ofNat_of_zero_le (by omega : 0 ≤ op)
    exact refLegal_yes k rd rs1 rs2 imm w (by omega) (by omega)
  · exact refLegal_no op rd rs1 rs2 imm w (by omega)
end Go.Proofs.YtdcmdjeooklmjaaDoor

/-
  Small things that many walks use.
-/
namespace Go.Proofs.YtdcmdjeooklmjaaDoor
open Go.RowKit

theorem ret_ints2 {k j : IntKind} {a a' b b' : Int} (h1 : a = a') (h2 : b = b') : Ending.returned (.tuple #[.int k a, .int j b]) = .returned (.tuple #[.int k a', .int j b']) := by rw [h1, h2]

/-- A number of Go's int. -/
def I64 (n : Int) : Prop := -9223372036854775807 - 1 ≤ n ∧ n ≤ 9223372036854775807

end Go.Proofs.YtdcmdjeooklmjaaDoor
