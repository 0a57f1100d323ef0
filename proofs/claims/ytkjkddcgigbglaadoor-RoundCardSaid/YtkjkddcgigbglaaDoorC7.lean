/-
  Walks: package code's Decode.
-/
import Derived.Test.YtkjkddcgigbglaaDoorC6
import Derived.Test.YtkjkddcgigbglaaDoorW9
set_option linter.unusedVariables false
set_option linter.unusedSimpArgs false
namespace Go.Proofs.YtkjkddcgigbglaaDoor
open Go.RowKit

/-- What stands at each round's head: the block of the result is as it was made. -/
structure DecAt (w wr : World) : Prop where
  below : Below w.heap.size w wr
  size : w.heap.size < wr.heap.size
  out : ∀ i, i < 5 → wr.cell? ⟨w.heap.size, i, none⟩ = some (.int .i64 0)
  free : ∀ i, wr.frozen? ⟨w.heap.size, i, none⟩ = false
theorem DecAt.step {w wr w' : World} {B : Nat} (h : DecAt w wr) (hb : Below B wr w') (hB : w.heap.size < B) : DecAt w w' where
  below := h.below.trans (hb.mono (by omega))
  size := by have := hb.size; have := h.size; omega
  out := fun i hi => by rw [bcell hb _ _ hB]; exact h.out i hi
  free := fun i => by rw [hb.frozen (p := ⟨w.heap.size, i, none⟩) hB]; exact h.free i
theorem DecAt.start (w : World) : DecAt w (w.alloc (.cells #[.int .i64 0, .int .i64 0, .int .i64 0, .int .i64 0, .int .i64 0] 23)) where
  below := (Below.refl _ _).alloc (Nat.le_refl _) _
  size := by simp
  out := by
    intro i hi
    have hi' : i = 0 ∨ i = 1 ∨ i = 2 ∨ i = 3 ∨ i = 4 := by omega
    rcases hi' with rfl | rfl | rfl | rfl | rfl <;> simp
  free := by intro i; simp

theorem and_u32 {a b : Int} (ha : Hm.U32 a) (hb : Hm.U32 b) : bits .and .u32 a b = Hm.andI a b := u32_and a b ha.1 ha.2 hb.1 hb.2
theorem tell_u32 (f : Int) : Hm.U32 (Hm.tellC f) := by
  unfold Hm.tellC Hm.U32
  repeat' split
  all_goals decide

set_option maxRecDepth 100000 in
set_option maxHeartbeats 4000000 in
theorem decode_any (hlay : LayoutOf) (x : Int) (w : World) (ht : Tab w) (x0 : 0 ≤ x) (x1 : x < 4294967296) :
    Calls Tryd.prog 21 #[.int .u32 x] w fun e w' => e = .returned (decVal (Hm.decC x)) ∧ Below w.heap.size w w' := by
  have HT : Hid (Tab w) := ht
  clear ht
  go_enter Tryd.func21, Tryd.ntmps21
  go_wp2
  go_loopw [4] (fun o wr => ∃ k : Nat, 1 ≤ k ∧ k ≤ 49 ∧ o = .int .i64 k ∧ Hm.decCFrom x (49 - k) k = Hm.decC x ∧ DecAt w wr) (fun o _ => 49 - (intOf o).toNat)
  case atStart => exact ⟨1, by omega, by omega, rfl, rfl, DecAt.start w⟩
  case round =>
    obtain ⟨k, hk1, hk2, rfl, hd0, hat⟩ := hrel
    have HD : Hid (Hm.decCFrom x (49 - k) k = Hm.decC x) := hd0
    clear hd0
    by_cases hlt : k ≤ 48
    · have hf : Hm.fmtOf k = Hm.fmtT k := by unfold Hm.fmtOf; rw [if_pos (by omega), Int.toNat_natCast]
      have hg : Hm.bitOf k = Hm.bitT k := by unfold Hm.bitOf; rw [if_pos (by omega), Int.toNat_natCast]
      have hfb := Hm.fmt_bd k
      rw [hf] at hfb
      have HF : Hid (Hm.fmtOf k = Hm.fmtT k) := hf
      have HG : Hid (Hm.bitOf k = Hm.bitT k) := hg
      have HTr : Hid (Tab wr) := HT.out.below hat.below HT.out.1
      have HM : Hid (Hm.matchC x k = (bits .and .u32 x (Hm.tellC (Hm.fmtT k)) == Hm.bitT k)) := by
        show _ = _
        rw [and_u32 ⟨x0, x1⟩ (tell_u32 _)]; rfl
      clear hf hg
      cases hm : Hm.matchC x k with
      | false =>
        have HD2 : Hid (Hm.decCFrom x (49 - (k + 1)) (k + 1) = Hm.decC x) := by
          have := HD.out
          rw [show 49 - k = (49 - (k + 1)) + 1 from by omega, Hm.decCFrom_no hm] at this
          exact this
        have hmm : (bits .and .u32 x (Hm.tellC (Hm.fmtT k)) == Hm.bitT k) = false := by rw [← HM.out, hm]
        clear hm HM
        go_wp2_with fail
        refine (rowOf_any _ _ HTr.out).mono ?_
        rintro e w1 ⟨rfl, hb⟩
        rw [HF.out, HG.out]
        have hat1 := hat.step hb hat.size
        clear hb
        go_wp2
        go_quiet ((go_at_call 33; exact Calls.quiet_of_same (tell_any _ _ hfb.1 hfb.2)))
        go_wp2
        go_roundw
        case rel => exact ⟨k + 1, by omega, by omega, by go_num, HD2.out, hat1.step (below_drewN ((Below.refl _ _).alloc (Nat.le_refl _) _) _) hat1.size⟩
        case measure => simp [intOf]; omega
      | true =>
        have HD2 : Hid (Hm.decC x = ⟨k, Hm.fldC (Hm.lay (Hm.fmtT k)) x, 0⟩) := by
          have := HD.out
          rw [show 49 - k = (49 - (k + 1)) + 1 from by omega, Hm.decCFrom_yes hm] at this
          exact this.symm
        have hmm : (bits .and .u32 x (Hm.tellC (Hm.fmtT k)) == Hm.bitT k) = true := by rw [← HM.out, hm]
        clear hm HM
        go_wp2_with fail
        refine (rowOf_any _ _ HTr.out).mono ?_
        rintro e w1 ⟨rfl, hb⟩
        rw [HF.out, HG.out]
        have hat1 := hat.step hb hat.size
        clear hb
        go_wp2
        go_quiet ((go_at_call 33; exact Calls.quiet_of_same (tell_any _ _ hfb.1 hfb.2)))
        have hat2 := hat1.step (below_drewN ((Below.refl _ _).alloc (Nat.le_refl _) (.cells #[.int .u8 (Hm.fmtT k), .int .u32 (Hm.bitT k)] 53)) nq) hat1.size
        have c0 : ((w1.alloc (.cells #[.int .u8 (Hm.fmtT k), .int .u32 (Hm.bitT k)] 53)).drewN nq).cell? ⟨w1.heap.size, 0, none⟩ = some (.int .u8 (Hm.fmtT k)) := by simp
        generalize (w1.alloc (.cells #[.int .u8 (Hm.fmtT k), .int .u32 (Hm.bitT k)] 53)).drewN nq = w2 at *
        go_wp2_with fail
        refine (hlay _ _ hfb.1 hfb.2).mono ?_
        rintro e w3 ⟨rfl, hb3⟩
        have hat3 := hat2.step hb3 hat2.size
        clear hb3 hat2 hat1 hat
        go_wp2_with fail
        refine (cread_any _ _ _ _ (Hm.lay_ok _) x0 x1).mono ?_
        rintro e w4 ⟨rfl, hb4⟩
        have hat4 := hat3.step hb4 hat3.size
        clear hb4 hat3
        have r0 := hat4.out 0 (by omega)
        have r1 := hat4.out 1 (by omega)
        have r2 := hat4.out 2 (by omega)
        have r3 := hat4.out 3 (by omega)
        have r4 := hat4.out 4 (by omega)
        have hfr := hat4.free
        have HB4 : Hid (Below w.heap.size w w4) := hat4.below
        clear hat4
        generalize Hm.fldC (Hm.lay (Hm.fmtT k)) x = fl at *
        go_wp2
        exact bodyPost_ret (v := decVal ⟨k, fl, 0⟩) (by simp [results, Tryd.results21, go_sem, decVal, r0, r1, r2, r3, r4]) rfl ⟨ret_dec (by rw [HD2.out]), below_five HB4.out _ _ _ _ _⟩
    · have HD2 : Hid (Hm.decC x = ⟨0, ⟨0, 0, 0, 0⟩, 2⟩) := by
        have := HD.out
        rw [show 49 - k = 0 from by omega] at this
        exact this.symm
      have r0 := hat.out 0 (by omega)
      have r1 := hat.out 1 (by omega)
      have r2 := hat.out 2 (by omega)
      have r3 := hat.out 3 (by omega)
      have r4 := hat.out 4 (by omega)
      have hfr := hat.free
      have HB4 : Hid (Below w.heap.size w wr) := hat.below
      clear hat HD
      go_wp2
      exact bodyPost_ret (v := decVal ⟨0, ⟨0, 0, 0, 0⟩, 2⟩) (by simp [results, Tryd.results21, go_sem, decVal, r0, r1, r2, r3, r4]) rfl ⟨ret_dec (by rw [HD2.out]), below_five HB4.out _ _ _ _ _⟩
end Go.Proofs.YtkjkddcgigbglaaDoor
