/-
  Walks: package code's immediate.
-/
import Derived.Test.YtkjkddcgigbglaaDoorC4
import Derived.Test.YtkjkddcgigbglaaDoorE2
set_option linter.unusedVariables false
set_option linter.unusedSimpArgs false
namespace Go.Proofs.YtkjkddcgigbglaaDoor
open Go.RowKit

set_option maxRecDepth 100000 in
set_option maxHeartbeats 4000000 in
theorem immediate_any (L : Hm.Lay) (x : Int) (w : World) (hL : Hm.LayOk L) (x0 : 0 ≤ x) (x1 : x < 4294967296) :
    Calls Tryd.prog 38 #[layV L, .int .u32 x] w fun e w' => e = .returned (.int .i64 (Hm.immC L x)) ∧ Below w.heap.size w w' := by
  unfold layV
  go_enter Tryd.func38, Tryd.ntmps38
  go_wp2
  go_loopw [5, 10] (fun v i wr => ∃ j : Nat, j ≤ 4 ∧ i = .int .i64 j ∧ v = .int .u32 (Hm.immA L x j) ∧ Below w.heap.size w wr ∧ w.heap.size < wr.heap.size ∧ wr.cell? ⟨w.heap.size, 3, none⟩ = some (.int .i64 L.least) ∧ wr.cell? ⟨w.heap.size, 4, none⟩ = some (.int .i64 L.most) ∧ wr.cell? ⟨w.heap.size, 5, none⟩ = some (.bool L.even)) (fun _ i _ => 4 - (intOf i).toNat)
  case atStart => exact ⟨0, by omega, rfl, rfl, (Below.refl _ _).alloc (Nat.le_refl _) _, by simp, by simp, by simp, by simp⟩
  case round =>
    obtain ⟨j, hj, rfl, rfl, hbr, hzr, g3, g4, g5⟩ := hrel
    have HBR : Hid (Below w.heap.size w wr) := hbr
    have hU := fun j => Hm.immA_u32 (L := L) (x := x) j
    clear hbr
    have hj' : j = 0 ∨ j = 1 ∨ j = 2 ∨ j = 3 ∨ j = 4 := by omega
    rcases hj' with rfl | rfl | rfl | rfl | rfl
    · have oj : Hid (bits .or .u32 (Hm.immA L x 0) (Hm.putC L.a0 L.c0 L.f0 x) = Hm.immA L x 1) := or_u32 (hU 0) (Hm.putC_u32 _ _ _ _)
      have hidx := idx0
      clear hU
      go_wp2_with fail
      refine (take_any _ _ _ _ _ hL.a0.1 hL.a0.2 hL.c0.1 hL.c0.2 hL.f0.1 hL.f0.2 x0 x1).mono ?_
      rintro e w4 ⟨rfl, hb4⟩
      have hz4 : w.heap.size < w4.heap.size := by have := hb4.size; simp at this; omega
      have HB4 : Hid (Below w.heap.size w w4) := (HBR.out.alloc (by omega) _).trans (hb4.mono (by simp; omega))
      have f3 : w4.cell? ⟨w.heap.size, 3, none⟩ = some (.int .i64 L.least) := by rw [bcell hb4 _ _ (by simp; omega)]; simp [World.cell?_alloc_lt, hzr, g3]
      have f4 : w4.cell? ⟨w.heap.size, 4, none⟩ = some (.int .i64 L.most) := by rw [bcell hb4 _ _ (by simp; omega)]; simp [World.cell?_alloc_lt, hzr, g4]
      have f5 : w4.cell? ⟨w.heap.size, 5, none⟩ = some (.bool L.even) := by rw [bcell hb4 _ _ (by simp; omega)]; simp [World.cell?_alloc_lt, hzr, g5]
      clear hb4 hidx
      go_wp2
      go_roundw
      case rel => exact ⟨1, by omega, by go_num, by rw [← oj.out], HB4.out, hz4, f3, f4, f5⟩
      case measure => simp [intOf]
    · have oj : Hid (bits .or .u32 (Hm.immA L x 1) (Hm.putC L.a1 L.c1 L.f1 x) = Hm.immA L x 2) := or_u32 (hU 1) (Hm.putC_u32 _ _ _ _)
      have hidx := idx1
      clear hU
      go_wp2_with fail
      refine (take_any _ _ _ _ _ hL.a1.1 hL.a1.2 hL.c1.1 hL.c1.2 hL.f1.1 hL.f1.2 x0 x1).mono ?_
      rintro e w4 ⟨rfl, hb4⟩
      have hz4 : w.heap.size < w4.heap.size := by have := hb4.size; simp at this; omega
      have HB4 : Hid (Below w.heap.size w w4) := (HBR.out.alloc (by omega) _).trans (hb4.mono (by simp; omega))
      have f3 : w4.cell? ⟨w.heap.size, 3, none⟩ = some (.int .i64 L.least) := by rw [bcell hb4 _ _ (by simp; omega)]; simp [World.cell?_alloc_lt, hzr, g3]
      have f4 : w4.cell? ⟨w.heap.size, 4, none⟩ = some (.int .i64 L.most) := by rw [bcell hb4 _ _ (by simp; omega)]; simp [World.cell?_alloc_lt, hzr, g4]
      have f5 : w4.cell? ⟨w.heap.size, 5, none⟩ = some (.bool L.even) := by rw [bcell hb4 _ _ (by simp; omega)]; simp [World.cell?_alloc_lt, hzr, g5]
      clear hb4 hidx
      go_wp2
      go_roundw
      case rel => exact ⟨2, by omega, by go_num, by rw [← oj.out], HB4.out, hz4, f3, f4, f5⟩
      case measure => simp [intOf]
    · have oj : Hid (bits .or .u32 (Hm.immA L x 2) (Hm.putC L.a2 L.c2 L.f2 x) = Hm.immA L x 3) := or_u32 (hU 2) (Hm.putC_u32 _ _ _ _)
      have hidx := idx2
      clear hU
      go_wp2_with fail
      refine (take_any _ _ _ _ _ hL.a2.1 hL.a2.2 hL.c2.1 hL.c2.2 hL.f2.1 hL.f2.2 x0 x1).mono ?_
      rintro e w4 ⟨rfl, hb4⟩
      have hz4 : w.heap.size < w4.heap.size := by have := hb4.size; simp at this; omega
      have HB4 : Hid (Below w.heap.size w w4) := (HBR.out.alloc (by omega) _).trans (hb4.mono (by simp; omega))
      have f3 : w4.cell? ⟨w.heap.size, 3, none⟩ = some (.int .i64 L.least) := by rw [bcell hb4 _ _ (by simp; omega)]; simp [World.cell?_alloc_lt, hzr, g3]
      have f4 : w4.cell? ⟨w.heap.size, 4, none⟩ = some (.int .i64 L.most) := by rw [bcell hb4 _ _ (by simp; omega)]; simp [World.cell?_alloc_lt, hzr, g4]
      have f5 : w4.cell? ⟨w.heap.size, 5, none⟩ = some (.bool L.even) := by rw [bcell hb4 _ _ (by simp; omega)]; simp [World.cell?_alloc_lt, hzr, g5]
      clear hb4 hidx
      go_wp2
      go_roundw
      case rel => exact ⟨3, by omega, by go_num, by rw [← oj.out], HB4.out, hz4, f3, f4, f5⟩
      case measure => simp [intOf]
    · have oj : Hid (bits .or .u32 (Hm.immA L x 3) (Hm.putC L.a3 L.c3 L.f3 x) = Hm.immA L x 4) := or_u32 (hU 3) (Hm.putC_u32 _ _ _ _)
      have hidx := idx3
      clear hU
      go_wp2_with fail
      refine (take_any _ _ _ _ _ hL.a3.1 hL.a3.2 hL.c3.1 hL.c3.2 hL.f3.1 hL.f3.2 x0 x1).mono ?_
      rintro e w4 ⟨rfl, hb4⟩
      have hz4 : w.heap.size < w4.heap.size := by have := hb4.size; simp at this; omega
      have HB4 : Hid (Below w.heap.size w w4) := (HBR.out.alloc (by omega) _).trans (hb4.mono (by simp; omega))
      have f3 : w4.cell? ⟨w.heap.size, 3, none⟩ = some (.int .i64 L.least) := by rw [bcell hb4 _ _ (by simp; omega)]; simp [World.cell?_alloc_lt, hzr, g3]
      have f4 : w4.cell? ⟨w.heap.size, 4, none⟩ = some (.int .i64 L.most) := by rw [bcell hb4 _ _ (by simp; omega)]; simp [World.cell?_alloc_lt, hzr, g4]
      have f5 : w4.cell? ⟨w.heap.size, 5, none⟩ = some (.bool L.even) := by rw [bcell hb4 _ _ (by simp; omega)]; simp [World.cell?_alloc_lt, hzr, g5]
      clear hb4 hidx
      go_wp2
      go_roundw
      case rel => exact ⟨4, by omega, by go_num, by rw [← oj.out], HB4.out, hz4, f3, f4, f5⟩
      case measure => simp [intOf]
    · have hu4 := hU 4
      obtain ⟨hu0, hu1⟩ := hu4
      obtain ⟨hl0, hl1⟩ := hL.least
      have HI : Hid (Hm.immC L x = Hm.sgnC L.least L.most (Hm.immA L x 4)) := rfl
      clear hU
      go_wp2_with fail
      refine (csigned_any _ _ _ _ _ hl0 hl1 hu0 hu1).mono ?_
      rintro e w4 ⟨rfl, hb4⟩
      have HB4 : Hid (Below w.heap.size w w4) := HBR.out.trans (hb4.mono (by omega))
      clear hb4
      go_wp2
      go_ret
      exact ⟨ret_int HI.out.symm, HB4.out⟩
end Go.Proofs.YtkjkddcgigbglaaDoor
