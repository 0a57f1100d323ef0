/-
  C5 C6 C7 D1 in one text.
-/
import Derived.Test.YtdcmdjeooklmjaaDoorGN
import Derived.Test.YtdcmdjeooklmjaaDoorGA
import Derived.Test.YtdcmdjeooklmjaaDoorGH
import Derived.Test.YtdcmdjeooklmjaaDoorGK
import Derived.Test.YtdcmdjeooklmjaaDoorGM
set_option linter.unusedVariables false
set_option linter.unusedSimpArgs false
/-
  Walks: package code's immediate.
-/
namespace Go.Proofs.YtdcmdjeooklmjaaDoor
open Go.RowKit

set_option maxRecDepth 100000 in
set_option maxHeartbeats 4000000 in
theorem immediate_any (L : Hm.Lay) (x : Int) (w : World) (hL : Hm.LayOk L) (x0 : 0 ≤ x) (x1 : x < 4294967296) :
    Calls Tryd.prog 87 #[layV L, .int .u32 x] w fun e w' => e = .returned (.int .i64 (Hm.immC L x)) ∧ Below w.heap.size w w' := by
  unfold layV
  go_enter Tryd.func87, Tryd.ntmps87
  go_wp2
  go_loopw [5, 10] (fun v i wr => ∃ j : Nat, j ≤ 4 ∧ i = .int .i64 j ∧ v = .int .u32 (Hm.immA L x j) ∧ Below w.heap.size w wr ∧ w.heap.size < wr.heap.size ∧ wr.cell? ⟨w.heap.size, 3, none⟩ = some (.int .i64 L.least) ∧ wr.cell? ⟨w.heap.size, 4, none⟩ = some (.int .i64 L.most) ∧ wr.cell? ⟨w.heap.size, 5, none⟩ = some (.bool L.even)) (fun _ i _ => 4 - (intOf i).toNat)
  case atStart => exact ⟨0, by omega, rfl, rfl, (Below.refl _ _).alloc (Nat.le_refl _) _, by simp, by simp, by simp, by simp⟩
  case round =>
    obtain ⟨j, hj, rfl, rfl, hbr, hzr, g3, g4, g5⟩ := hrel
    have HBR : Hid (Below w.heap.size w wr) := hbr
    have hU := fun j => Hm.immA_u32 (L := L) (x := x) j
    clear hbr
    have hj' : j = 0 ∨ j = 1 ∨ j = 2 ∨ j = 3 ∨ j = 4 := by omega
    rcases hj' with rfl | rfl | rfl | rfl | rfl
    · have oj : Hid (bits .or .u32 (Hm.immA L x 0) (Hm.putC L.a0 L.c0 L.f0 x) = Hm.immA L x 1) := or_u32 (hU 0) (Hm.putC_u32 _ _ _ _)
      have hidx := idx0
      clear hU
      go_wp2_with fail
      refine (take_any _ _ _ _ _ hL.a0.1 hL.a0.2 hL.c0.1 hL.c0.2 hL.f0.1 hL.f0.2 x0 x1).mono ?_
      rintro e w4 ⟨rfl, hb4⟩
      have hz4 : w.heap.size < w4.heap.size := by have := hb4.size; simp at this; omega
      have HB4 : Hid (Below w.heap.size w w4) := (HBR.out.alloc (by omega) _).trans (hb4.mono (by simp; omega))
      have f3 : w4.cell? ⟨w.heap.size, 3, none⟩ = some (.int .i64 L.least) := by rw [bcell hb4 _ _ (by simp; omega)]; simp [World.cell?_alloc_lt, hzr, g3]
      have f4 : w4.cell? ⟨w.heap.size, 4, none⟩ = some (.int .i64 L.most) := by rw [bcell hb4 _ _ (by simp; omega)]; simp [World.cell?_alloc_lt, hzr, g4]
      have f5 : w4.cell? ⟨w.heap.size, 5, none⟩ = some (.bool L.even) := by rw [bcell hb4 _ _ (by simp; omega)]; simp [World.cell?_alloc_lt, hzr, g5]
      clear hb4 hidx
      go_wp2
      go_roundw
      case rel => exact ⟨1, by omega, by go_num, by rw [← oj.out], HB4.out, hz4, f3, f4, f5⟩
      case measure => simp [intOf]
    · have oj : Hid (bits .or .u32 (Hm.immA L x 1) (Hm.putC L.a1 L.c1 L.f1 x) = Hm.immA L x 2) := or_u32 (hU 1) (Hm.putC_u32 _ _ _ _)
      have hidx := idx1
      clear hU
      go_wp2_with fail
      refine (take_any _ _ _ _ _ hL.a1.1 hL.a1.2 hL.c1.1 hL.c1.2 hL.f1.1 hL.f1.2 x0 x1).mono ?_
      rintro e w4 ⟨rfl, hb4⟩
      have hz4 : w.heap.size < w4.heap.size := by have := hb4.size; simp at this; omega
      have HB4 : Hid (Below w.heap.size w w4) := (HBR.out.alloc (by omega) _).trans (hb4.mono (by simp; omega))
      have f3 : w4.cell? ⟨w.heap.size, 3, none⟩ = some (.int .i64 L.least) := by rw [bcell hb4 _ _ (by simp; omega)]; simp [World.cell?_alloc_lt, hzr, g3]
      have f4 : w4.cell? ⟨w.heap.size, 4, none⟩ = some (.int .i64 L.most) := by rw [bcell hb4 _ _ (by simp; omega)]; simp [World.cell?_alloc_lt, hzr, g4]
      have f5 : w4.cell? ⟨w.heap.size, 5, none⟩ = some (.bool L.even) := by rw [bcell hb4 _ _ (by simp; omega)]; simp [World.cell?_alloc_lt, hzr, g5]
      clear hb4 hidx
      go_wp2
      go_roundw
      case rel => exact ⟨2, by omega, by go_num, by rw [← oj.out], HB4.out, hz4, f3, f4, f5⟩
      case measure => simp [intOf]
    · have oj : Hid (bits .or .u32 (Hm.immA L x 2) (Hm.putC L.a2 L.c2 L.f2 x) = Hm.immA L x 3) := or_u32 (hU 2) (Hm.putC_u32 _ _ _ _)
      have hidx := idx2
      clear hU
      go_wp2_with fail
      refine (take_any _ _ _ _ _ hL.a2.1 hL.a2.2 hL.c2.1 hL.c2.2 hL.f2.1 hL.f2.2 x0 x1).mono ?_
      rintro e w4 ⟨rfl, hb4⟩
      have hz4 : w.heap.size < w4.heap.size := by have := hb4.size; simp at this; omega
      have HB4 : Hid (Below w.heap.size w w4) := (HBR.out.alloc (by omega) _).trans (hb4.mono (by simp; omega))
      have f3 : w4.cell? ⟨w.heap.size, 3, none⟩ = some (.int .i64 L.least) := by rw [bcell hb4 _ _ (by simp; omega)]; simp [World.cell?_alloc_lt, hzr, g3]
      have f4 : w4.cell? ⟨w.heap.size, 4, none⟩ = some (.int .i64 L.most) := by rw [bcell hb4 _ _ (by simp; omega)]; simp [World.cell?_alloc_lt, hzr, g4]
      have f5 : w4.cell? ⟨w.heap.size, 5, none⟩ = some (.bool L.even) := by rw [bcell hb4 _ _ (by simp; omega)]; simp [World.cell?_alloc_lt, hzr, g5]
      clear hb4 hidx
      go_wp2
      go_roundw
      case rel => exact ⟨3, by omega, by go_num, by rw [← oj.out], HB4.out, hz4, f3, f4, f5⟩
      case measure => simp [intOf]
    · have oj : Hid (bits .or .u32 (Hm.immA L x 3) (Hm.putC L.a3 L.c3 L.f3 x) = Hm.immA L x 4) := or_u32 (hU 3) (Hm.putC_u32 _ _ _ _)
      have hidx := idx3
      clear hU
      go_wp2_with fail
      refine (take_any _ _ _ _ _ hL.a3.1 hL.a3.2 hL.c3.1 hL.c3.2 hL.f3.1 hL.f3.2 x0 x1).mono ?_
      rintro e w4 ⟨rfl, hb4⟩
      have hz4 : w.heap.size < w4.heap.size := by have := hb4.size; simp at this; omega
      have HB4 : Hid (Below w.heap.size w w4) := (HBR.out.alloc (by omega) _).trans (hb4.mono (by simp; omega))
      have f3 : w4.cell? ⟨w.heap.size, 3, none⟩ = some (.int .i64 L.least) := by rw [bcell hb4 _ _ (by simp; omega)]; simp [World.cell?_alloc_lt, hzr, g3]
      have f4 : w4.cell? ⟨w.heap.size, 4, none⟩ = some (.int .i64 L.most) := by rw [bcell hb4 _ _ (by simp; omega)]; simp [World.cell?_alloc_lt, hzr, g4]
      have f5 : w4.cell? ⟨w.heap.size, 5, none⟩ = some (.bool L.even) := by rw [bcell hb4 _ _ (by simp; omega)]; simp [World.cell?_alloc_lt, hzr, g5]
      clear hb4 hidx
      go_wp2
      go_roundw
      case rel => exact ⟨4, by omega, by go_num, by rw [← oj.out], HB4.out, hz4, f3, f4, f5⟩
      case measure => simp [intOf]
    · have hu4 := hU 4
      obtain ⟨hu0, hu1⟩ := hu4
      obtain ⟨hl0, hl1⟩ := hL.least
      have HI : Hid (Hm.immC L x = Hm.sgnC L.least L.most (Hm.immA L x 4)) := rfl
      clear hU
      go_wp2_with fail
      refine (csigned_any _ _ _ _ _ hl0 hl1 hu0 hu1).mono ?_
      rintro e w4 ⟨rfl, hb4⟩
      have HB4 : Hid (Below w.heap.size w w4) := HBR.out.trans (hb4.mono (by omega))
      clear hb4
      go_wp2
      go_ret
      exact ⟨ret_int HI.out.symm, HB4.out⟩
end Go.Proofs.YtdcmdjeooklmjaaDoor

/-
  Walks: package code's read.
-/
namespace Go.Proofs.YtdcmdjeooklmjaaDoor
open Go.RowKit

def layCells (L : Hm.Lay) : List Value := [.bool L.rd, .bool L.rs1, .bool L.rs2, .int .i64 L.least, .int .i64 L.most, .bool L.even, .int .u8 L.f0, .int .u8 L.c0, .int .u8 L.a0, .int .u8 L.f1, .int .u8 L.c1, .int .u8 L.a1, .int .u8 L.f2, .int .u8 L.c2, .int .u8 L.a2, .int .u8 L.f3, .int .u8 L.c3, .int .u8 L.a3]
theorem layV_cells (L : Hm.Lay) : layV L = .agg (layCells L).toArray := rfl
/-- The world in which read's one statement begins. -/
structure ReadStart (L : Hm.Lay) (w W : World) : Prop where
  below : Below w.heap.size w W
  size : W.heap.size = w.heap.size + 2
  c0 : W.cell? ⟨w.heap.size, 0, none⟩ = some (.bool L.rd)
  c1 : W.cell? ⟨w.heap.size, 1, none⟩ = some (.bool L.rs1)
  c2 : W.cell? ⟨w.heap.size, 2, none⟩ = some (.bool L.rs2)
  row : W.rangeAt w.heap.size 0 (layCells L)
  out : ∀ i, i < 5 → W.cell? ⟨w.heap.size + 1, i, none⟩ = some (.int .i64 0)
  free : ∀ i, W.frozen? ⟨w.heap.size + 1, i, none⟩ = false
theorem read_start (L : Hm.Lay) (w : World) : ReadStart L w ((w.alloc (.cells #[.bool L.rd, .bool L.rs1, .bool L.rs2, .int .i64 L.least, .int .i64 L.most, .bool L.even, .int .u8 L.f0, .int .u8 L.c0, .int .u8 L.a0, .int .u8 L.f1, .int .u8 L.c1, .int .u8 L.a1, .int .u8 L.f2, .int .u8 L.c2, .int .u8 L.a2, .int .u8 L.f3, .int .u8 L.c3, .int .u8 L.a3] 111)).alloc (.cells #[.int .i64 0, .int .i64 0, .int .i64 0, .int .i64 0, .int .i64 0] 23)) where
  below := ((Below.refl _ _).alloc (Nat.le_refl _) _).alloc (by simp) _
  size := by simp
  c0 := by simp
  c1 := by simp
  c2 := by simp
  row := by
    intro j v h
    rw [World.cell?_alloc_lt _ _ _ (by simp)]
    rw [World.cell?_alloc_new, Nat.zero_add]
    simpa [layCells] using h
  out := by
    intro i hi
    have hi' : i = 0 ∨ i = 1 ∨ i = 2 ∨ i = 3 ∨ i = 4 := by omega
    rcases hi' with rfl | rfl | rfl | rfl | rfl <;> simp
  free := by intro i; simp

theorem below_five_at {B b : Nat} {w w' : World} (h : Below B w w') (hb : B ≤ b) (v0 v1 v2 v3 v4 : Value) :
    Below B w (((((w'.setCell ⟨b, 0, none⟩ v0).setCell ⟨b, 1, none⟩ v1).setCell ⟨b, 2, none⟩ v2).setCell ⟨b, 3, none⟩ v3).setCell ⟨b, 4, none⟩ v4) :=
  ((((h.setCell hb _).setCell hb _).setCell hb _).setCell hb _).setCell hb _

set_option maxRecDepth 100000 in
set_option maxHeartbeats 4000000 in
theorem cread_any (op : Int) (L : Hm.Lay) (x : Int) (w : World) (hL : Hm.LayOk L) (x0 : 0 ≤ x) (x1 : x < 4294967296) :
    Calls Tryd.prog 67 #[.int .i64 op, layV L, .int .u32 x] w fun e w' => e = .returned (.agg #[.int .i64 op, .int .i64 (Hm.fldC L x).d, .int .i64 (Hm.fldC L x).r, .int .i64 (Hm.fldC L x).t, .int .i64 (Hm.fldC L x).imm]) ∧ Below w.heap.size w w' := by
  show Calls Tryd.prog 67 #[.int .i64 op, layV L, .int .u32 x] w fun e w' => e = .returned (.agg #[.int .i64 op, .int .i64 (Hm.regC (x / 128) L.rd), .int .i64 (Hm.regC (x / 32768) L.rs1), .int .i64 (Hm.regC (x / 1048576) L.rs2), .int .i64 (Hm.immC L x)]) ∧ Below w.heap.size w w'
  have hst := read_start L w
  unfold layV
  go_enter Tryd.func67, Tryd.ntmps67
  go_wp2
  generalize (w.alloc (.cells #[.bool L.rd, .bool L.rs1, .bool L.rs2, .int .i64 L.least, .int .i64 L.most, .bool L.even, .int .u8 L.f0, .int .u8 L.c0, .int .u8 L.a0, .int .u8 L.f1, .int .u8 L.c1, .int .u8 L.a1, .int .u8 L.f2, .int .u8 L.c2, .int .u8 L.a2, .int .u8 L.f3, .int .u8 L.c3, .int .u8 L.a3] 111)).alloc (.cells #[.int .i64 0, .int .i64 0, .int .i64 0, .int .i64 0, .int .i64 0] 23) = W at *
  obtain ⟨hB, hz, c0, c1, c2, hrow, hout, hfree⟩ := hst
  have HB : Hid (Below w.heap.size w W) := hB
  have HROW : Hid (W.rangeAt w.heap.size 0 (layCells L)) := hrow
  have HOUT : Hid (∀ i, i < 5 → W.cell? ⟨w.heap.size + 1, i, none⟩ = some (.int .i64 0)) := hout
  have HFREE : Hid (∀ i, W.frozen? ⟨w.heap.size + 1, i, none⟩ = false) := hfree
  clear hB hrow hout hfree
  refine wp_region_held_drew (S := fun w' => w'.cell? ⟨w.heap.size, 0, none⟩ = some (.bool L.rd) ∧ w'.cell? ⟨w.heap.size, 1, none⟩ = some (.bool L.rs1) ∧ w'.cell? ⟨w.heap.size, 2, none⟩ = some (.bool L.rs2) ∧ w'.rangeAt w.heap.size 0 (layCells L)) (by kernel_rfl) ⟨by simpa using c0, by simpa using c1, by simpa using c2, fun j v h => by simpa using HROW.out j v h⟩ (fun hHeld => ?_)
  refine' takeH_0 _ (by kernel_rfl) (by kernel_rfl) (by kernel_rfl) (fun _ _ _ h => h) (by rfl) ?hy1 hHeld ?rest1
  case hy1 => (intro w hSw; (try dsimp only at hSw); go_simp; try with_reducible rfl)
  simp only [Act.put, List.setIfInBounds_toArray, List.set_cons_zero, List.set_cons_succ]
  refine' takeH_1 _ (by kernel_rfl) (by kernel_rfl) (by kernel_rfl) (fun _ _ _ h => h) (by rfl) ?hy2 hHeld ?rest2
  case hy2 => (intro w hSw; (try dsimp only at hSw); go_simp; try with_reducible rfl)
  simp only [Act.put, List.setIfInBounds_toArray, List.set_cons_zero, List.set_cons_succ]
  refine' takeH_2 _ (by kernel_rfl) (by kernel_rfl) (by kernel_rfl) (fun _ _ _ h => h) (by rfl) ?hy3 hHeld ?rest3
  case hy3 => (intro w hSw; (try dsimp only at hSw); go_simp; try with_reducible rfl)
  simp only [Act.put, List.setIfInBounds_toArray, List.set_cons_zero, List.set_cons_succ]
  refine' takeH_3 _ (by kernel_rfl) (by kernel_rfl) (by kernel_rfl) (fun _ _ _ h => h) (by rfl) ?hy4 hHeld ?rest4
  case hy4 => (intro w hSw; (try dsimp only at hSw); go_simp; try with_reducible rfl)
  simp only [Act.put, List.setIfInBounds_toArray, List.set_cons_zero, List.set_cons_succ]
  refine' takeH_4 _ (by kernel_rfl) (by kernel_rfl) (by kernel_rfl) (fun _ _ _ h => h) (by rfl) ?hy5 hHeld ?rest5
  case hy5 => (intro w hSw; (try dsimp only at hSw); go_simp; try with_reducible rfl)
  simp only [Act.put, List.setIfInBounds_toArray, List.set_cons_zero, List.set_cons_succ]
  refine' takeH_6 _ (by kernel_rfl) (by kernel_rfl) (by kernel_rfl) (fun _ _ _ h => h) (by rfl) ?hy6 hHeld ?rest6
  case hy6 => (intro w hSw; (try dsimp only at hSw); go_simp; try with_reducible rfl)
  simp only [Act.put, List.setIfInBounds_toArray, List.set_cons_zero, List.set_cons_succ]
  refine' takeH_7 _ (by kernel_rfl) (by kernel_rfl) (by kernel_rfl) (fun _ _ _ h => h) (by rfl) ?hy7 hHeld ?rest7
  case hy7 => (intro w hSw; (try dsimp only at hSw); go_simp; try with_reducible rfl)
  simp only [Act.put, List.setIfInBounds_toArray, List.set_cons_zero, List.set_cons_succ]
  refine' takeH_8 _ (by kernel_rfl) (by kernel_rfl) (by kernel_rfl) (fun _ _ _ h => h) (by rfl) ?hy8 hHeld ?rest8
  case hy8 => (intro w hSw; (try dsimp only at hSw); go_simp; try with_reducible rfl)
  simp only [Act.put, List.setIfInBounds_toArray, List.set_cons_zero, List.set_cons_succ]
  refine' takeH_9 _ (by kernel_rfl) (by kernel_rfl) (by kernel_rfl) (fun _ _ _ h => h) (by rfl) ?hy9 hHeld ?rest9
  case hy9 => (intro w hSw; (try dsimp only at hSw); go_simp; try with_reducible rfl)
  simp only [Act.put, List.setIfInBounds_toArray, List.set_cons_zero, List.set_cons_succ]
  refine' takeH_11 _ (by kernel_rfl) (by kernel_rfl) (by kernel_rfl) (fun _ _ _ h => h) (by rfl) ?hy10 hHeld ?rest10
  case hy10 => (intro w hSw; (try dsimp only at hSw); go_simp; try with_reducible rfl)
  simp only [Act.put, List.setIfInBounds_toArray, List.set_cons_zero, List.set_cons_succ]
  refine' takeH_12 _ (by kernel_rfl) (by kernel_rfl) (by kernel_rfl) (fun _ _ _ h => h) (by rfl) ?hy11 hHeld ?rest11
  case hy11 => (intro w hSw; (try dsimp only at hSw); go_simp; try with_reducible rfl)
  simp only [Act.put, List.setIfInBounds_toArray, List.set_cons_zero, List.set_cons_succ]
  refine' takeH_13 _ (by kernel_rfl) (by kernel_rfl) (by kernel_rfl) (fun _ _ _ h => h) (by rfl) ?hy12 hHeld ?rest12
  case hy12 => (intro w hSw; (try dsimp only at hSw); go_simp; try with_reducible rfl)
  simp only [Act.put, List.setIfInBounds_toArray, List.set_cons_zero, List.set_cons_succ]
  refine' takeH_14 _ (by kernel_rfl) (by kernel_rfl) (by kernel_rfl) (fun _ _ _ h => h) (by rfl) ?hy13 hHeld ?rest13
  case hy13 => (intro w hSw; (try dsimp only at hSw); go_simp; try with_reducible rfl)
  simp only [Act.put, List.setIfInBounds_toArray, List.set_cons_zero, List.set_cons_succ]
  refine' takeH_17 _ (by kernel_rfl) (by kernel_rfl) (by kernel_rfl) (fun _ _ _ h => h) (by rfl) ?hy14 hHeld ?rest14
  case hy14 => (intro w hSw; (try dsimp only at hSw); go_simp; try with_reducible rfl)
  simp only [Act.put, List.setIfInBounds_toArray, List.set_cons_zero, List.set_cons_succ]
  refine' takeY_16 _ (by kernel_rfl) (by kernel_rfl) (by kernel_rfl) (fun _ _ _ h => h) (yieldsIf_load_mid (by rfl) _ _ rfl _ _ rfl _ _ (fun w hw => hw.2.2.2) Tryd.underlying111 rfl (by kernel_rfl)) hHeld ?resty
  simp only [Act.put, List.setIfInBounds_toArray, List.set_cons_zero, List.set_cons_succ]
  refine runH_5 (by kernel_rfl) (fun K hK => ?_)
  go_simp
  (go_at_call 86; refine (creg_any _ _ _ (by omega) (by omega)).mono ?_; rintro e w1 ⟨rfl, rfl⟩; go_wp2_with fail)
  refine hK.out _ _ ?hS16 (fun hHeld => ?rest16)
  case hS16 => (exact hHeld)
  clear hK K
  (try simp only [Act.put, List.setIfInBounds_toArray, List.set_cons_zero, List.set_cons_succ])
  refine runH_10 (by kernel_rfl) (fun K hK => ?_)
  go_simp
  (go_at_call 86; refine (creg_any _ _ _ (by omega) (by omega)).mono ?_; rintro e w1 ⟨rfl, rfl⟩; go_wp2_with fail)
  refine hK.out _ _ ?hS17 (fun hHeld => ?rest17)
  case hS17 => (exact hHeld)
  clear hK K
  (try simp only [Act.put, List.setIfInBounds_toArray, List.set_cons_zero, List.set_cons_succ])
  refine runH_15 (by kernel_rfl) (fun K hK => ?_)
  go_simp
  (go_at_call 86; refine (creg_any _ _ _ (by omega) (by omega)).mono ?_; rintro e w1 ⟨rfl, rfl⟩; go_wp2_with fail)
  refine hK.out _ _ ?hS18 (fun hHeld => ?rest18)
  case hS18 => (exact hHeld)
  clear hK K
  (try simp only [Act.put, List.setIfInBounds_toArray, List.set_cons_zero, List.set_cons_succ])
  refine runH_18 (by kernel_rfl) (fun K hK => ?_)
  go_simp
  (go_at_call 87; refine (immediate_any L _ _ hL x0 x1).mono ?_; rintro e w1 ⟨rfl, hb⟩; go_wp2_with fail)
  refine hK.out _ _ ?hS20 (fun hHeld => ?rest20)
  case hS20 => (exact ⟨by rw [bcell hb _ _ (by simp; omega)]; exact hHeld.1, by rw [bcell hb _ _ (by simp; omega)]; exact hHeld.2.1, by rw [bcell hb _ _ (by simp; omega)]; exact hHeld.2.2.1, fun j v h => by rw [bcell hb _ _ (by simp; omega)]; exact hHeld.2.2.2 j v h⟩)
  clear hK K
  (try simp only [Act.put, List.setIfInBounds_toArray, List.set_cons_zero, List.set_cons_succ])
  have HB1 : Hid (Below w.heap.size w w1) := (HB.out.drew).trans (hb.mono (by simp; omega))
  have r0 : w1.cell? ⟨w.heap.size + 1, 0, none⟩ = some (.int .i64 0) := by rw [bcell hb _ _ (by simp; omega)]; exact HOUT.out 0 (by omega)
  have r1 : w1.cell? ⟨w.heap.size + 1, 1, none⟩ = some (.int .i64 0) := by rw [bcell hb _ _ (by simp; omega)]; exact HOUT.out 1 (by omega)
  have r2 : w1.cell? ⟨w.heap.size + 1, 2, none⟩ = some (.int .i64 0) := by rw [bcell hb _ _ (by simp; omega)]; exact HOUT.out 2 (by omega)
  have r3 : w1.cell? ⟨w.heap.size + 1, 3, none⟩ = some (.int .i64 0) := by rw [bcell hb _ _ (by simp; omega)]; exact HOUT.out 3 (by omega)
  have r4 : w1.cell? ⟨w.heap.size + 1, 4, none⟩ = some (.int .i64 0) := by rw [bcell hb _ _ (by simp; omega)]; exact HOUT.out 4 (by omega)
  have hfr : ∀ o, w1.frozen? ⟨w.heap.size + 1, o, none⟩ = false := fun o => by rw [hb.frozen (p := ⟨w.heap.size + 1, o, none⟩) (by simp; omega)]; exact HFREE.out o
  clear hb HB HROW HOUT HFREE c0 c1 c2
  refine' takeH_19 _ (by kernel_rfl) (by kernel_rfl) (by kernel_rfl) (fun _ _ _ h => h) (by rfl) ?hy21 hHeld ?rest21
  case hy21 => (intro w hSw; (try dsimp only at hSw); go_simp; try with_reducible rfl)
  simp only [Act.put, List.setIfInBounds_toArray, List.set_cons_zero, List.set_cons_succ]
  have HH : Hid _ := hHeld
  clear hHeld
  refine runH_20 (by kernel_rfl) (fun K hK => ?_)
  go_simp
  refine hK.out _ _ ?hSz (fun hHeld => ?restz)
  case hSz =>
    refine ⟨?_, ?_, ?_, ?_⟩
    · rw [bcell (below_five_at (Below.refl (w.heap.size + 1) w1) (Nat.le_refl _) _ _ _ _ _) _ _ (Nat.lt_succ_self _)]; exact HH.out.1
    · rw [bcell (below_five_at (Below.refl (w.heap.size + 1) w1) (Nat.le_refl _) _ _ _ _ _) _ _ (Nat.lt_succ_self _)]; exact HH.out.2.1
    · rw [bcell (below_five_at (Below.refl (w.heap.size + 1) w1) (Nat.le_refl _) _ _ _ _ _) _ _ (Nat.lt_succ_self _)]; exact HH.out.2.2.1
    · intro j v h
      rw [bcell (below_five_at (Below.refl (w.heap.size + 1) w1) (Nat.le_refl _) _ _ _ _ _) _ _ (Nat.lt_succ_self _)]; exact HH.out.2.2.2 j v h
  clear hK K hHeld HH
  (try simp only [Act.put, List.setIfInBounds_toArray, List.set_cons_zero, List.set_cons_succ])
  refine wpAnyH_done (by kernel_rfl) ?_ _
  go_wp2
  exact bodyPost_ret (v := .agg #[.int .i64 op, .int .i64 (Hm.regC (x / 128) L.rd), .int .i64 (Hm.regC (x / 32768) L.rs1), .int .i64 (Hm.regC (x / 1048576) L.rs2), .int .i64 (Hm.immC L x)]) (by simp [results, Tryd.results67, go_sem, r0, r1, r2, r3, r4]) rfl ⟨rfl, below_five_at HB1.out (by omega) _ _ _ _ _⟩
end Go.Proofs.YtdcmdjeooklmjaaDoor

/-
  Walks: package code's Decode.
-/
namespace Go.Proofs.YtdcmdjeooklmjaaDoor
open Go.RowKit

/-- What stands at each round's head: the block of the result is as it was made. -/
structure DecAt (w wr : World) : Prop where
  below : Below w.heap.size w wr
  size : w.heap.size < wr.heap.size
  out : ∀ i, i < 5 → wr.cell? ⟨w.heap.size, i, none⟩ = some (.int .i64 0)
  free : ∀ i, wr.frozen? ⟨w.heap.size, i, none⟩ = false
theorem DecAt.step {w wr w' : World} {B : Nat} (h : DecAt w wr) (hb : Below B wr w') (hB : w.heap.size < B) : DecAt w w' where
  below := h.below.trans (hb.mono (by omega))
  size := by have := hb.size; have := h.size; omega
  out := fun i hi => by rw [bcell hb _ _ hB]; exact h.out i hi
  free := fun i => by rw [hb.frozen (p := ⟨w.heap.size, i, none⟩) hB]; exact h.free i
theorem DecAt.start (w : World) : DecAt w (w.alloc (.cells #[.int .i64 0, .int .i64 0, .int .i64 0, .int .i64 0, .int .i64 0] 23)) where
  below := (Below.refl _ _).alloc (Nat.le_refl _) _
  size := by simp
  out := by
    intro i hi
    have hi' : i = 0 ∨ i = 1 ∨ i = 2 ∨ i = 3 ∨ i = 4 := by omega
    rcases hi' with rfl | rfl | rfl | rfl | rfl <;> simp
  free := by intro i; simp

theorem and_u32 {a b : Int} (ha : Hm.U32 a) (hb : Hm.U32 b) : bits .and .u32 a b = Hm.andI a b := u32_and a b ha.1 ha.2 hb.1 hb.2
theorem tell_u32 (f : Int) : Hm.U32 (Hm.tellC f) := by
  unfold Hm.tellC Hm.U32
  repeat' split
  all_goals decide

set_option maxRecDepth 100000 in
set_option maxHeartbeats 4000000 in
theorem decode_any (hlay : LayoutOf) (x : Int) (w : World) (ht : Tab w) (x0 : 0 ≤ x) (x1 : x < 4294967296) :
    Calls Tryd.prog 40 #[.int .u32 x] w fun e w' => e = .returned (decVal (Hm.decC x)) ∧ Below w.heap.size w w' := by
  have HT : Hid (Tab w) := ht
  clear ht
  go_enter Tryd.func40, Tryd.ntmps40
  go_wp2
  go_loopw [4] (fun o wr => ∃ k : Nat, 1 ≤ k ∧ k ≤ 49 ∧ o = .int .i64 k ∧ Hm.decCFrom x (49 - k) k = Hm.decC x ∧ DecAt w wr) (fun o _ => 49 - (intOf o).toNat)
  case atStart => exact ⟨1, by omega, by omega, rfl, rfl, DecAt.start w⟩
  case round =>
    obtain ⟨k, hk1, hk2, rfl, hd0, hat⟩ := hrel
    have HD : Hid (Hm.decCFrom x (49 - k) k = Hm.decC x) := hd0
    clear hd0
    by_cases hlt : k ≤ 48
    · have hf : Hm.fmtOf k = Hm.fmtT k := by unfold Hm.fmtOf; rw [if_pos (by omega), Int.toNat_natCast]
      have hg : Hm.bitOf k = Hm.bitT k := by unfold Hm.bitOf; rw [if_pos (by omega), Int.toNat_natCast]
      have hfb := Hm.fmt_bd k
      rw [hf] at hfb
      have HF : Hid (Hm.fmtOf k = Hm.fmtT k) := hf
      have HG : Hid (Hm.bitOf k = Hm.bitT k) := hg
      have HTr : Hid (Tab wr) := HT.out.below hat.below HT.out.1
      have HM : Hid (Hm.matchC x k = (bits .and .u32 x (Hm.tellC (Hm.fmtT k)) == Hm.bitT k)) := by
        show _ = _
        rw [and_u32 ⟨x0, x1⟩ (tell_u32 _)]; rfl
      clear hf hg
      cases hm : Hm.matchC x k with
      | false =>
        have HD2 : Hid (Hm.decCFrom x (49 - (k + 1)) (k + 1) = Hm.decC x) := by
          have := HD.out
          rw [show 49 - k = (49 - (k + 1)) + 1 from by omega, Hm.decCFrom_no hm] at this
          exact this
        have hmm : (bits .and .u32 x (Hm.tellC (Hm.fmtT k)) == Hm.bitT k) = false := by rw [← HM.out, hm]
        clear hm HM
        go_wp2_with fail
        refine (rowOf_any _ _ HTr.out).mono ?_
        rintro e w1 ⟨rfl, hb⟩
        rw [HF.out, HG.out]
        have hat1 := hat.step hb hat.size
        clear hb
        go_wp2
        go_quiet ((go_at_call 66; exact Calls.quiet_of_same (tell_any _ _ hfb.1 hfb.2)))
        go_wp2
        go_roundw
        case rel => exact ⟨k + 1, by omega, by omega, by go_num, HD2.out, hat1.step (below_drewN ((Below.refl _ _).alloc (Nat.le_refl _) _) _) hat1.size⟩
        case measure => simp [intOf]; omega
      | true =>
        have HD2 : Hid (Hm.decC x = ⟨k, Hm.fldC (Hm.lay (Hm.fmtT k)) x, 0⟩) := by
          have := HD.out
          rw [show 49 - k = (49 - (k + 1)) + 1 from by omega, Hm.decCFrom_yes hm] at this
          exact this.symm
        have hmm : (bits .and .u32 x (Hm.tellC (Hm.fmtT k)) == Hm.bitT k) = true := by rw [← HM.out, hm]
        clear hm HM
        go_wp2_with fail
        refine (rowOf_any _ _ HTr.out).mono ?_
        rintro e w1 ⟨rfl, hb⟩
        rw [HF.out, HG.out]
        have hat1 := hat.step hb hat.size
        clear hb
        go_wp2
        go_quiet ((go_at_call 66; exact Calls.quiet_of_same (tell_any _ _ hfb.1 hfb.2)))
        have hat2 := hat1.step (below_drewN ((Below.refl _ _).alloc (Nat.le_refl _) (.cells #[.int .u8 (Hm.fmtT k), .int .u32 (Hm.bitT k)] 103)) nq) hat1.size
        have c0 : ((w1.alloc (.cells #[.int .u8 (Hm.fmtT k), .int .u32 (Hm.bitT k)] 103)).drewN nq).cell? ⟨w1.heap.size, 0, none⟩ = some (.int .u8 (Hm.fmtT k)) := by simp
        generalize (w1.alloc (.cells #[.int .u8 (Hm.fmtT k), .int .u32 (Hm.bitT k)] 103)).drewN nq = w2 at *
        go_wp2_with fail
        refine (hlay _ _ hfb.1 hfb.2).mono ?_
        rintro e w3 ⟨rfl, hb3⟩
        have hat3 := hat2.step hb3 hat2.size
        clear hb3 hat2 hat1 hat
        go_wp2_with fail
        refine (cread_any _ _ _ _ (Hm.lay_ok _) x0 x1).mono ?_
        rintro e w4 ⟨rfl, hb4⟩
        have hat4 := hat3.step hb4 hat3.size
        clear hb4 hat3
        have r0 := hat4.out 0 (by omega)
        have r1 := hat4.out 1 (by omega)
        have r2 := hat4.out 2 (by omega)
        have r3 := hat4.out 3 (by omega)
        have r4 := hat4.out 4 (by omega)
        have hfr := hat4.free
        have HB4 : Hid (Below w.heap.size w w4) := hat4.below
        clear hat4
        generalize Hm.fldC (Hm.lay (Hm.fmtT k)) x = fl at *
        go_wp2
        exact bodyPost_ret (v := decVal ⟨k, fl, 0⟩) (by simp [results, Tryd.results40, go_sem, decVal, r0, r1, r2, r3, r4]) rfl ⟨ret_dec (by rw [HD2.out]), below_five HB4.out _ _ _ _ _⟩
    · have HD2 : Hid (Hm.decC x = ⟨0, ⟨0, 0, 0, 0⟩, 2⟩) := by
        have := HD.out
        rw [show 49 - k = 0 from by omega] at this
        exact this.symm
      have r0 := hat.out 0 (by omega)
      have r1 := hat.out 1 (by omega)
      have r2 := hat.out 2 (by omega)
      have r3 := hat.out 3 (by omega)
      have r4 := hat.out 4 (by omega)
      have hfr := hat.free
      have HB4 : Hid (Below w.heap.size w wr) := hat.below
      clear hat HD
      go_wp2
      exact bodyPost_ret (v := decVal ⟨0, ⟨0, 0, 0, 0⟩, 2⟩) (by simp [results, Tryd.results40, go_sem, decVal, r0, r1, r2, r3, r4]) rfl ⟨ret_dec (by rw [HD2.out]), below_five HB4.out _ _ _ _ _⟩
end Go.Proofs.YtdcmdjeooklmjaaDoor

/-
  Walks: package hart's Legal, Encode, Decode; hartlaw's num.
-/
namespace Go.Proofs.YtdcmdjeooklmjaaDoor
open Go.RowKit

theorem hlay : LayoutOf := fun f w h0 h1 => layoutOf_any f w h0 h1

set_option maxRecDepth 100000 in
set_option maxHeartbeats 1000000 in
theorem hLegal (op rd rs1 rs2 imm : Int) (w : World) (ht : Tab w) :
    Calls Tryd.prog 11 #[.agg #[.int .i64 op, .int .i64 rd, .int .i64 rs1, .int .i64 rs2, .int .i64 imm]] w fun e w' => e = .returned (.bool (Hm.legalC op rd rs1 rs2 imm)) ∧ Below w.heap.size w w' := by
  have HT : Hid (Tab w) := ht
  clear ht
  go_enter Tryd.func11, Tryd.ntmps11
  go_wp2_with fail
  refine (legal_any hlay _ _ _ _ _ _ (HT.out.alloc _)).mono ?_
  rintro e w1 ⟨rfl, hb⟩
  have HB : Hid (Below w.heap.size w w1) := ((Below.refl _ _).alloc (Nat.le_refl _) _).trans (hb.mono (by simp))
  clear hb
  go_wp2
  go_ret
  exact ⟨rfl, HB.out⟩

set_option maxRecDepth 100000 in
set_option maxHeartbeats 1000000 in
theorem hEncode (op rd rs1 rs2 imm : Int) (w : World) (ht : Tab w) :
    Calls Tryd.prog 13 #[.agg #[.int .i64 op, .int .i64 rd, .int .i64 rs1, .int .i64 rs2, .int .i64 imm]] w fun e w' => e = .returned (.tuple #[.int .u32 (Hm.encC op rd rs1 rs2 imm), .int .i64 (Hm.errC op rd rs1 rs2 imm)]) ∧ Below w.heap.size w w' := by
  have HT : Hid (Tab w) := ht
  clear ht
  go_enter Tryd.func13, Tryd.ntmps13
  go_wp2_with fail
  refine (encode_any hlay _ _ _ _ _ _ (HT.out.alloc _)).mono ?_
  rintro e w1 ⟨rfl, hb⟩
  have HB : Hid (Below w.heap.size w w1) := ((Below.refl _ _).alloc (Nat.le_refl _) _).trans (hb.mono (by simp))
  clear hb
  go_wp2
  go_ret2
  exact ⟨rfl, HB.out⟩

set_option maxRecDepth 100000 in
set_option maxHeartbeats 1000000 in
theorem hDecode (x : Int) (w : World) (ht : Tab w) (x0 : 0 ≤ x) (x1 : x < 4294967296) :
    Calls Tryd.prog 15 #[.int .u32 x] w fun e w' => e = .returned (decVal (Hm.decC x)) ∧ Below w.heap.size w w' := by
  have HT : Hid (Tab w) := ht
  clear ht
  go_enter Tryd.func15, Tryd.ntmps15
  go_wp2_with fail
  refine (decode_any hlay _ _ (HT.out.alloc _) x0 x1).mono ?_
  rintro e w1 ⟨rfl, hb⟩
  have hat := (DecAt.start w).step hb (by simp)
  have r0 := hat.out 0 (by omega)
  have r1 := hat.out 1 (by omega)
  have r2 := hat.out 2 (by omega)
  have r3 := hat.out 3 (by omega)
  have r4 := hat.out 4 (by omega)
  have hfr := hat.free
  have HB : Hid (Below w.heap.size w w1) := hat.below
  clear hb hat
  unfold decVal
  go_wp2
  exact bodyPost_ret (v := decVal (Hm.decC x)) (by simp [results, Tryd.results15, go_sem, decVal, r0, r1, r2, r3, r4]) rfl ⟨rfl, below_five HB.out _ _ _ _ _⟩

set_option maxHeartbeats 400000 in
theorem num_any (n : Int) (w : World) :
    Calls Tryd.prog 17 #[.int .i64 n] w fun e w' => e = .returned (.int .i64 n) ∧ w' = w := by
  go_enter Tryd.func17, Tryd.ntmps17
  go_wp2
  go_ret
  exact ⟨rfl, rfl⟩
end Go.Proofs.YtdcmdjeooklmjaaDoor
