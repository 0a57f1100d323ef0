/-
  Walks: package code's read.
-/
import Derived.Test.YtkjkddcgigbglaaDoorC5
import Derived.Test.YtkjkddcgigbglaaDoorH2
set_option linter.unusedVariables false
set_option linter.unusedSimpArgs false
namespace Go.Proofs.YtkjkddcgigbglaaDoor
open Go.RowKit

def layCells (L : Hm.Lay) : List Value := [.bool L.rd, .bool L.rs1, .bool L.rs2, .int .i64 L.least, .int .i64 L.most, .bool L.even, .int .u8 L.f0, .int .u8 L.c0, .int .u8 L.a0, .int .u8 L.f1, .int .u8 L.c1, .int .u8 L.a1, .int .u8 L.f2, .int .u8 L.c2, .int .u8 L.a2, .int .u8 L.f3, .int .u8 L.c3, .int .u8 L.a3]
theorem layV_cells (L : Hm.Lay) : layV L = .agg (layCells L).toArray := rfl
/-- The world in which read's one statement begins. -/
structure ReadStart (L : Hm.Lay) (w W : World) : Prop where
  below : Below w.heap.size w W
  size : W.heap.size = w.heap.size + 2
  c0 : W.cell? ⟨w.heap.size, 0, none⟩ = some (.bool L.rd)
  c1 : W.cell? ⟨w.heap.size, 1, none⟩ = some (.bool L.rs1)
  c2 : W.cell? ⟨w.heap.size, 2, none⟩ = some (.bool L.rs2)
  row : W.rangeAt w.heap.size 0 (layCells L)
  out : ∀ i, i < 5 → W.cell? ⟨w.heap.size + 1, i, none⟩ = some (.int .i64 0)
  free : ∀ i, W.frozen? ⟨w.heap.size + 1, i, none⟩ = false
theorem read_start (L : Hm.Lay) (w : World) : ReadStart L w ((w.alloc (.cells #[.bool L.rd, .bool L.rs1, .bool L.rs2, .int .i64 L.least, .int .i64 L.most, .bool L.even, .int .u8 L.f0, .int .u8 L.c0, .int .u8 L.a0, .int .u8 L.f1, .int .u8 L.c1, .int .u8 L.a1, .int .u8 L.f2, .int .u8 L.c2, .int .u8 L.a2, .int .u8 L.f3, .int .u8 L.c3, .int .u8 L.a3] 61)).alloc (.cells #[.int .i64 0, .int .i64 0, .int .i64 0, .int .i64 0, .int .i64 0] 23)) where
  below := ((Below.refl _ _).alloc (Nat.le_refl _) _).alloc (by simp) _
  size := by simp
  c0 := by simp
  c1 := by simp
  c2 := by simp
  row := by
    intro j v h
    rw [World.cell?_alloc_lt _ _ _ (by simp)]
    rw [World.cell?_alloc_new, Nat.zero_add]
    simpa [layCells] using h
  out := by
    intro i hi
    have hi' : i = 0 ∨ i = 1 ∨ i = 2 ∨ i = 3 ∨ i = 4 := by omega
    rcases hi' with rfl | rfl | rfl | rfl | rfl <;> simp
  free := by intro i; simp

theorem below_five_at {B b : Nat} {w w' : World} (h : Below B w w') (hb : B ≤ b) (v0 v1 v2 v3 v4 : Value) :
    Below B w (((((w'.setCell ⟨b, 0, none⟩ v0).setCell ⟨b, 1, none⟩ v1).setCell ⟨b, 2, none⟩ v2).setCell ⟨b, 3, none⟩ v3).setCell ⟨b, 4, none⟩ v4) :=
  ((((h.setCell hb _).setCell hb _).setCell hb _).setCell hb _).setCell hb _

set_option maxRecDepth 100000 in
set_option maxHeartbeats 4000000 in
theorem cread_any (op : Int) (L : Hm.Lay) (x : Int) (w : World) (hL : Hm.LayOk L) (x0 : 0 ≤ x) (x1 : x < 4294967296) :
    Calls Tryd.prog 34 #[.int .i64 op, layV L, .int .u32 x] w fun e w' => e = .returned (.agg #[.int .i64 op, .int .i64 (Hm.fldC L x).d, .int .i64 (Hm.fldC L x).r, .int .i64 (Hm.fldC L x).t, .int .i64 (Hm.fldC L x).imm]) ∧ Below w.heap.size w w' := by
  show Calls Tryd.prog 34 #[.int .i64 op, layV L, .int .u32 x] w fun e w' => e = .returned (.agg #[.int .i64 op, .int .i64 (Hm.regC (x / 128) L.rd), .int .i64 (Hm.regC (x / 32768) L.rs1), .int .i64 (Hm.regC (x / 1048576) L.rs2), .int .i64 (Hm.immC L x)]) ∧ Below w.heap.size w w'
  have hst := read_start L w
  unfold layV
  go_enter Tryd.func34, Tryd.ntmps34
  go_wp2
  generalize (w.alloc (.cells #[.bool L.rd, .bool L.rs1, .bool L.rs2, .int .i64 L.least, .int .i64 L.most, .bool L.even, .int .u8 L.f0, .int .u8 L.c0, .int .u8 L.a0, .int .u8 L.f1, .int .u8 L.c1, .int .u8 L.a1, .int .u8 L.f2, .int .u8 L.c2, .int .u8 L.a2, .int .u8 L.f3, .int .u8 L.c3, .int .u8 L.a3] 61)).alloc (.cells #[.int .i64 0, .int .i64 0, .int .i64 0, .int .i64 0, .int .i64 0] 23) = W at *
  obtain ⟨hB, hz, c0, c1, c2, hrow, hout, hfree⟩ := hst
  have HB : Hid (Below w.heap.size w W) := hB
  have HROW : Hid (W.rangeAt w.heap.size 0 (layCells L)) := hrow
  have HOUT : Hid (∀ i, i < 5 → W.cell? ⟨w.heap.size + 1, i, none⟩ = some (.int .i64 0)) := hout
  have HFREE : Hid (∀ i, W.frozen? ⟨w.heap.size + 1, i, none⟩ = false) := hfree
  clear hB hrow hout hfree
  refine wp_region_held_drew (S := fun w' => w'.cell? ⟨w.heap.size, 0, none⟩ = some (.bool L.rd) ∧ w'.cell? ⟨w.heap.size, 1, none⟩ = some (.bool L.rs1) ∧ w'.cell? ⟨w.heap.size, 2, none⟩ = some (.bool L.rs2) ∧ w'.rangeAt w.heap.size 0 (layCells L)) (by kernel_rfl) ⟨by simpa using c0, by simpa using c1, by simpa using c2, fun j v h => by simpa using HROW.out j v h⟩ (fun hHeld => ?_)
  refine' takeH_0 _ (by kernel_rfl) (by kernel_rfl) (by kernel_rfl) (fun _ _ _ h => h) (by rfl) ?hy1 hHeld ?rest1
  case hy1 => (intro w hSw; (try dsimp only at hSw); go_simp; try with_reducible rfl)
  simp only [Act.put, List.setIfInBounds_toArray, List.set_cons_zero, List.set_cons_succ]
  refine' takeH_1 _ (by kernel_rfl) (by kernel_rfl) (by kernel_rfl) (fun _ _ _ h => h) (by rfl) ?hy2 hHeld ?rest2
  case hy2 => (intro w hSw; (try dsimp only at hSw); go_simp; try with_reducible rfl)
  simp only [Act.put, List.setIfInBounds_toArray, List.set_cons_zero, List.set_cons_succ]
  refine' takeH_2 _ (by kernel_rfl) (by kernel_rfl) (by kernel_rfl) (fun _ _ _ h => h) (by rfl) ?hy3 hHeld ?rest3
  case hy3 => (intro w hSw; (try dsimp only at hSw); go_simp; try with_reducible rfl)
  simp only [Act.put, List.setIfInBounds_toArray, List.set_cons_zero, List.set_cons_succ]
  refine' takeH_3 _ (by kernel_rfl) (by kernel_rfl) (by kernel_rfl) (fun _ _ _ h => h) (by rfl) ?hy4 hHeld ?rest4
  case hy4 => (intro w hSw; (try dsimp only at hSw); go_simp; try with_reducible rfl)
  simp only [Act.put, List.setIfInBounds_toArray, List.set_cons_zero, List.set_cons_succ]
  refine' takeH_4 _ (by kernel_rfl) (by kernel_rfl) (by kernel_rfl) (fun _ _ _ h => h) (by rfl) ?hy5 hHeld ?rest5
  case hy5 => (intro w hSw; (try dsimp only at hSw); go_simp; try with_reducible rfl)
  simp only [Act.put, List.setIfInBounds_toArray, List.set_cons_zero, List.set_cons_succ]
  refine' takeH_6 _ (by kernel_rfl) (by kernel_rfl) (by kernel_rfl) (fun _ _ _ h => h) (by rfl) ?hy6 hHeld ?rest6
  case hy6 => (intro w hSw; (try dsimp only at hSw); go_simp; try with_reducible rfl)
  simp only [Act.put, List.setIfInBounds_toArray, List.set_cons_zero, List.set_cons_succ]
  refine' takeH_7 _ (by kernel_rfl) (by kernel_rfl) (by kernel_rfl) (fun _ _ _ h => h) (by rfl) ?hy7 hHeld ?rest7
  case hy7 => (intro w hSw; (try dsimp only at hSw); go_simp; try with_reducible rfl)
  simp only [Act.put, List.setIfInBounds_toArray, List.set_cons_zero, List.set_cons_succ]
  refine' takeH_8 _ (by kernel_rfl) (by kernel_rfl) (by kernel_rfl) (fun _ _ _ h => h) (by rfl) ?hy8 hHeld ?rest8
  case hy8 => (intro w hSw; (try dsimp only at hSw); go_simp; try with_reducible rfl)
  simp only [Act.put, List.setIfInBounds_toArray, List.set_cons_zero, List.set_cons_succ]
  refine' takeH_9 _ (by kernel_rfl) (by kernel_rfl) (by kernel_rfl) (fun _ _ _ h => h) (by rfl) ?hy9 hHeld ?rest9
  case hy9 => (intro w hSw; (try dsimp only at hSw); go_simp; try with_reducible rfl)
  simp only [Act.put, List.setIfInBounds_toArray, List.set_cons_zero, List.set_cons_succ]
  refine' takeH_11 _ (by kernel_rfl) (by kernel_rfl) (by kernel_rfl) (fun _ _ _ h => h) (by rfl) ?hy10 hHeld ?rest10
  case hy10 => (intro w hSw; (try dsimp only at hSw); go_simp; try with_reducible rfl)
  simp only [Act.put, List.setIfInBounds_toArray, List.set_cons_zero, List.set_cons_succ]
  refine' takeH_12 _ (by kernel_rfl) (by kernel_rfl) (by kernel_rfl) (fun _ _ _ h => h) (by rfl) ?hy11 hHeld ?rest11
  case hy11 => (intro w hSw; (try dsimp only at hSw); go_simp; try with_reducible rfl)
  simp only [Act.put, List.setIfInBounds_toArray, List.set_cons_zero, List.set_cons_succ]
  refine' takeH_13 _ (by kernel_rfl) (by kernel_rfl) (by kernel_rfl) (fun _ _ _ h => h) (by rfl) ?hy12 hHeld ?rest12
  case hy12 => (intro w hSw; (try dsimp only at hSw); go_simp; try with_reducible rfl)
  simp only [Act.put, List.setIfInBounds_toArray, List.set_cons_zero, List.set_cons_succ]
  refine' takeH_14 _ (by kernel_rfl) (by kernel_rfl) (by kernel_rfl) (fun _ _ _ h => h) (by rfl) ?hy13 hHeld ?rest13
  case hy13 => (intro w hSw; (try dsimp only at hSw); go_simp; try with_reducible rfl)
  simp only [Act.put, List.setIfInBounds_toArray, List.set_cons_zero, List.set_cons_succ]
  refine' takeH_17 _ (by kernel_rfl) (by kernel_rfl) (by kernel_rfl) (fun _ _ _ h => h) (by rfl) ?hy14 hHeld ?rest14
  case hy14 => (intro w hSw; (try dsimp only at hSw); go_simp; try with_reducible rfl)
  simp only [Act.put, List.setIfInBounds_toArray, List.set_cons_zero, List.set_cons_succ]
  refine' takeY_16 _ (by kernel_rfl) (by kernel_rfl) (by kernel_rfl) (fun _ _ _ h => h) (yieldsIf_load_mid (by rfl) _ _ rfl _ _ rfl _ _ (fun w hw => hw.2.2.2) Tryd.underlying61 rfl (by kernel_rfl)) hHeld ?resty
  simp only [Act.put, List.setIfInBounds_toArray, List.set_cons_zero, List.set_cons_succ]
  refine runH_5 (by kernel_rfl) (fun K hK => ?_)
  go_simp
  (go_at_call 37; refine (creg_any _ _ _ (by omega) (by omega)).mono ?_; rintro e w1 ⟨rfl, rfl⟩; go_wp2_with fail)
  refine hK.out _ _ ?hS16 (fun hHeld => ?rest16)
  case hS16 => (exact hHeld)
  clear hK K
  (try simp only [Act.put, List.setIfInBounds_toArray, List.set_cons_zero, List.set_cons_succ])
  refine runH_10 (by kernel_rfl) (fun K hK => ?_)
  go_simp
  (go_at_call 37; refine (creg_any _ _ _ (by omega) (by omega)).mono ?_; rintro e w1 ⟨rfl, rfl⟩; go_wp2_with fail)
  refine hK.out _ _ ?hS17 (fun hHeld => ?rest17)
  case hS17 => (exact hHeld)
  clear hK K
  (try simp only [Act.put, List.setIfInBounds_toArray, List.set_cons_zero, List.set_cons_succ])
  refine runH_15 (by kernel_rfl) (fun K hK => ?_)
  go_simp
  (go_at_call 37; refine (creg_any _ _ _ (by omega) (by omega)).mono ?_; rintro e w1 ⟨rfl, rfl⟩; go_wp2_with fail)
  refine hK.out _ _ ?hS18 (fun hHeld => ?rest18)
  case hS18 => (exact hHeld)
  clear hK K
  (try simp only [Act.put, List.setIfInBounds_toArray, List.set_cons_zero, List.set_cons_succ])
  refine runH_18 (by kernel_rfl) (fun K hK => ?_)
  go_simp
  (go_at_call 38; refine (immediate_any L _ _ hL x0 x1).mono ?_; rintro e w1 ⟨rfl, hb⟩; go_wp2_with fail)
  refine hK.out _ _ ?hS20 (fun hHeld => ?rest20)
  case hS20 => (exact ⟨by rw [bcell hb _ _ (by simp; omega)]; exact hHeld.1, by rw [bcell hb _ _ (by simp; omega)]; exact hHeld.2.1, by rw [bcell hb _ _ (by simp; omega)]; exact hHeld.2.2.1, fun j v h => by rw [bcell hb _ _ (by simp; omega)]; exact hHeld.2.2.2 j v h⟩)
  clear hK K
  (try simp only [Act.put, List.setIfInBounds_toArray, List.set_cons_zero, List.set_cons_succ])
  have HB1 : Hid (Below w.heap.size w w1) := (HB.out.drew).trans (hb.mono (by simp; omega))
  have r0 : w1.cell? ⟨w.heap.size + 1, 0, none⟩ = some (.int .i64 0) := by rw [bcell hb _ _ (by simp; omega)]; exact HOUT.out 0 (by omega)
  have r1 : w1.cell? ⟨w.heap.size + 1, 1, none⟩ = some (.int .i64 0) := by rw [bcell hb _ _ (by simp; omega)]; exact HOUT.out 1 (by omega)
  have r2 : w1.cell? ⟨w.heap.size + 1, 2, none⟩ = some (.int .i64 0) := by rw [bcell hb _ _ (by simp; omega)]; exact HOUT.out 2 (by omega)
  have r3 : w1.cell? ⟨w.heap.size + 1, 3, none⟩ = some (.int .i64 0) := by rw [bcell hb _ _ (by simp; omega)]; exact HOUT.out 3 (by omega)
  have r4 : w1.cell? ⟨w.heap.size + 1, 4, none⟩ = some (.int .i64 0) := by rw [bcell hb _ _ (by simp; omega)]; exact HOUT.out 4 (by omega)
  have hfr : ∀ o, w1.frozen? ⟨w.heap.size + 1, o, none⟩ = false := fun o => by rw [hb.frozen (p := ⟨w.heap.size + 1, o, none⟩) (by simp; omega)]; exact HFREE.out o
  clear hb HB HROW HOUT HFREE c0 c1 c2
  refine' takeH_19 _ (by kernel_rfl) (by kernel_rfl) (by kernel_rfl) (fun _ _ _ h => h) (by rfl) ?hy21 hHeld ?rest21
  case hy21 => (intro w hSw; (try dsimp only at hSw); go_simp; try with_reducible rfl)
  simp only [Act.put, List.setIfInBounds_toArray, List.set_cons_zero, List.set_cons_succ]
  have HH : Hid _ := hHeld
  clear hHeld
  refine runH_20 (by kernel_rfl) (fun K hK => ?_)
  go_simp
  refine hK.out _ _ ?hSz (fun hHeld => ?restz)
  case hSz =>
    refine ⟨?_, ?_, ?_, ?_⟩
    · rw [bcell (below_five_at (Below.refl (w.heap.size + 1) w1) (Nat.le_refl _) _ _ _ _ _) _ _ (Nat.lt_succ_self _)]; exact HH.out.1
    · rw [bcell (below_five_at (Below.refl (w.heap.size + 1) w1) (Nat.le_refl _) _ _ _ _ _) _ _ (Nat.lt_succ_self _)]; exact HH.out.2.1
    · rw [bcell (below_five_at (Below.refl (w.heap.size + 1) w1) (Nat.le_refl _) _ _ _ _ _) _ _ (Nat.lt_succ_self _)]; exact HH.out.2.2.1
    · intro j v h
      rw [bcell (below_five_at (Below.refl (w.heap.size + 1) w1) (Nat.le_refl _) _ _ _ _ _) _ _ (Nat.lt_succ_self _)]; exact HH.out.2.2.2 j v h
  clear hK K hHeld HH
  (try simp only [Act.put, List.setIfInBounds_toArray, List.set_cons_zero, List.set_cons_succ])
  refine wpAnyH_done (by kernel_rfl) ?_ _
  go_wp2
  exact bodyPost_ret (v := .agg #[.int .i64 op, .int .i64 (Hm.regC (x / 128) L.rd), .int .i64 (Hm.regC (x / 32768) L.rs1), .int .i64 (Hm.regC (x / 1048576) L.rs2), .int .i64 (Hm.immC L x)]) (by simp [results, Tryd.results34, go_sem, r0, r1, r2, r3, r4]) rfl ⟨rfl, below_five_at HB1.out (by omega) _ _ _ _ _⟩
end Go.Proofs.YtkjkddcgigbglaaDoor
