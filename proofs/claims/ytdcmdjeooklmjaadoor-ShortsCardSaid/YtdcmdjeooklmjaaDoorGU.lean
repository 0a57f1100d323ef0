/-
  B3 B4 B5 in one text.
-/
import Derived.Test.YtdcmdjeooklmjaaDoorGT
import Derived.Test.YtdcmdjeooklmjaaDoorGN
set_option linter.unusedVariables false
set_option linter.unusedSimpArgs false
/-
  Walks: package code's spreadOf (made by gen_B2.py).
-/
namespace Go.Proofs.YtdcmdjeooklmjaaDoor
open Go.RowKit

set_option maxRecDepth 100000 in
set_option maxHeartbeats 4000000 in
theorem spreadOf_5 (w : World) :
    Calls Tryd.prog 118 #[.int .u8 5] w fun e w' => e = .returned (sprV Hm.spr5) ∧ Below w.heap.size w w' := by
  go_enter Tryd.func118, Tryd.ntmps118
  go_wp2_with ((with_reducible refine' wl_store_new (cells := _) ?hx ?hy ?hi ?ho ?h1 ?h); (case hx => rfl); (case hy => rfl); (case hi => kernel_rfl); (case ho => rfl); (case h1 => kernel_rfl))
  refine bodyPost_ret (v := sprV Hm.spr5) ?_ rfl ⟨rfl, (Below.refl _ _).alloc (Nat.le_refl _) _⟩
  rw [results_cell_one Tryd.results118]
  exact run_loadVar_row _ _ 202 _ _ (0, 0) _ (heap_alloc_last w _) Tryd.underlying202 rfl (by kernel_rfl)

set_option maxRecDepth 100000 in
set_option maxHeartbeats 4000000 in
theorem spreadOf_6 (w : World) :
    Calls Tryd.prog 118 #[.int .u8 6] w fun e w' => e = .returned (sprV Hm.spr6) ∧ Below w.heap.size w w' := by
  go_enter Tryd.func118, Tryd.ntmps118
  go_wp2_with ((with_reducible refine' wl_store_new (cells := _) ?hx ?hy ?hi ?ho ?h1 ?h); (case hx => rfl); (case hy => rfl); (case hi => kernel_rfl); (case ho => rfl); (case h1 => kernel_rfl))
  refine bodyPost_ret (v := sprV Hm.spr6) ?_ rfl ⟨rfl, (Below.refl _ _).alloc (Nat.le_refl _) _⟩
  rw [results_cell_one Tryd.results118]
  exact run_loadVar_row _ _ 202 _ _ (0, 0) _ (heap_alloc_last w _) Tryd.underlying202 rfl (by kernel_rfl)

set_option maxRecDepth 100000 in
set_option maxHeartbeats 4000000 in
theorem spreadOf_7 (w : World) :
    Calls Tryd.prog 118 #[.int .u8 7] w fun e w' => e = .returned (sprV Hm.spr7) ∧ Below w.heap.size w w' := by
  go_enter Tryd.func118, Tryd.ntmps118
  go_wp2_with ((with_reducible refine' wl_store_new (cells := _) ?hx ?hy ?hi ?ho ?h1 ?h); (case hx => rfl); (case hy => rfl); (case hi => kernel_rfl); (case ho => rfl); (case h1 => kernel_rfl))
  refine bodyPost_ret (v := sprV Hm.spr7) ?_ rfl ⟨rfl, (Below.refl _ _).alloc (Nat.le_refl _) _⟩
  rw [results_cell_one Tryd.results118]
  exact run_loadVar_row _ _ 202 _ _ (0, 0) _ (heap_alloc_last w _) Tryd.underlying202 rfl (by kernel_rfl)

set_option maxRecDepth 100000 in
set_option maxHeartbeats 4000000 in
theorem spreadOf_8 (w : World) :
    Calls Tryd.prog 118 #[.int .u8 8] w fun e w' => e = .returned (sprV Hm.spr8) ∧ Below w.heap.size w w' := by
  go_enter Tryd.func118, Tryd.ntmps118
  go_wp2_with ((with_reducible refine' wl_store_new (cells := _) ?hx ?hy ?hi ?ho ?h1 ?h); (case hx => rfl); (case hy => rfl); (case hi => kernel_rfl); (case ho => rfl); (case h1 => kernel_rfl))
  refine bodyPost_ret (v := sprV Hm.spr8) ?_ rfl ⟨rfl, (Below.refl _ _).alloc (Nat.le_refl _) _⟩
  rw [results_cell_one Tryd.results118]
  exact run_loadVar_row _ _ 202 _ _ (0, 0) _ (heap_alloc_last w _) Tryd.underlying202 rfl (by kernel_rfl)

set_option maxRecDepth 100000 in
set_option maxHeartbeats 4000000 in
theorem spreadOf_9 (w : World) :
    Calls Tryd.prog 118 #[.int .u8 9] w fun e w' => e = .returned (sprV Hm.spr9) ∧ Below w.heap.size w w' := by
  go_enter Tryd.func118, Tryd.ntmps118
  go_wp2_with ((with_reducible refine' wl_store_new (cells := _) ?hx ?hy ?hi ?ho ?h1 ?h); (case hx => rfl); (case hy => rfl); (case hi => kernel_rfl); (case ho => rfl); (case h1 => kernel_rfl))
  refine bodyPost_ret (v := sprV Hm.spr9) ?_ rfl ⟨rfl, (Below.refl _ _).alloc (Nat.le_refl _) _⟩
  rw [results_cell_one Tryd.results118]
  exact run_loadVar_row _ _ 202 _ _ (0, 0) _ (heap_alloc_last w _) Tryd.underlying202 rfl (by kernel_rfl)

theorem spreadOf_any (s : Int) (w : World) (h0 : 0 ≤ s) (h1 : s ≤ 9) :
    Calls Tryd.prog 118 #[.int .u8 s] w fun e w' => e = .returned (sprV (Hm.spr s)) ∧ Below w.heap.size w w' := by
  have hs : s = 0 ∨ s = 1 ∨ s = 2 ∨ s = 3 ∨ s = 4 ∨ s = 5 ∨ s = 6 ∨ s = 7 ∨ s = 8 ∨ s = 9 := by omega
  rcases hs with rfl | rfl | rfl | rfl | rfl | rfl | rfl | rfl | rfl | rfl
  · exact spreadOf_0 w
  · exact spreadOf_1 w
  · exact spreadOf_2 w
  · exact spreadOf_3 w
  · exact spreadOf_4 w
  · exact spreadOf_5 w
  · exact spreadOf_6 w
  · exact spreadOf_7 w
  · exact spreadOf_8 w
  · exact spreadOf_9 w
end Go.Proofs.YtdcmdjeooklmjaaDoor

/-
  Walks: package code's gather (made by gen_B2.py).
-/
namespace Go.Proofs.YtdcmdjeooklmjaaDoor
open Go.RowKit

theorem idx8_0 (x0 x1 x2 x3 x4 x5 x6 x7 x8 x9 x10 x11 x12 x13 x14 x15 x16 x17 x18 x19 x20 x21 x22 x23 : Int) (w : World) : (Instr.index 200 (.agg #[.int .u8 x0, .int .u8 x1, .int .u8 x2, .int .u8 x3, .int .u8 x4, .int .u8 x5, .int .u8 x6, .int .u8 x7, .int .u8 x8, .int .u8 x9, .int .u8 x10, .int .u8 x11, .int .u8 x12, .int .u8 x13, .int .u8 x14, .int .u8 x15, .int .u8 x16, .int .u8 x17, .int .u8 x18, .int .u8 x19, .int .u8 x20, .int .u8 x21, .int .u8 x22, .int .u8 x23]) (.int .i64 0)).run Tryd.prog w = .ok (.agg #[.int .u8 x0, .int .u8 x1, .int .u8 x2]) w := by kernel_rfl
theorem idx8_1 (x0 x1 x2 x3 x4 x5 x6 x7 x8 x9 x10 x11 x12 x13 x14 x15 x16 x17 x18 x19 x20 x21 x22 x23 : Int) (w : World) : (Instr.index 200 (.agg #[.int .u8 x0, .int .u8 x1, .int .u8 x2, .int .u8 x3, .int .u8 x4, .int .u8 x5, .int .u8 x6, .int .u8 x7, .int .u8 x8, .int .u8 x9, .int .u8 x10, .int .u8 x11, .int .u8 x12, .int .u8 x13, .int .u8 x14, .int .u8 x15, .int .u8 x16, .int .u8 x17, .int .u8 x18, .int .u8 x19, .int .u8 x20, .int .u8 x21, .int .u8 x22, .int .u8 x23]) (.int .i64 1)).run Tryd.prog w = .ok (.agg #[.int .u8 x3, .int .u8 x4, .int .u8 x5]) w := by kernel_rfl
theorem idx8_2 (x0 x1 x2 x3 x4 x5 x6 x7 x8 x9 x10 x11 x12 x13 x14 x15 x16 x17 x18 x19 x20 x21 x22 x23 : Int) (w : World) : (Instr.index 200 (.agg #[.int .u8 x0, .int .u8 x1, .int .u8 x2, .int .u8 x3, .int .u8 x4, .int .u8 x5, .int .u8 x6, .int .u8 x7, .int .u8 x8, .int .u8 x9, .int .u8 x10, .int .u8 x11, .int .u8 x12, .int .u8 x13, .int .u8 x14, .int .u8 x15, .int .u8 x16, .int .u8 x17, .int .u8 x18, .int .u8 x19, .int .u8 x20, .int .u8 x21, .int .u8 x22, .int .u8 x23]) (.int .i64 2)).run Tryd.prog w = .ok (.agg #[.int .u8 x6, .int .u8 x7, .int .u8 x8]) w := by kernel_rfl
theorem idx8_3 (x0 x1 x2 x3 x4 x5 x6 x7 x8 x9 x10 x11 x12 x13 x14 x15 x16 x17 x18 x19 x20 x21 x22 x23 : Int) (w : World) : (Instr.index 200 (.agg #[.int .u8 x0, .int .u8 x1, .int .u8 x2, .int .u8 x3, .int .u8 x4, .int .u8 x5, .int .u8 x6, .int .u8 x7, .int .u8 x8, .int .u8 x9, .int .u8 x10, .int .u8 x11, .int .u8 x12, .int .u8 x13, .int .u8 x14, .int .u8 x15, .int .u8 x16, .int .u8 x17, .int .u8 x18, .int .u8 x19, .int .u8 x20, .int .u8 x21, .int .u8 x22, .int .u8 x23]) (.int .i64 3)).run Tryd.prog w = .ok (.agg #[.int .u8 x9, .int .u8 x10, .int .u8 x11]) w := by kernel_rfl
theorem idx8_4 (x0 x1 x2 x3 x4 x5 x6 x7 x8 x9 x10 x11 x12 x13 x14 x15 x16 x17 x18 x19 x20 x21 x22 x23 : Int) (w : World) : (Instr.index 200 (.agg #[.int .u8 x0, .int .u8 x1, .int .u8 x2, .int .u8 x3, .int .u8 x4, .int .u8 x5, .int .u8 x6, .int .u8 x7, .int .u8 x8, .int .u8 x9, .int .u8 x10, .int .u8 x11, .int .u8 x12, .int .u8 x13, .int .u8 x14, .int .u8 x15, .int .u8 x16, .int .u8 x17, .int .u8 x18, .int .u8 x19, .int .u8 x20, .int .u8 x21, .int .u8 x22, .int .u8 x23]) (.int .i64 4)).run Tryd.prog w = .ok (.agg #[.int .u8 x12, .int .u8 x13, .int .u8 x14]) w := by kernel_rfl
theorem idx8_5 (x0 x1 x2 x3 x4 x5 x6 x7 x8 x9 x10 x11 x12 x13 x14 x15 x16 x17 x18 x19 x20 x21 x22 x23 : Int) (w : World) : (Instr.index 200 (.agg #[.int .u8 x0, .int .u8 x1, .int .u8 x2, .int .u8 x3, .int .u8 x4, .int .u8 x5, .int .u8 x6, .int .u8 x7, .int .u8 x8, .int .u8 x9, .int .u8 x10, .int .u8 x11, .int .u8 x12, .int .u8 x13, .int .u8 x14, .int .u8 x15, .int .u8 x16, .int .u8 x17, .int .u8 x18, .int .u8 x19, .int .u8 x20, .int .u8 x21, .int .u8 x22, .int .u8 x23]) (.int .i64 5)).run Tryd.prog w = .ok (.agg #[.int .u8 x15, .int .u8 x16, .int .u8 x17]) w := by kernel_rfl
theorem idx8_6 (x0 x1 x2 x3 x4 x5 x6 x7 x8 x9 x10 x11 x12 x13 x14 x15 x16 x17 x18 x19 x20 x21 x22 x23 : Int) (w : World) : (Instr.index 200 (.agg #[.int .u8 x0, .int .u8 x1, .int .u8 x2, .int .u8 x3, .int .u8 x4, .int .u8 x5, .int .u8 x6, .int .u8 x7, .int .u8 x8, .int .u8 x9, .int .u8 x10, .int .u8 x11, .int .u8 x12, .int .u8 x13, .int .u8 x14, .int .u8 x15, .int .u8 x16, .int .u8 x17, .int .u8 x18, .int .u8 x19, .int .u8 x20, .int .u8 x21, .int .u8 x22, .int .u8 x23]) (.int .i64 6)).run Tryd.prog w = .ok (.agg #[.int .u8 x18, .int .u8 x19, .int .u8 x20]) w := by kernel_rfl
theorem idx8_7 (x0 x1 x2 x3 x4 x5 x6 x7 x8 x9 x10 x11 x12 x13 x14 x15 x16 x17 x18 x19 x20 x21 x22 x23 : Int) (w : World) : (Instr.index 200 (.agg #[.int .u8 x0, .int .u8 x1, .int .u8 x2, .int .u8 x3, .int .u8 x4, .int .u8 x5, .int .u8 x6, .int .u8 x7, .int .u8 x8, .int .u8 x9, .int .u8 x10, .int .u8 x11, .int .u8 x12, .int .u8 x13, .int .u8 x14, .int .u8 x15, .int .u8 x16, .int .u8 x17, .int .u8 x18, .int .u8 x19, .int .u8 x20, .int .u8 x21, .int .u8 x22, .int .u8 x23]) (.int .i64 7)).run Tryd.prog w = .ok (.agg #[.int .u8 x21, .int .u8 x22, .int .u8 x23]) w := by kernel_rfl
theorem fld_spr (b : Bool) (x0 x1 x2 x3 x4 x5 x6 x7 x8 x9 x10 x11 x12 x13 x14 x15 x16 x17 x18 x19 x20 x21 x22 x23 : Int) (w : World) : (Instr.field 202 (.agg #[.bool b, .int .u8 x0, .int .u8 x1, .int .u8 x2, .int .u8 x3, .int .u8 x4, .int .u8 x5, .int .u8 x6, .int .u8 x7, .int .u8 x8, .int .u8 x9, .int .u8 x10, .int .u8 x11, .int .u8 x12, .int .u8 x13, .int .u8 x14, .int .u8 x15, .int .u8 x16, .int .u8 x17, .int .u8 x18, .int .u8 x19, .int .u8 x20, .int .u8 x21, .int .u8 x22, .int .u8 x23]) 1).run Tryd.prog w = .ok (.agg #[.int .u8 x0, .int .u8 x1, .int .u8 x2, .int .u8 x3, .int .u8 x4, .int .u8 x5, .int .u8 x6, .int .u8 x7, .int .u8 x8, .int .u8 x9, .int .u8 x10, .int .u8 x11, .int .u8 x12, .int .u8 x13, .int .u8 x14, .int .u8 x15, .int .u8 x16, .int .u8 x17, .int .u8 x18, .int .u8 x19, .int .u8 x20, .int .u8 x21, .int .u8 x22, .int .u8 x23]) w := by kernel_rfl

set_option maxRecDepth 100000 in
set_option maxHeartbeats 8000000 in
theorem gather_any (S : Hm.Spr) (x : Int) (w : World) (hS : Hm.SprOk S) (x0 : 0 ≤ x) (x1 : x < 4294967296) :
    Calls Tryd.prog 119 #[sprV S, .int .u32 x] w fun e w' => e = .returned (.int .u32 (Hm.gatA S x 8)) ∧ Below w.heap.size w w' := by
  unfold sprV
  go_enter Tryd.func119, Tryd.ntmps119
  go_wp2_with ((with_reducible refine' wl_load_tail (cs := _) (d := _) ?hx ?hr ?hu ?hd ?hi ?h); (case hx => rfl); (case hr => (simp only [List.drop_succ_cons, List.drop_zero]; rfl)); (case hu => exact Tryd.underlying200); (case hd => rfl); (case hi => kernel_rfl))
  go_loopw [5, 10] (fun v i wr => ∃ j : Nat, j ≤ 8 ∧ i = .int .i64 j ∧ v = .int .u32 (Hm.gatA S x j) ∧ Below w.heap.size w wr ∧ w.heap.size ≤ wr.heap.size) (fun _ i _ => 8 - (intOf i).toNat)
  case atStart => exact ⟨0, by omega, rfl, rfl, (Below.refl _ _).alloc (Nat.le_refl _) _, by simp⟩
  case round =>
    obtain ⟨j, hj, rfl, rfl, hbr, hzr⟩ := hrel
    have HBR : Hid (Below w.heap.size w wr) := hbr
    have hU := fun j => Hm.gatA_u32 S x j
    clear hbr
    have hj' : j = 0 ∨ j = 1 ∨ j = 2 ∨ j = 3 ∨ j = 4 ∨ j = 5 ∨ j = 6 ∨ j = 7 ∨ j = 8 := by omega
    rcases hj' with rfl | rfl | rfl | rfl | rfl | rfl | rfl | rfl | rfl
    · have oj : Hid (bits .or .u32 (Hm.gatA S x 0) (Hm.putC (S.a 0) (S.c 0) (S.f 0) x) = Hm.gatA S x 1) := or_u32 (hU 0) (Hm.putC_u32 _ _ _ _)
      have hidx := idx8_0
      have q1 := (hS.f 0 (by omega))
      clear hU
      go_wp2_with fail
      refine (take_any _ _ _ _ _ (hS.a 0 (by omega)).1 (hS.a 0 (by omega)).2 (hS.c 0 (by omega)).1 (hS.c 0 (by omega)).2 (hS.f 0 (by omega)).1 (hS.f 0 (by omega)).2 x0 x1).mono ?_
      rintro e w4 ⟨rfl, hb4⟩
      have HB4 : Hid (Below w.heap.size w w4) := (HBR.out.alloc (by omega) _).trans (hb4.mono (by simp; omega))
      have hz4 : w.heap.size ≤ w4.heap.size := HB4.out.size
      clear hb4 hidx
      go_wp2
      go_roundw
      case rel => exact ⟨1, by omega, by go_num, by rw [← oj.out], HB4.out, hz4⟩
      case measure => simp [intOf]
    · have oj : Hid (bits .or .u32 (Hm.gatA S x 1) (Hm.putC (S.a 1) (S.c 1) (S.f 1) x) = Hm.gatA S x 2) := or_u32 (hU 1) (Hm.putC_u32 _ _ _ _)
      have hidx := idx8_1
      have q1 := (hS.f 1 (by omega))
      clear hU
      go_wp2_with fail
      refine (take_any _ _ _ _ _ (hS.a 1 (by omega)).1 (hS.a 1 (by omega)).2 (hS.c 1 (by omega)).1 (hS.c 1 (by omega)).2 (hS.f 1 (by omega)).1 (hS.f 1 (by omega)).2 x0 x1).mono ?_
      rintro e w4 ⟨rfl, hb4⟩
      have HB4 : Hid (Below w.heap.size w w4) := (HBR.out.alloc (by omega) _).trans (hb4.mono (by simp; omega))
      have hz4 : w.heap.size ≤ w4.heap.size := HB4.out.size
      clear hb4 hidx
      go_wp2
      go_roundw
      case rel => exact ⟨2, by omega, by go_num, by rw [← oj.out], HB4.out, hz4⟩
      case measure => simp [intOf]
    · have oj : Hid (bits .or .u32 (Hm.gatA S x 2) (Hm.putC (S.a 2) (S.c 2) (S.f 2) x) = Hm.gatA S x 3) := or_u32 (hU 2) (Hm.putC_u32 _ _ _ _)
      have hidx := idx8_2
      have q1 := (hS.f 2 (by omega))
      clear hU
      go_wp2_with fail
      refine (take_any _ _ _ _ _ (hS.a 2 (by omega)).1 (hS.a 2 (by omega)).2 (hS.c 2 (by omega)).1 (hS.c 2 (by omega)).2 (hS.f 2 (by omega)).1 (hS.f 2 (by omega)).2 x0 x1).mono ?_
      rintro e w4 ⟨rfl, hb4⟩
      have HB4 : Hid (Below w.heap.size w w4) := (HBR.out.alloc (by omega) _).trans (hb4.mono (by simp; omega))
      have hz4 : w.heap.size ≤ w4.heap.size := HB4.out.size
      clear hb4 hidx
      go_wp2
      go_roundw
      case rel => exact ⟨3, by omega, by go_num, by rw [← oj.out], HB4.out, hz4⟩
      case measure => simp [intOf]
    · have oj : Hid (bits .or .u32 (Hm.gatA S x 3) (Hm.putC (S.a 3) (S.c 3) (S.f 3) x) = Hm.gatA S x 4) := or_u32 (hU 3) (Hm.putC_u32 _ _ _ _)
      have hidx := idx8_3
      have q1 := (hS.f 3 (by omega))
      clear hU
      go_wp2_with fail
      refine (take_any _ _ _ _ _ (hS.a 3 (by omega)).1 (hS.a 3 (by omega)).2 (hS.c 3 (by omega)).1 (hS.c 3 (by omega)).2 (hS.f 3 (by omega)).1 (hS.f 3 (by omega)).2 x0 x1).mono ?_
      rintro e w4 ⟨rfl, hb4⟩
      have HB4 : Hid (Below w.heap.size w w4) := (HBR.out.alloc (by omega) _).trans (hb4.mono (by simp; omega))
      have hz4 : w.heap.size ≤ w4.heap.size := HB4.out.size
      clear hb4 hidx
      go_wp2
      go_roundw
      case rel => exact ⟨4, by omega, by go_num, by rw [← oj.out], HB4.out, hz4⟩
      case measure => simp [intOf]
    · have oj : Hid (bits .or .u32 (Hm.gatA S x 4) (Hm.putC (S.a 4) (S.c 4) (S.f 4) x) = Hm.gatA S x 5) := or_u32 (hU 4) (Hm.putC_u32 _ _ _ _)
      have hidx := idx8_4
      have q1 := (hS.f 4 (by omega))
      clear hU
      go_wp2_with fail
      refine (take_any _ _ _ _ _ (hS.a 4 (by omega)).1 (hS.a 4 (by omega)).2 (hS.c 4 (by omega)).1 (hS.c 4 (by omega)).2 (hS.f 4 (by omega)).1 (hS.f 4 (by omega)).2 x0 x1).mono ?_
      rintro e w4 ⟨rfl, hb4⟩
      have HB4 : Hid (Below w.heap.size w w4) := (HBR.out.alloc (by omega) _).trans (hb4.mono (by simp; omega))
      have hz4 : w.heap.size ≤ w4.heap.size := HB4.out.size
      clear hb4 hidx
      go_wp2
      go_roundw
      case rel => exact ⟨5, by omega, by go_num, by rw [← oj.out], HB4.out, hz4⟩
      case measure => simp [intOf]
    · have oj : Hid (bits .or .u32 (Hm.gatA S x 5) (Hm.putC (S.a 5) (S.c 5) (S.f 5) x) = Hm.gatA S x 6) := or_u32 (hU 5) (Hm.putC_u32 _ _ _ _)
      have hidx := idx8_5
      have q1 := (hS.f 5 (by omega))
      clear hU
      go_wp2_with fail
      refine (take_any _ _ _ _ _ (hS.a 5 (by omega)).1 (hS.a 5 (by omega)).2 (hS.c 5 (by omega)).1 (hS.c 5 (by omega)).2 (hS.f 5 (by omega)).1 (hS.f 5 (by omega)).2 x0 x1).mono ?_
      rintro e w4 ⟨rfl, hb4⟩
      have HB4 : Hid (Below w.heap.size w w4) := (HBR.out.alloc (by omega) _).trans (hb4.mono (by simp; omega))
      have hz4 : w.heap.size ≤ w4.heap.size := HB4.out.size
      clear hb4 hidx
      go_wp2
      go_roundw
      case rel => exact ⟨6, by omega, by go_num, by rw [← oj.out], HB4.out, hz4⟩
      case measure => simp [intOf]
    · have oj : Hid (bits .or .u32 (Hm.gatA S x 6) (Hm.putC (S.a 6) (S.c 6) (S.f 6) x) = Hm.gatA S x 7) := or_u32 (hU 6) (Hm.putC_u32 _ _ _ _)
      have hidx := idx8_6
      have q1 := (hS.f 6 (by omega))
      clear hU
      go_wp2_with fail
      refine (take_any _ _ _ _ _ (hS.a 6 (by omega)).1 (hS.a 6 (by omega)).2 (hS.c 6 (by omega)).1 (hS.c 6 (by omega)).2 (hS.f 6 (by omega)).1 (hS.f 6 (by omega)).2 x0 x1).mono ?_
      rintro e w4 ⟨rfl, hb4⟩
      have HB4 : Hid (Below w.heap.size w w4) := (HBR.out.alloc (by omega) _).trans (hb4.mono (by simp; omega))
      have hz4 : w.heap.size ≤ w4.heap.size := HB4.out.size
      clear hb4 hidx
      go_wp2
      go_roundw
      case rel => exact ⟨7, by omega, by go_num, by rw [← oj.out], HB4.out, hz4⟩
      case measure => simp [intOf]
    · have oj : Hid (bits .or .u32 (Hm.gatA S x 7) (Hm.putC (S.a 7) (S.c 7) (S.f 7) x) = Hm.gatA S x 8) := or_u32 (hU 7) (Hm.putC_u32 _ _ _ _)
      have hidx := idx8_7
      have q1 := (hS.f 7 (by omega))
      clear hU
      go_wp2_with fail
      refine (take_any _ _ _ _ _ (hS.a 7 (by omega)).1 (hS.a 7 (by omega)).2 (hS.c 7 (by omega)).1 (hS.c 7 (by omega)).2 (hS.f 7 (by omega)).1 (hS.f 7 (by omega)).2 x0 x1).mono ?_
      rintro e w4 ⟨rfl, hb4⟩
      have HB4 : Hid (Below w.heap.size w w4) := (HBR.out.alloc (by omega) _).trans (hb4.mono (by simp; omega))
      have hz4 : w.heap.size ≤ w4.heap.size := HB4.out.size
      clear hb4 hidx
      go_wp2
      go_roundw
      case rel => exact ⟨8, by omega, by go_num, by rw [← oj.out], HB4.out, hz4⟩
      case measure => simp [intOf]
    · clear hU
      go_wp2
      go_ret
      exact ⟨rfl, HBR.out⟩
end Go.Proofs.YtdcmdjeooklmjaaDoor

/-
  Walks: package code's spread.put (made by gen_B2.py).
-/
namespace Go.Proofs.YtdcmdjeooklmjaaDoor
open Go.RowKit

set_option maxRecDepth 100000 in
set_option maxHeartbeats 8000000 in
theorem sput_any (s n : Int) (w : World) (s0 : 0 ≤ s) (s1 : s ≤ 9) :
    Calls Tryd.prog 93 #[.int .u8 s, .int .i64 n] w fun e w' => e = .returned (.int .u16 (Hm.sputC s n)) ∧ Below w.heap.size w w' := by
  have HC : Hid (Hm.sputA (Hm.spr s) (n % 4294967296) 8 % 65536 = Hm.sputC s n) := rfl
  have hS := Hm.spr_ok s
  have hfld := fld_spr
  go_enter Tryd.func93, Tryd.ntmps93
  go_wp2_with fail
  refine (spreadOf_any _ _ s0 s1).mono ?_
  rintro e w1 ⟨rfl, hb1⟩
  have HB1 : Hid (Below w.heap.size w w1) := hb1
  clear hb1
  generalize Hm.spr s = S at *
  unfold sprV
  have HX : Hid (n % 4294967296 = n % 4294967296) := rfl
  have x0 : 0 ≤ n % 4294967296 := by omega
  have x1 : n % 4294967296 < 4294967296 := by omega
  go_wp2
  clear hfld
  go_loopw [5, 11] (fun v i wr => ∃ j : Nat, j ≤ 8 ∧ i = .int .i64 j ∧ v = .int .u32 (Hm.sputA S (n % 4294967296) j) ∧ Below w.heap.size w wr ∧ w.heap.size ≤ wr.heap.size) (fun _ i _ => 8 - (intOf i).toNat)
  case atStart => exact ⟨0, by omega, rfl, rfl, HB1.out, HB1.out.size⟩
  case round =>
    obtain ⟨j, hj, rfl, rfl, hbr, hzr⟩ := hrel
    have HBR : Hid (Below w.heap.size w wr) := hbr
    have hU := fun j => Hm.sputA_u32 S (n % 4294967296) j
    clear hbr
    have hj' : j = 0 ∨ j = 1 ∨ j = 2 ∨ j = 3 ∨ j = 4 ∨ j = 5 ∨ j = 6 ∨ j = 7 ∨ j = 8 := by omega
    rcases hj' with rfl | rfl | rfl | rfl | rfl | rfl | rfl | rfl | rfl
    · have oj : Hid (bits .or .u32 (Hm.sputA S (n % 4294967296) 0) (Hm.putC (S.f 0) (S.c 0) (S.a 0) (n % 4294967296)) = Hm.sputA S (n % 4294967296) 1) := or_u32 (hU 0) (Hm.putC_u32 _ _ _ _)
      have hidx := idx8_0
      have q1 := (hS.f 0 (by omega))
      clear hU
      go_wp2_with fail
      refine (put_any _ _ _ _ _ (hS.f 0 (by omega)).1 (hS.f 0 (by omega)).2 (hS.c 0 (by omega)).1 (hS.c 0 (by omega)).2 (hS.a 0 (by omega)).1 (hS.a 0 (by omega)).2 x0 x1).mono ?_
      rintro e w4 ⟨rfl, hb4⟩
      have HB4 : Hid (Below w.heap.size w w4) := (HBR.out.alloc (by omega) _).trans (hb4.mono (by simp; omega))
      have hz4 : w.heap.size ≤ w4.heap.size := HB4.out.size
      clear hb4 hidx
      go_wp2
      go_roundw
      case rel => exact ⟨1, by omega, by go_num, by rw [← oj.out], HB4.out, hz4⟩
      case measure => simp [intOf]
    · have oj : Hid (bits .or .u32 (Hm.sputA S (n % 4294967296) 1) (Hm.putC (S.f 1) (S.c 1) (S.a 1) (n % 4294967296)) = Hm.sputA S (n % 4294967296) 2) := or_u32 (hU 1) (Hm.putC_u32 _ _ _ _)
      have hidx := idx8_1
      have q1 := (hS.f 1 (by omega))
      clear hU
      go_wp2_with fail
      refine (put_any _ _ _ _ _ (hS.f 1 (by omega)).1 (hS.f 1 (by omega)).2 (hS.c 1 (by omega)).1 (hS.c 1 (by omega)).2 (hS.a 1 (by omega)).1 (hS.a 1 (by omega)).2 x0 x1).mono ?_
      rintro e w4 ⟨rfl, hb4⟩
      have HB4 : Hid (Below w.heap.size w w4) := (HBR.out.alloc (by omega) _).trans (hb4.mono (by simp; omega))
      have hz4 : w.heap.size ≤ w4.heap.size := HB4.out.size
      clear hb4 hidx
      go_wp2
      go_roundw
      case rel => exact ⟨2, by omega, by go_num, by rw [← oj.out], HB4.out, hz4⟩
      case measure => simp [intOf]
    · have oj : Hid (bits .or .u32 (Hm.sputA S (n % 4294967296) 2) (Hm.putC (S.f 2) (S.c 2) (S.a 2) (n % 4294967296)) = Hm.sputA S (n % 4294967296) 3) := or_u32 (hU 2) (Hm.putC_u32 _ _ _ _)
      have hidx := idx8_2
      have q1 := (hS.f 2 (by omega))
      clear hU
      go_wp2_with fail
      refine (put_any _ _ _ _ _ (hS.f 2 (by omega)).1 (hS.f 2 (by omega)).2 (hS.c 2 (by omega)).1 (hS.c 2 (by omega)).2 (hS.a 2 (by omega)).1 (hS.a 2 (by omega)).2 x0 x1).mono ?_
      rintro e w4 ⟨rfl, hb4⟩
      have HB4 : Hid (Below w.heap.size w w4) := (HBR.out.alloc (by omega) _).trans (hb4.mono (by simp; omega))
      have hz4 : w.heap.size ≤ w4.heap.size := HB4.out.size
      clear hb4 hidx
      go_wp2
      go_roundw
      case rel => exact ⟨3, by omega, by go_num, by rw [← oj.out], HB4.out, hz4⟩
      case measure => simp [intOf]
    · have oj : Hid (bits .or .u32 (Hm.sputA S (n % 4294967296) 3) (Hm.putC (S.f 3) (S.c 3) (S.a 3) (n % 4294967296)) = Hm.sputA S (n % 4294967296) 4) := or_u32 (hU 3) (Hm.putC_u32 _ _ _ _)
      have hidx := idx8_3
      have q1 := (hS.f 3 (by omega))
      clear hU
      go_wp2_with fail
      refine (put_any _ _ _ _ _ (hS.f 3 (by omega)).1 (hS.f 3 (by omega)).2 (hS.c 3 (by omega)).1 (hS.c 3 (by omega)).2 (hS.a 3 (by omega)).1 (hS.a 3 (by omega)).2 x0 x1).mono ?_
      rintro e w4 ⟨rfl, hb4⟩
      have HB4 : Hid (Below w.heap.size w w4) := (HBR.out.alloc (by omega) _).trans (hb4.mono (by simp; omega))
      have hz4 : w.heap.size ≤ w4.heap.size := HB4.out.size
      clear hb4 hidx
      go_wp2
      go_roundw
      case rel => exact ⟨4, by omega, by go_num, by rw [← oj.out], HB4.out, hz4⟩
      case measure => simp [intOf]
    · have oj : Hid (bits .or .u32 (Hm.sputA S (n % 4294967296) 4) (Hm.putC (S.f 4) (S.c 4) (S.a 4) (n % 4294967296)) = Hm.sputA S (n % 4294967296) 5) := or_u32 (hU 4) (Hm.putC_u32 _ _ _ _)
      have hidx := idx8_4
      have q1 := (hS.f 4 (by omega))
      clear hU
      go_wp2_with fail
      refine (put_any _ _ _ _ _ (hS.f 4 (by omega)).1 (hS.f 4 (by omega)).2 (hS.c 4 (by omega)).1 (hS.c 4 (by omega)).2 (hS.a 4 (by omega)).1 (hS.a 4 (by omega)).2 x0 x1).mono ?_
      rintro e w4 ⟨rfl, hb4⟩
      have HB4 : Hid (Below w.heap.size w w4) := (HBR.out.alloc (by omega) _).trans (hb4.mono (by simp; omega))
      have hz4 : w.heap.size ≤ w4.heap.size := HB4.out.size
      clear hb4 hidx
      go_wp2
      go_roundw
      case rel => exact ⟨5, by omega, by go_num, by rw [← oj.out], HB4.out, hz4⟩
      case measure => simp [intOf]
    · have oj : Hid (bits .or .u32 (Hm.sputA S (n % 4294967296) 5) (Hm.putC (S.f 5) (S.c 5) (S.a 5) (n % 4294967296)) = Hm.sputA S (n % 4294967296) 6) := or_u32 (hU 5) (Hm.putC_u32 _ _ _ _)
      have hidx := idx8_5
      have q1 := (hS.f 5 (by omega))
      clear hU
      go_wp2_with fail
      refine (put_any _ _ _ _ _ (hS.f 5 (by omega)).1 (hS.f 5 (by omega)).2 (hS.c 5 (by omega)).1 (hS.c 5 (by omega)).2 (hS.a 5 (by omega)).1 (hS.a 5 (by omega)).2 x0 x1).mono ?_
      rintro e w4 ⟨rfl, hb4⟩
      have HB4 : Hid (Below w.heap.size w w4) := (HBR.out.alloc (by omega) _).trans (hb4.mono (by simp; omega))
      have hz4 : w.heap.size ≤ w4.heap.size := HB4.out.size
      clear hb4 hidx
      go_wp2
      go_roundw
      case rel => exact ⟨6, by omega, by go_num, by rw [← oj.out], HB4.out, hz4⟩
      case measure => simp [intOf]
    · have oj : Hid (bits .or .u32 (Hm.sputA S (n % 4294967296) 6) (Hm.putC (S.f 6) (S.c 6) (S.a 6) (n % 4294967296)) = Hm.sputA S (n % 4294967296) 7) := or_u32 (hU 6) (Hm.putC_u32 _ _ _ _)
      have hidx := idx8_6
      have q1 := (hS.f 6 (by omega))
      clear hU
      go_wp2_with fail
      refine (put_any _ _ _ _ _ (hS.f 6 (by omega)).1 (hS.f 6 (by omega)).2 (hS.c 6 (by omega)).1 (hS.c 6 (by omega)).2 (hS.a 6 (by omega)).1 (hS.a 6 (by omega)).2 x0 x1).mono ?_
      rintro e w4 ⟨rfl, hb4⟩
      have HB4 : Hid (Below w.heap.size w w4) := (HBR.out.alloc (by omega) _).trans (hb4.mono (by simp; omega))
      have hz4 : w.heap.size ≤ w4.heap.size := HB4.out.size
      clear hb4 hidx
      go_wp2
      go_roundw
      case rel => exact ⟨7, by omega, by go_num, by rw [← oj.out], HB4.out, hz4⟩
      case measure => simp [intOf]
    · have oj : Hid (bits .or .u32 (Hm.sputA S (n % 4294967296) 7) (Hm.putC (S.f 7) (S.c 7) (S.a 7) (n % 4294967296)) = Hm.sputA S (n % 4294967296) 8) := or_u32 (hU 7) (Hm.putC_u32 _ _ _ _)
      have hidx := idx8_7
      have q1 := (hS.f 7 (by omega))
      clear hU
      go_wp2_with fail
      refine (put_any _ _ _ _ _ (hS.f 7 (by omega)).1 (hS.f 7 (by omega)).2 (hS.c 7 (by omega)).1 (hS.c 7 (by omega)).2 (hS.a 7 (by omega)).1 (hS.a 7 (by omega)).2 x0 x1).mono ?_
      rintro e w4 ⟨rfl, hb4⟩
      have HB4 : Hid (Below w.heap.size w w4) := (HBR.out.alloc (by omega) _).trans (hb4.mono (by simp; omega))
      have hz4 : w.heap.size ≤ w4.heap.size := HB4.out.size
      clear hb4 hidx
      go_wp2
      go_roundw
      case rel => exact ⟨8, by omega, by go_num, by rw [← oj.out], HB4.out, hz4⟩
      case measure => simp [intOf]
    · clear hU
      go_wp2
      go_ret
      exact ⟨ret_int HC.out, HBR.out⟩
end Go.Proofs.YtdcmdjeooklmjaaDoor
