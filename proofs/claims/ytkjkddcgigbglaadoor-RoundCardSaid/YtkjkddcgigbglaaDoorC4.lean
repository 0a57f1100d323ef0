/-
  Walks: package code's Encode.
-/
import Derived.Test.YtkjkddcgigbglaaDoorC3
import Derived.Test.YtkjkddcgigbglaaDoorE
set_option linter.unusedVariables false
set_option linter.unusedSimpArgs false
namespace Go.Proofs.YtkjkddcgigbglaaDoor
open Go.RowKit

theorem or_u32 {a b : Int} (ha : Hm.U32 a) (hb : Hm.U32 b) : bits .or .u32 a b = Hm.orI a b := u32_or a b ha.1 ha.2 hb.1 hb.2

theorem idx0 (a b c d e f g h i j k l : Int) (w : World) : (Instr.index 59 (.agg #[.int .u8 a, .int .u8 b, .int .u8 c, .int .u8 d, .int .u8 e, .int .u8 f, .int .u8 g, .int .u8 h, .int .u8 i, .int .u8 j, .int .u8 k, .int .u8 l]) (.int .i64 0)).run Tryd.prog w = .ok (.agg #[.int .u8 a, .int .u8 b, .int .u8 c]) w := by kernel_rfl
theorem idx1 (a b c d e f g h i j k l : Int) (w : World) : (Instr.index 59 (.agg #[.int .u8 a, .int .u8 b, .int .u8 c, .int .u8 d, .int .u8 e, .int .u8 f, .int .u8 g, .int .u8 h, .int .u8 i, .int .u8 j, .int .u8 k, .int .u8 l]) (.int .i64 1)).run Tryd.prog w = .ok (.agg #[.int .u8 d, .int .u8 e, .int .u8 f]) w := by kernel_rfl
theorem idx2 (a b c d e f g h i j k l : Int) (w : World) : (Instr.index 59 (.agg #[.int .u8 a, .int .u8 b, .int .u8 c, .int .u8 d, .int .u8 e, .int .u8 f, .int .u8 g, .int .u8 h, .int .u8 i, .int .u8 j, .int .u8 k, .int .u8 l]) (.int .i64 2)).run Tryd.prog w = .ok (.agg #[.int .u8 g, .int .u8 h, .int .u8 i]) w := by kernel_rfl
theorem idx3 (a b c d e f g h i j k l : Int) (w : World) : (Instr.index 59 (.agg #[.int .u8 a, .int .u8 b, .int .u8 c, .int .u8 d, .int .u8 e, .int .u8 f, .int .u8 g, .int .u8 h, .int .u8 i, .int .u8 j, .int .u8 k, .int .u8 l]) (.int .i64 3)).run Tryd.prog w = .ok (.agg #[.int .u8 j, .int .u8 k, .int .u8 l]) w := by kernel_rfl
theorem fld_pieces (x y z v : Bool) (m n : Int) (a b c d e f g h i j k l : Int) (w : World) : (Instr.field 61 (.agg #[.bool x, .bool y, .bool z, .int .i64 m, .int .i64 n, .bool v, .int .u8 a, .int .u8 b, .int .u8 c, .int .u8 d, .int .u8 e, .int .u8 f, .int .u8 g, .int .u8 h, .int .u8 i, .int .u8 j, .int .u8 k, .int .u8 l]) 4).run Tryd.prog w = .ok (.agg #[.int .u8 a, .int .u8 b, .int .u8 c, .int .u8 d, .int .u8 e, .int .u8 f, .int .u8 g, .int .u8 h, .int .u8 i, .int .u8 j, .int .u8 k, .int .u8 l]) w := by kernel_rfl

set_option maxRecDepth 100000 in
set_option maxHeartbeats 1000000 in
theorem encode_no (hlay : LayoutOf) (op rd rs1 rs2 imm : Int) (w : World) (ht : Tab w) (h : Hm.legalC op rd rs1 rs2 imm = false) :
    Calls Tryd.prog 19 #[.agg #[.int .i64 op, .int .i64 rd, .int .i64 rs1, .int .i64 rs2, .int .i64 imm]] w fun e w' => e = .returned (.tuple #[.int .u32 (Hm.encC op rd rs1 rs2 imm), .int .i64 (Hm.errC op rd rs1 rs2 imm)]) ∧ Below w.heap.size w w' := by
  have HE : Hid (Hm.encC op rd rs1 rs2 imm = 0) := by simp [Hid, Hm.encC, h]
  have HR : Hid (Hm.errC op rd rs1 rs2 imm = 1) := by simp [Hid, Hm.errC, h]
  have HT : Hid (Tab w) := ht
  clear ht
  go_enter Tryd.func19, Tryd.ntmps19
  go_wp2_with fail
  refine (legal_any hlay _ _ _ _ _ _ (HT.out.alloc _)).mono ?_
  rintro e w1 ⟨rfl, hb⟩
  have HB : Hid (Below w.heap.size w w1) := ((Below.refl _ _).alloc (Nat.le_refl _) _).trans (hb.mono (by simp))
  clear hb
  go_wp2
  go_ret2
  exact ⟨ret_ints2 HE.out.symm HR.out.symm, HB.out⟩

set_option maxRecDepth 100000 in
set_option maxHeartbeats 4000000 in
theorem encode_yes (hlay : LayoutOf) (op rd rs1 rs2 imm : Int) (w : World) (ht : Tab w) (h : Hm.legalC op rd rs1 rs2 imm = true) :
    Calls Tryd.prog 19 #[.agg #[.int .i64 op, .int .i64 rd, .int .i64 rs1, .int .i64 rs2, .int .i64 imm]] w fun e w' => e = .returned (.tuple #[.int .u32 (Hm.encC op rd rs1 rs2 imm), .int .i64 (Hm.errC op rd rs1 rs2 imm)]) ∧ Below w.heap.size w w' := by
  have HE : Hid (Hm.encC op rd rs1 rs2 imm = Hm.encA (Hm.lay (Hm.fmtOf op)) (Hm.enc0 op rd rs1 rs2) (imm % 4294967296) 4) := by simp [Hid, Hm.encC, h]
  have HR : Hid (Hm.errC op rd rs1 rs2 imm = 0) := by simp [Hid, Hm.errC, h]
  have HT : Hid (Tab w) := ht
  have hbd := Hm.legal_bd h
  obtain ⟨hf0, ⟨hd0, hd1⟩, ⟨hr0, hr1⟩, ⟨ht0, ht1⟩, ⟨hi0, hi1⟩⟩ := hbd
  have hfb := Hm.fmt_bd op
  have hbb := Hm.bit_bd op
  have hfp := fld_pieces
  have hb0 : Hm.U32 (Hm.bitOf op) := hbb
  have hb1 : Hm.U32 (rd * 128) := ⟨by omega, by omega⟩
  have hb2 : Hm.U32 (rs1 * 32768) := ⟨by omega, by omega⟩
  have hb3 : Hm.U32 (rs2 * 1048576) := ⟨by omega, by omega⟩
  have o1 := or_u32 hb0 hb1
  have o2 := or_u32 (Hm.orI_u32 hb0 hb1) hb2
  have o3 : bits .or .u32 (Hm.orI (Hm.orI (Hm.bitOf op) (rd * 128)) (rs1 * 32768)) (rs2 * 1048576) = Hm.enc0 op rd rs1 rs2 := or_u32 (Hm.orI_u32 (Hm.orI_u32 hb0 hb1) hb2) hb3
  have HU : Hid (Hm.U32 (Hm.enc0 op rd rs1 rs2)) := Hm.orI_u32 (Hm.orI_u32 (Hm.orI_u32 hb0 hb1) hb2) hb3
  clear hb0 hb1 hb2 hb3 hbb
  clear ht
  go_enter Tryd.func19, Tryd.ntmps19
  go_wp2_with fail
  refine (legal_any hlay _ _ _ _ _ _ (HT.out.alloc _)).mono ?_
  rintro e w1 ⟨rfl, hb⟩
  have HB : Hid (Below w.heap.size w w1) := ((Below.refl _ _).alloc (Nat.le_refl _) _).trans (hb.mono (by simp))
  have hz : w.heap.size < w1.heap.size := by have := hb.size; simp at this; omega
  have c0 : w1.cell? ⟨w.heap.size, 0, none⟩ = some (.int .i64 op) := by rw [bcell hb _ _ (by simp)]; simp
  have c1 : w1.cell? ⟨w.heap.size, 1, none⟩ = some (.int .i64 rd) := by rw [bcell hb _ _ (by simp)]; simp
  have c2 : w1.cell? ⟨w.heap.size, 2, none⟩ = some (.int .i64 rs1) := by rw [bcell hb _ _ (by simp)]; simp
  have c3 : w1.cell? ⟨w.heap.size, 3, none⟩ = some (.int .i64 rs2) := by rw [bcell hb _ _ (by simp)]; simp
  have c4 : w1.cell? ⟨w.heap.size, 4, none⟩ = some (.int .i64 imm) := by rw [bcell hb _ _ (by simp)]; simp
  have HT1 : Hid (Tab w1) := HT.out.below HB.out HT.out.1
  clear hb
  go_wp2_with fail
  refine (rowOf_any _ _ HT1.out).mono ?_
  rintro e w2 ⟨rfl, hb2⟩
  have HB2 : Hid (Below w.heap.size w w2) := HB.out.trans (hb2.mono (by omega))
  have hz2 : w.heap.size < w2.heap.size := by have := hb2.size; omega
  have d1 : w2.cell? ⟨w.heap.size, 1, none⟩ = some (.int .i64 rd) := by rw [bcell hb2 _ _ hz]; exact c1
  have d2 : w2.cell? ⟨w.heap.size, 2, none⟩ = some (.int .i64 rs1) := by rw [bcell hb2 _ _ hz]; exact c2
  have d3 : w2.cell? ⟨w.heap.size, 3, none⟩ = some (.int .i64 rs2) := by rw [bcell hb2 _ _ hz]; exact c3
  have d4 : w2.cell? ⟨w.heap.size, 4, none⟩ = some (.int .i64 imm) := by rw [bcell hb2 _ _ hz]; exact c4
  clear c0 c1 c2 c3 c4 HB hb2 hz HT1 h
  go_wp2_with fail
  refine (hlay _ _ hfb.1 hfb.2).mono ?_
  rintro e w3 ⟨rfl, hb3⟩
  have hz3 : w.heap.size < w3.heap.size := by have := hb3.size; simp at this; omega
  have HB3 : Hid (Below w.heap.size w w3) := (HB2.out.alloc (by omega) _).trans (hb3.mono (by simp; omega))
  have f4 : w3.cell? ⟨w.heap.size, 4, none⟩ = some (.int .i64 imm) := by rw [bcell hb3 _ _ (by simp; omega)]; simp [World.cell?_alloc_lt, hz2, d4]
  have hL := Hm.lay_ok (Hm.fmtOf op)
  clear d1 d2 d3 d4 hb3 HB2 hz2 o1 o2 o3
  unfold layV
  generalize Hm.lay (Hm.fmtOf op) = L at *
  go_wp2
  go_loopw [5, 35] (fun v i wr => ∃ j : Nat, j ≤ 4 ∧ i = .int .i64 j ∧ v = .int .u32 (Hm.encA L (Hm.enc0 op rd rs1 rs2) (imm % 4294967296) j) ∧ Below w.heap.size w wr ∧ w.heap.size < wr.heap.size ∧ wr.cell? ⟨w.heap.size, 4, none⟩ = some (.int .i64 imm)) (fun _ i _ => 4 - (intOf i).toNat)
  case atStart => exact ⟨0, by omega, rfl, rfl, HB3.out, hz3, f4⟩
  case round =>
    obtain ⟨j, hj, rfl, rfl, hbr, hzr, hcr⟩ := hrel
    have HBR : Hid (Below w.heap.size w wr) := hbr
    have x0 : 0 ≤ imm % 4294967296 := by omega
    have x1 : imm % 4294967296 < 4294967296 := by omega
    have HU' := fun j => Hm.encA_u32 (L := L) (x := imm % 4294967296) HU.out j
    clear hbr f4 HB3 hz3
    have hj' : j = 0 ∨ j = 1 ∨ j = 2 ∨ j = 3 ∨ j = 4 := by omega
    rcases hj' with rfl | rfl | rfl | rfl | rfl
    · have oj : Hid (bits .or .u32 (Hm.encA L (Hm.enc0 op rd rs1 rs2) (imm % 4294967296) 0) (Hm.putC L.f0 L.c0 L.a0 (imm % 4294967296)) = Hm.encA L (Hm.enc0 op rd rs1 rs2) (imm % 4294967296) 1) := or_u32 (HU' 0) (Hm.putC_u32 _ _ _ _)
      have hidx := idx0
      clear HU'
      go_wp2_with fail
      refine (put_any _ _ _ _ _ hL.f0.1 hL.f0.2 hL.c0.1 hL.c0.2 hL.a0.1 hL.a0.2 (by omega) (by omega)).mono ?_
      rintro e w4 ⟨rfl, hb4⟩
      have hz4 : w.heap.size < w4.heap.size := by have := hb4.size; simp at this; omega
      have HB4 : Hid (Below w.heap.size w w4) := (HBR.out.alloc (by omega) _).trans (hb4.mono (by simp; omega))
      have f5 : w4.cell? ⟨w.heap.size, 4, none⟩ = some (.int .i64 imm) := by rw [bcell hb4 _ _ (by simp; omega)]; simp [World.cell?_alloc_lt, hzr, hcr]
      clear hb4 hidx
      go_wp2
      go_roundw
      case rel => exact ⟨1, by omega, by go_num, by rw [← oj.out], HB4.out, hz4, f5⟩
      case measure => simp [intOf]
    · have oj : Hid (bits .or .u32 (Hm.encA L (Hm.enc0 op rd rs1 rs2) (imm % 4294967296) 1) (Hm.putC L.f1 L.c1 L.a1 (imm % 4294967296)) = Hm.encA L (Hm.enc0 op rd rs1 rs2) (imm % 4294967296) 2) := or_u32 (HU' 1) (Hm.putC_u32 _ _ _ _)
      have hidx := idx1
      clear HU'
      go_wp2_with fail
      refine (put_any _ _ _ _ _ hL.f1.1 hL.f1.2 hL.c1.1 hL.c1.2 hL.a1.1 hL.a1.2 (by omega) (by omega)).mono ?_
      rintro e w4 ⟨rfl, hb4⟩
      have hz4 : w.heap.size < w4.heap.size := by have := hb4.size; simp at this; omega
      have HB4 : Hid (Below w.heap.size w w4) := (HBR.out.alloc (by omega) _).trans (hb4.mono (by simp; omega))
      have f5 : w4.cell? ⟨w.heap.size, 4, none⟩ = some (.int .i64 imm) := by rw [bcell hb4 _ _ (by simp; omega)]; simp [World.cell?_alloc_lt, hzr, hcr]
      clear hb4 hidx
      go_wp2
      go_roundw
      case rel => exact ⟨2, by omega, by go_num, by rw [← oj.out], HB4.out, hz4, f5⟩
      case measure => simp [intOf]
    · have oj : Hid (bits .or .u32 (Hm.encA L (Hm.enc0 op rd rs1 rs2) (imm % 4294967296) 2) (Hm.putC L.f2 L.c2 L.a2 (imm % 4294967296)) = Hm.encA L (Hm.enc0 op rd rs1 rs2) (imm % 4294967296) 3) := or_u32 (HU' 2) (Hm.putC_u32 _ _ _ _)
      have hidx := idx2
      clear HU'
      go_wp2_with fail
      refine (put_any _ _ _ _ _ hL.f2.1 hL.f2.2 hL.c2.1 hL.c2.2 hL.a2.1 hL.a2.2 (by omega) (by omega)).mono ?_
      rintro e w4 ⟨rfl, hb4⟩
      have hz4 : w.heap.size < w4.heap.size := by have := hb4.size; simp at this; omega
      have HB4 : Hid (Below w.heap.size w w4) := (HBR.out.alloc (by omega) _).trans (hb4.mono (by simp; omega))
      have f5 : w4.cell? ⟨w.heap.size, 4, none⟩ = some (.int .i64 imm) := by rw [bcell hb4 _ _ (by simp; omega)]; simp [World.cell?_alloc_lt, hzr, hcr]
      clear hb4 hidx
      go_wp2
      go_roundw
      case rel => exact ⟨3, by omega, by go_num, by rw [← oj.out], HB4.out, hz4, f5⟩
      case measure => simp [intOf]
    · have oj : Hid (bits .or .u32 (Hm.encA L (Hm.enc0 op rd rs1 rs2) (imm % 4294967296) 3) (Hm.putC L.f3 L.c3 L.a3 (imm % 4294967296)) = Hm.encA L (Hm.enc0 op rd rs1 rs2) (imm % 4294967296) 4) := or_u32 (HU' 3) (Hm.putC_u32 _ _ _ _)
      have hidx := idx3
      clear HU'
      go_wp2_with fail
      refine (put_any _ _ _ _ _ hL.f3.1 hL.f3.2 hL.c3.1 hL.c3.2 hL.a3.1 hL.a3.2 (by omega) (by omega)).mono ?_
      rintro e w4 ⟨rfl, hb4⟩
      have hz4 : w.heap.size < w4.heap.size := by have := hb4.size; simp at this; omega
      have HB4 : Hid (Below w.heap.size w w4) := (HBR.out.alloc (by omega) _).trans (hb4.mono (by simp; omega))
      have f5 : w4.cell? ⟨w.heap.size, 4, none⟩ = some (.int .i64 imm) := by rw [bcell hb4 _ _ (by simp; omega)]; simp [World.cell?_alloc_lt, hzr, hcr]
      clear hb4 hidx
      go_wp2
      go_roundw
      case rel => exact ⟨4, by omega, by go_num, by rw [← oj.out], HB4.out, hz4, f5⟩
      case measure => simp [intOf]
    · go_wp2
      go_ret2
      exact ⟨ret_ints2 HE.out.symm HR.out.symm, HBR.out⟩

theorem encode_any (hlay : LayoutOf) (op rd rs1 rs2 imm : Int) (w : World) (ht : Tab w) :
    Calls Tryd.prog 19 #[.agg #[.int .i64 op, .int .i64 rd, .int .i64 rs1, .int .i64 rs2, .int .i64 imm]] w fun e w' => e = .returned (.tuple #[.int .u32 (Hm.encC op rd rs1 rs2 imm), .int .i64 (Hm.errC op rd rs1 rs2 imm)]) ∧ Below w.heap.size w w' := by
  cases h : Hm.legalC op rd rs1 rs2 imm
  · exact encode_no hlay op rd rs1 rs2 imm w ht h
  · exact encode_yes hlay op rd rs1 rs2 imm w ht h
end Go.Proofs.YtkjkddcgigbglaaDoor
