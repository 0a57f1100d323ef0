/-
  D2 in one text.
-/
import Derived.Test.YtdcmdjeooklmjaaDoorGO
set_option linter.unusedVariables false
set_option linter.unusedSimpArgs false
/-
  The walk of the law Codes.
-/
namespace Go.Proofs.YtdcmdjeooklmjaaDoor
open Go.RowKit

theorem encC_u32 (op rd rs1 rs2 imm : Int) : Hm.U32 (Hm.encC op rd rs1 rs2 imm) := by
  unfold Hm.encC
  split
  · rename_i h
    have hb := Hm.legal_bd h
    have h0 : Hm.U32 (Hm.bitOf op) := Hm.bit_bd op
    have h1 : Hm.U32 (rd * 128) := ⟨by have := hb.d; omega, by have := hb.d; omega⟩
    have h2 : Hm.U32 (rs1 * 32768) := ⟨by have := hb.r; omega, by have := hb.r; omega⟩
    have h3 : Hm.U32 (rs2 * 1048576) := ⟨by have := hb.t; omega, by have := hb.t; omega⟩
    exact Hm.encA_u32 (Hm.orI_u32 (Hm.orI_u32 (Hm.orI_u32 h0 h1) h2) h3) 4
  · exact ⟨by decide, by decide⟩

set_option maxRecDepth 100000 in
set_option maxHeartbeats 4000000 in
theorem codes_walk (op rd rs1 rs2 imm x : Int) (w : World) (ht : Tab w) (x0 : 0 ≤ x) (x1 : x < 4294967296)
    (hrd : I64 rd) (hrs1 : I64 rs1) (hrs2 : I64 rs2) (himm : I64 imm)
    (g1 : Hm.legalR op rd rs1 rs2 imm = Hm.legalC op rd rs1 rs2 imm) (g2 : Hm.encR op rd rs1 rs2 imm = Hm.encC op rd rs1 rs2 imm) (g3 : Hm.errR op rd rs1 rs2 imm = Hm.errC op rd rs1 rs2 imm) (g4 : Hm.decR x = Hm.decC x) :
    Calls Tryd.prog 3 #[.agg #[.int .i64 op, .int .i64 rd, .int .i64 rs1, .int .i64 rs2, .int .i64 imm], .int .u32 x] w fun e w' => e = .returned (.bool true) ∧ Below w.heap.size w w' := by
  have HT : Hid (Tab w) := ht
  have G1 : Hid (Hm.legalR op rd rs1 rs2 imm = Hm.legalC op rd rs1 rs2 imm) := g1
  have G2 : Hid (Hm.encR op rd rs1 rs2 imm = Hm.encC op rd rs1 rs2 imm) := g2
  have G3 : Hid (Hm.errR op rd rs1 rs2 imm = Hm.errC op rd rs1 rs2 imm) := g3
  have G4 : Hid (Hm.decR x = Hm.decC x) := g4
  clear ht g1 g2 g3 g4
  obtain ⟨e0, e1⟩ := encC_u32 op rd rs1 rs2 imm
  go_enter Tryd.func3, Tryd.ntmps3
  go_wp2_with fail
  refine (hLegal _ _ _ _ _ _ (HT.out.alloc _)).mono ?_
  rintro e w1 ⟨rfl, hb1⟩
  have HB1 : Hid (Below w.heap.size w w1) := ((Below.refl _ _).alloc (Nat.le_refl _) _).trans (hb1.mono (by simp))
  have hz1 : w.heap.size < w1.heap.size := by have := hb1.size; simp at this; omega
  have a0 : w1.cell? ⟨w.heap.size, 0, none⟩ = some (.int .i64 op) := by rw [bcell hb1 _ _ (by simp)]; simp
  have a1 : w1.cell? ⟨w.heap.size, 1, none⟩ = some (.int .i64 rd) := by rw [bcell hb1 _ _ (by simp)]; simp
  have a2 : w1.cell? ⟨w.heap.size, 2, none⟩ = some (.int .i64 rs1) := by rw [bcell hb1 _ _ (by simp)]; simp
  have a3 : w1.cell? ⟨w.heap.size, 3, none⟩ = some (.int .i64 rs2) := by rw [bcell hb1 _ _ (by simp)]; simp
  have a4 : w1.cell? ⟨w.heap.size, 4, none⟩ = some (.int .i64 imm) := by rw [bcell hb1 _ _ (by simp)]; simp
  clear hb1
  go_wp2_with fail
  refine (refLegal_any _ _ _ _ _ _).mono ?_
  rintro e w2 ⟨rfl, hb2⟩
  rw [G1.out]
  have HB2 : Hid (Below w.heap.size w w2) := HB1.out.trans (hb2.mono (by omega))
  have hz2 : w.heap.size < w2.heap.size := by have := hb2.size; omega
  have b0 : w2.cell? ⟨w.heap.size, 0, none⟩ = some (.int .i64 op) := by rw [bcell hb2 _ _ hz1]; exact a0
  have b1 : w2.cell? ⟨w.heap.size, 1, none⟩ = some (.int .i64 rd) := by rw [bcell hb2 _ _ hz1]; exact a1
  have b2 : w2.cell? ⟨w.heap.size, 2, none⟩ = some (.int .i64 rs1) := by rw [bcell hb2 _ _ hz1]; exact a2
  have b3 : w2.cell? ⟨w.heap.size, 3, none⟩ = some (.int .i64 rs2) := by rw [bcell hb2 _ _ hz1]; exact a3
  have b4 : w2.cell? ⟨w.heap.size, 4, none⟩ = some (.int .i64 imm) := by rw [bcell hb2 _ _ hz1]; exact a4
  clear hb2 HB1 hz1 a0 a1 a2 a3 a4
  go_wp2_with fail
  refine (hEncode _ _ _ _ _ _ (HT.out.below HB2.out HT.out.1)).mono ?_
  rintro e w3 ⟨rfl, hb3⟩
  have HB3 : Hid (Below w.heap.size w w3) := HB2.out.trans (hb3.mono (by omega))
  have hz3 : w.heap.size < w3.heap.size := by have := hb3.size; omega
  have a0 : w3.cell? ⟨w.heap.size, 0, none⟩ = some (.int .i64 op) := by rw [bcell hb3 _ _ hz2]; exact b0
  have a1 : w3.cell? ⟨w.heap.size, 1, none⟩ = some (.int .i64 rd) := by rw [bcell hb3 _ _ hz2]; exact b1
  have a2 : w3.cell? ⟨w.heap.size, 2, none⟩ = some (.int .i64 rs1) := by rw [bcell hb3 _ _ hz2]; exact b2
  have a3 : w3.cell? ⟨w.heap.size, 3, none⟩ = some (.int .i64 rs2) := by rw [bcell hb3 _ _ hz2]; exact b3
  have a4 : w3.cell? ⟨w.heap.size, 4, none⟩ = some (.int .i64 imm) := by rw [bcell hb3 _ _ hz2]; exact b4
  clear hb3 HB2 hz2 b0 b1 b2 b3 b4
  go_wp2_with fail
  refine (refEncode_any _ _ _ _ _ _ hrd hrs1 hrs2 himm).mono ?_
  rintro e w4 ⟨rfl, hb4⟩
  rw [G2.out, G3.out]
  have HB4 : Hid (Below w.heap.size w w4) := HB3.out.trans (hb4.mono (by omega))
  clear hb4 HB3 a0 a1 a2 a3 a4
  go_wp2_with fail
  refine (hDecode _ _ (HT.out.below HB4.out HT.out.1) x0 x1).mono ?_
  rintro e w5 ⟨rfl, hb5⟩
  have HB5 : Hid (Below w.heap.size w w5) := HB4.out.trans (hb5.mono HB4.out.size)
  clear hb5 HB4
  unfold decVal
  go_wp2_with fail
  refine (refDecode_any _ _ x0 x1).mono ?_
  rintro e w6 ⟨rfl, hb6⟩
  rw [G4.out]
  have c0 : w6.cell? ⟨w5.heap.size, 0, none⟩ = some (.int .i64 (Hm.decC x).op) := by rw [bcell hb6 _ _ (by simp)]; simp
  have c1 : w6.cell? ⟨w5.heap.size, 1, none⟩ = some (.int .i64 (Hm.decC x).f.d) := by rw [bcell hb6 _ _ (by simp)]; simp
  have c2 : w6.cell? ⟨w5.heap.size, 2, none⟩ = some (.int .i64 (Hm.decC x).f.r) := by rw [bcell hb6 _ _ (by simp)]; simp
  have c3 : w6.cell? ⟨w5.heap.size, 3, none⟩ = some (.int .i64 (Hm.decC x).f.t) := by rw [bcell hb6 _ _ (by simp)]; simp
  have c4 : w6.cell? ⟨w5.heap.size, 4, none⟩ = some (.int .i64 (Hm.decC x).f.imm) := by rw [bcell hb6 _ _ (by simp)]; simp
  have hz6 : w5.heap.size < w6.heap.size := by have := hb6.size; simp at this; omega
  have HB6 : Hid (Below w.heap.size w w6) := (HB5.out.alloc HB5.out.size _).trans (hb6.mono (Nat.le_trans HB5.out.size (by simp)))
  have hw6 : w.heap.size ≤ w6.heap.size := HB6.out.size
  clear hb6 HB5 hz3
  unfold decVal
  generalize (Hm.decC x).op = o1 at *
  generalize (Hm.decC x).f.d = o2 at *
  generalize (Hm.decC x).f.r = o3 at *
  generalize (Hm.decC x).f.t = o4 at *
  generalize (Hm.decC x).f.imm = o5 at *
  generalize (Hm.decC x).err = o6 at *
  generalize Hm.encC op rd rs1 rs2 imm = E at *
  generalize Hm.errC op rd rs1 rs2 imm = E' at *
  generalize Hm.legalC op rd rs1 rs2 imm = G at *
  go_wp2_with (go_at_call 17; refine (num_any _ _).mono ?_; rintro e w' ⟨rfl, rfl⟩)
  go_ret
  exact ⟨rfl, HB6.out.alloc hw6 _⟩
end Go.Proofs.YtdcmdjeooklmjaaDoor
