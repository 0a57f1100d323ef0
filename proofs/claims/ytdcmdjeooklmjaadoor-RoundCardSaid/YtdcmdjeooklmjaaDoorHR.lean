/-
  R1 in one text.
-/
import Derived.Test.YtdcmdjeooklmjaaDoorHI
import Derived.Test.YtdcmdjeooklmjaaDoorHD
import Derived.Test.YtdcmdjeooklmjaaDoorHY
set_option linter.unusedVariables false
set_option linter.unusedSimpArgs false
/-
  The walk of the law Round.
-/
namespace Go.Proofs.YtdcmdjeooklmjaaDoor
open Go.RowKit

set_option maxRecDepth 100000 in
set_option maxHeartbeats 4000000 in
theorem round_none (op rd rs1 rs2 imm x : Int) (w : World) (ht : Tab w) (x0 : 0 ≤ x) (x1 : x < 4294967296)
    (hop : I64 op) (hrd : I64 rd) (hrs1 : I64 rs1) (hrs2 : I64 rs2) (himm : I64 imm) (hd : Hm.decC x = ⟨0, ⟨0, 0, 0, 0⟩, 2⟩) :
    Calls Tryd.prog 4 #[.agg #[.int .i64 op, .int .i64 rd, .int .i64 rs1, .int .i64 rs2, .int .i64 imm], .int .u32 x] w fun e w' => e = .returned (.bool true) ∧ Below w.heap.size w w' := by
  have HD : Hid (Hm.decC x = ⟨0, ⟨0, 0, 0, 0⟩, 2⟩) := hd
  clear hd
  have HT : Hid (Tab w) := ht
  have hpb := Hm.pick_bd op 48 (by omega)
  clear ht
  go_enter Tryd.func4, Tryd.ntmps4
  go_wp2_with fail
  refine (inst_any op rd rs1 rs2 imm _ hop hrd hrs1 hrs2 himm).mono ?_
  rintro e w1 ⟨f, hf, rfl, hb1⟩
  have hl : Hm.legalC (1 + Hm.pickI op 48) f.d f.r f.t f.imm = true := by rw [hf]; exact Hm.inst_legal _ _ _ _ _ (by omega) (by omega)
  have HA : Hid (Hm.decC (Hm.encC (1 + Hm.pickI op 48) f.d f.r f.t f.imm) = ⟨1 + Hm.pickI op 48, f, 0⟩) := Hm.round_a hl
  have HE : Hid (Hm.errC (1 + Hm.pickI op 48) f.d f.r f.t f.imm = 0) := by simp [Hid, Hm.errC, hl]
  have HL : Hid (Hm.legalC (1 + Hm.pickI op 48) f.d f.r f.t f.imm = true) := hl
  obtain ⟨E0, E1⟩ := encC_u32 (1 + Hm.pickI op 48) f.d f.r f.t f.imm
  have HB1 : Hid (Below w.heap.size w w1) := ((Below.refl _ _).alloc (Nat.le_refl _) _).trans (hb1.mono (by simp))
  clear hf hb1 hl hop hrd hrs1 hrs2 himm
  generalize 1 + Hm.pickI op 48 = O at *
  clear hpb
  go_wp2_with fail
  refine (hEncode _ _ _ _ _ _ ((HT.out.below HB1.out HT.out.1).alloc _)).mono ?_
  rintro e w2 ⟨rfl, hb2⟩
  rw [HE.out]
  have hz2 : w1.heap.size < w2.heap.size := by have := hb2.size; simp at this; omega
  have a0 : w2.cell? ⟨w1.heap.size, 0, none⟩ = some (.int .i64 O) := by rw [bcell hb2 _ _ (by simp)]; simp
  have a1 : w2.cell? ⟨w1.heap.size, 1, none⟩ = some (.int .i64 f.d) := by rw [bcell hb2 _ _ (by simp)]; simp
  have a2 : w2.cell? ⟨w1.heap.size, 2, none⟩ = some (.int .i64 f.r) := by rw [bcell hb2 _ _ (by simp)]; simp
  have a3 : w2.cell? ⟨w1.heap.size, 3, none⟩ = some (.int .i64 f.t) := by rw [bcell hb2 _ _ (by simp)]; simp
  have a4 : w2.cell? ⟨w1.heap.size, 4, none⟩ = some (.int .i64 f.imm) := by rw [bcell hb2 _ _ (by simp)]; simp
  have HB2 : Hid (Below w.heap.size w w2) := (HB1.out.alloc HB1.out.size _).trans (hb2.mono (Nat.le_trans HB1.out.size (by simp)))
  clear hb2
  go_wp2_with fail
  refine (hDecode _ _ (HT.out.below HB2.out HT.out.1) E0 E1).mono ?_
  rintro e w3 ⟨rfl, hb3⟩
  rw [HA.out]
  unfold decVal
  have hz3 : w1.heap.size < w3.heap.size := by have := hb3.size; omega
  have b0 : w3.cell? ⟨w1.heap.size, 0, none⟩ = some (.int .i64 O) := by rw [bcell hb3 _ _ hz2]; exact a0
  have b1 : w3.cell? ⟨w1.heap.size, 1, none⟩ = some (.int .i64 f.d) := by rw [bcell hb3 _ _ hz2]; exact a1
  have b2 : w3.cell? ⟨w1.heap.size, 2, none⟩ = some (.int .i64 f.r) := by rw [bcell hb3 _ _ hz2]; exact a2
  have b3 : w3.cell? ⟨w1.heap.size, 3, none⟩ = some (.int .i64 f.t) := by rw [bcell hb3 _ _ hz2]; exact a3
  have b4 : w3.cell? ⟨w1.heap.size, 4, none⟩ = some (.int .i64 f.imm) := by rw [bcell hb3 _ _ hz2]; exact a4
  have HB3 : Hid (Below w.heap.size w w3) := HB2.out.trans (hb3.mono HB2.out.size)
  have hw3 : w.heap.size ≤ w3.heap.size := HB3.out.size
  clear hb3 a0 a1 a2 a3 a4 hz2 HB2
  go_wp2_with fail
  refine (hLegal _ _ _ _ _ _ ((HT.out.below HB3.out HT.out.1).alloc _)).mono ?_
  rintro e w4 ⟨rfl, hb4⟩
  rw [HL.out]
  have hz4 : w3.heap.size < w4.heap.size := by have := hb4.size; simp at this; omega
  have a0 : w4.cell? ⟨w1.heap.size, 0, none⟩ = some (.int .i64 O) := by rw [bcell hb4 _ _ (by simp; omega)]; simp [World.cell?_alloc_lt, hz3, b0]
  have a1 : w4.cell? ⟨w1.heap.size, 1, none⟩ = some (.int .i64 f.d) := by rw [bcell hb4 _ _ (by simp; omega)]; simp [World.cell?_alloc_lt, hz3, b1]
  have a2 : w4.cell? ⟨w1.heap.size, 2, none⟩ = some (.int .i64 f.r) := by rw [bcell hb4 _ _ (by simp; omega)]; simp [World.cell?_alloc_lt, hz3, b2]
  have a3 : w4.cell? ⟨w1.heap.size, 3, none⟩ = some (.int .i64 f.t) := by rw [bcell hb4 _ _ (by simp; omega)]; simp [World.cell?_alloc_lt, hz3, b3]
  have a4 : w4.cell? ⟨w1.heap.size, 4, none⟩ = some (.int .i64 f.imm) := by rw [bcell hb4 _ _ (by simp; omega)]; simp [World.cell?_alloc_lt, hz3, b4]
  have c0 : w4.cell? ⟨w3.heap.size, 0, none⟩ = some (.int .i64 O) := by rw [bcell hb4 _ _ (by simp)]; simp
  have c1 : w4.cell? ⟨w3.heap.size, 1, none⟩ = some (.int .i64 f.d) := by rw [bcell hb4 _ _ (by simp)]; simp
  have c2 : w4.cell? ⟨w3.heap.size, 2, none⟩ = some (.int .i64 f.r) := by rw [bcell hb4 _ _ (by simp)]; simp
  have c3 : w4.cell? ⟨w3.heap.size, 3, none⟩ = some (.int .i64 f.t) := by rw [bcell hb4 _ _ (by simp)]; simp
  have c4 : w4.cell? ⟨w3.heap.size, 4, none⟩ = some (.int .i64 f.imm) := by rw [bcell hb4 _ _ (by simp)]; simp
  have HB4 : Hid (Below w.heap.size w w4) := (HB3.out.alloc hw3 _).trans (hb4.mono (Nat.le_trans hw3 (by simp)))
  have hw4 : w.heap.size ≤ w4.heap.size := HB4.out.size
  clear hb4 b0 b1 b2 b3 b4
  go_wp2_with fail
  refine (hDecode _ _ (HT.out.below HB4.out HT.out.1) x0 x1).mono ?_
  rintro e w5 ⟨rfl, hb5⟩
  rw [HD.out]
  unfold decVal
  have HB5 : Hid (Below w.heap.size w w5) := HB4.out.trans (hb5.mono hw4)
  have hw5 : w.heap.size ≤ w5.heap.size := HB5.out.size
  clear hb5 a0 a1 a2 a3 a4 c0 c1 c2 c3 c4 hz3 hz4 HB4 HB3
  go_wp2
  go_ret
  exact ⟨rfl, HB5.out.alloc hw5 _⟩

set_option maxRecDepth 100000 in
set_option maxHeartbeats 4000000 in
theorem round_some (op rd rs1 rs2 imm x : Int) (w : World) (ht : Tab w) (x0 : 0 ≤ x) (x1 : x < 4294967296)
    (hop : I64 op) (hrd : I64 rd) (hrs1 : I64 rs1) (hrs2 : I64 rs2) (himm : I64 imm) (Q : Int) (g : Hm.Flds) (hd : Hm.decC x = ⟨Q, g, 0⟩) (hl2 : Hm.legalC Q g.d g.r g.t g.imm = true) (hx : Hm.encC Q g.d g.r g.t g.imm = x) :
    Calls Tryd.prog 4 #[.agg #[.int .i64 op, .int .i64 rd, .int .i64 rs1, .int .i64 rs2, .int .i64 imm], .int .u32 x] w fun e w' => e = .returned (.bool true) ∧ Below w.heap.size w w' := by
  have HD : Hid (Hm.decC x = ⟨Q, g, 0⟩) := hd
  have HL2 : Hid (Hm.legalC Q g.d g.r g.t g.imm = true) := hl2
  have HE2 : Hid (Hm.errC Q g.d g.r g.t g.imm = 0) := by simp [Hid, Hm.errC, hl2]
  have HX : Hid (Hm.encC Q g.d g.r g.t g.imm = x) := hx
  clear hd hl2 hx
  have HT : Hid (Tab w) := ht
  have hpb := Hm.pick_bd op 48 (by omega)
  clear ht
  go_enter Tryd.func4, Tryd.ntmps4
  go_wp2_with fail
  refine (inst_any op rd rs1 rs2 imm _ hop hrd hrs1 hrs2 himm).mono ?_
  rintro e w1 ⟨f, hf, rfl, hb1⟩
  have hl : Hm.legalC (1 + Hm.pickI op 48) f.d f.r f.t f.imm = true := by rw [hf]; exact Hm.inst_legal _ _ _ _ _ (by omega) (by omega)
  have HA : Hid (Hm.decC (Hm.encC (1 + Hm.pickI op 48) f.d f.r f.t f.imm) = ⟨1 + Hm.pickI op 48, f, 0⟩) := Hm.round_a hl
  have HE : Hid (Hm.errC (1 + Hm.pickI op 48) f.d f.r f.t f.imm = 0) := by simp [Hid, Hm.errC, hl]
  have HL : Hid (Hm.legalC (1 + Hm.pickI op 48) f.d f.r f.t f.imm = true) := hl
  obtain ⟨E0, E1⟩ := encC_u32 (1 + Hm.pickI op 48) f.d f.r f.t f.imm
  have HB1 : Hid (Below w.heap.size w w1) := ((Below.refl _ _).alloc (Nat.le_refl _) _).trans (hb1.mono (by simp))
  clear hf hb1 hl hop hrd hrs1 hrs2 himm
  generalize 1 + Hm.pickI op 48 = O at *
  clear hpb
  go_wp2_with fail
  refine (hEncode _ _ _ _ _ _ ((HT.out.below HB1.out HT.out.1).alloc _)).mono ?_
  rintro e w2 ⟨rfl, hb2⟩
  rw [HE.out]
  have hz2 : w1.heap.size < w2.heap.size := by have := hb2.size; simp at this; omega
  have a0 : w2.cell? ⟨w1.heap.size, 0, none⟩ = some (.int .i64 O) := by rw [bcell hb2 _ _ (by simp)]; simp
  have a1 : w2.cell? ⟨w1.heap.size, 1, none⟩ = some (.int .i64 f.d) := by rw [bcell hb2 _ _ (by simp)]; simp
  have a2 : w2.cell? ⟨w1.heap.size, 2, none⟩ = some (.int .i64 f.r) := by rw [bcell hb2 _ _ (by simp)]; simp
  have a3 : w2.cell? ⟨w1.heap.size, 3, none⟩ = some (.int .i64 f.t) := by rw [bcell hb2 _ _ (by simp)]; simp
  have a4 : w2.cell? ⟨w1.heap.size, 4, none⟩ = some (.int .i64 f.imm) := by rw [bcell hb2 _ _ (by simp)]; simp
  have HB2 : Hid (Below w.heap.size w w2) := (HB1.out.alloc HB1.out.size _).trans (hb2.mono (Nat.le_trans HB1.out.size (by simp)))
  clear hb2
  go_wp2_with fail
  refine (hDecode _ _ (HT.out.below HB2.out HT.out.1) E0 E1).mono ?_
  rintro e w3 ⟨rfl, hb3⟩
  rw [HA.out]
  unfold decVal
  have hz3 : w1.heap.size < w3.heap.size := by have := hb3.size; omega
  have b0 : w3.cell? ⟨w1.heap.size, 0, none⟩ = some (.int .i64 O) := by rw [bcell hb3 _ _ hz2]; exact a0
  have b1 : w3.cell? ⟨w1.heap.size, 1, none⟩ = some (.int .i64 f.d) := by rw [bcell hb3 _ _ hz2]; exact a1
  have b2 : w3.cell? ⟨w1.heap.size, 2, none⟩ = some (.int .i64 f.r) := by rw [bcell hb3 _ _ hz2]; exact a2
  have b3 : w3.cell? ⟨w1.heap.size, 3, none⟩ = some (.int .i64 f.t) := by rw [bcell hb3 _ _ hz2]; exact a3
  have b4 : w3.cell? ⟨w1.heap.size, 4, none⟩ = some (.int .i64 f.imm) := by rw [bcell hb3 _ _ hz2]; exact a4
  have HB3 : Hid (Below w.heap.size w w3) := HB2.out.trans (hb3.mono HB2.out.size)
  have hw3 : w.heap.size ≤ w3.heap.size := HB3.out.size
  clear hb3 a0 a1 a2 a3 a4 hz2 HB2
  go_wp2_with fail
  refine (hLegal _ _ _ _ _ _ ((HT.out.below HB3.out HT.out.1).alloc _)).mono ?_
  rintro e w4 ⟨rfl, hb4⟩
  rw [HL.out]
  have hz4 : w3.heap.size < w4.heap.size := by have := hb4.size; simp at this; omega
  have a0 : w4.cell? ⟨w1.heap.size, 0, none⟩ = some (.int .i64 O) := by rw [bcell hb4 _ _ (by simp; omega)]; simp [World.cell?_alloc_lt, hz3, b0]
  have a1 : w4.cell? ⟨w1.heap.size, 1, none⟩ = some (.int .i64 f.d) := by rw [bcell hb4 _ _ (by simp; omega)]; simp [World.cell?_alloc_lt, hz3, b1]
  have a2 : w4.cell? ⟨w1.heap.size, 2, none⟩ = some (.int .i64 f.r) := by rw [bcell hb4 _ _ (by simp; omega)]; simp [World.cell?_alloc_lt, hz3, b2]
  have a3 : w4.cell? ⟨w1.heap.size, 3, none⟩ = some (.int .i64 f.t) := by rw [bcell hb4 _ _ (by simp; omega)]; simp [World.cell?_alloc_lt, hz3, b3]
  have a4 : w4.cell? ⟨w1.heap.size, 4, none⟩ = some (.int .i64 f.imm) := by rw [bcell hb4 _ _ (by simp; omega)]; simp [World.cell?_alloc_lt, hz3, b4]
  have c0 : w4.cell? ⟨w3.heap.size, 0, none⟩ = some (.int .i64 O) := by rw [bcell hb4 _ _ (by simp)]; simp
  have c1 : w4.cell? ⟨w3.heap.size, 1, none⟩ = some (.int .i64 f.d) := by rw [bcell hb4 _ _ (by simp)]; simp
  have c2 : w4.cell? ⟨w3.heap.size, 2, none⟩ = some (.int .i64 f.r) := by rw [bcell hb4 _ _ (by simp)]; simp
  have c3 : w4.cell? ⟨w3.heap.size, 3, none⟩ = some (.int .i64 f.t) := by rw [bcell hb4 _ _ (by simp)]; simp
  have c4 : w4.cell? ⟨w3.heap.size, 4, none⟩ = some (.int .i64 f.imm) := by rw [bcell hb4 _ _ (by simp)]; simp
  have HB4 : Hid (Below w.heap.size w w4) := (HB3.out.alloc hw3 _).trans (hb4.mono (Nat.le_trans hw3 (by simp)))
  have hw4 : w.heap.size ≤ w4.heap.size := HB4.out.size
  clear hb4 b0 b1 b2 b3 b4
  go_wp2_with fail
  refine (hDecode _ _ (HT.out.below HB4.out HT.out.1) x0 x1).mono ?_
  rintro e w5 ⟨rfl, hb5⟩
  rw [HD.out]
  unfold decVal
  have HB5 : Hid (Below w.heap.size w w5) := HB4.out.trans (hb5.mono hw4)
  have hw5 : w.heap.size ≤ w5.heap.size := HB5.out.size
  clear hb5 a0 a1 a2 a3 a4 c0 c1 c2 c3 c4 hz3 hz4 HB4 HB3
  go_wp2_with fail
  refine (hEncode _ _ _ _ _ _ ((HT.out.below HB5.out HT.out.1).alloc _)).mono ?_
  rintro e w6 ⟨rfl, hb6⟩
  rw [HE2.out, HX.out]
  have hz6 : w5.heap.size < w6.heap.size := by have := hb6.size; simp at this; omega
  have a0 : w6.cell? ⟨w5.heap.size, 0, none⟩ = some (.int .i64 Q) := by rw [bcell hb6 _ _ (by simp)]; simp
  have a1 : w6.cell? ⟨w5.heap.size, 1, none⟩ = some (.int .i64 g.d) := by rw [bcell hb6 _ _ (by simp)]; simp
  have a2 : w6.cell? ⟨w5.heap.size, 2, none⟩ = some (.int .i64 g.r) := by rw [bcell hb6 _ _ (by simp)]; simp
  have a3 : w6.cell? ⟨w5.heap.size, 3, none⟩ = some (.int .i64 g.t) := by rw [bcell hb6 _ _ (by simp)]; simp
  have a4 : w6.cell? ⟨w5.heap.size, 4, none⟩ = some (.int .i64 g.imm) := by rw [bcell hb6 _ _ (by simp)]; simp
  have HB6 : Hid (Below w.heap.size w w6) := (HB5.out.alloc hw5 _).trans (hb6.mono (Nat.le_trans hw5 (by simp)))
  have hw6 : w.heap.size ≤ w6.heap.size := HB6.out.size
  clear hb6
  go_wp2_with fail
  refine (hLegal _ _ _ _ _ _ (HT.out.below HB6.out HT.out.1)).mono ?_
  rintro e w7 ⟨rfl, hb7⟩
  rw [HL2.out]
  have b0 : w7.cell? ⟨w5.heap.size, 0, none⟩ = some (.int .i64 Q) := by rw [bcell hb7 _ _ hz6]; exact a0
  have b1 : w7.cell? ⟨w5.heap.size, 1, none⟩ = some (.int .i64 g.d) := by rw [bcell hb7 _ _ hz6]; exact a1
  have b2 : w7.cell? ⟨w5.heap.size, 2, none⟩ = some (.int .i64 g.r) := by rw [bcell hb7 _ _ hz6]; exact a2
  have b3 : w7.cell? ⟨w5.heap.size, 3, none⟩ = some (.int .i64 g.t) := by rw [bcell hb7 _ _ hz6]; exact a3
  have b4 : w7.cell? ⟨w5.heap.size, 4, none⟩ = some (.int .i64 g.imm) := by rw [bcell hb7 _ _ hz6]; exact a4
  have HB7 : Hid (Below w.heap.size w w7) := HB6.out.trans (hb7.mono hw6)
  clear hb7 a0 a1 a2 a3 a4
  go_wp2
  go_ret
  exact ⟨rfl, HB7.out⟩

set_option maxRecDepth 100000 in
set_option maxHeartbeats 4000000 in
theorem round_fence (op rd rs1 rs2 imm x : Int) (w : World) (ht : Tab w) (x0 : 0 ≤ x) (x1 : x < 4294967296)
    (hop : I64 op) (hrd : I64 rd) (hrs1 : I64 rs1) (hrs2 : I64 rs2) (himm : I64 imm) (g : Hm.Flds) (hd : Hm.decC x = ⟨46, g, 0⟩) (hl2 : Hm.legalC 46 g.d g.r g.t g.imm = true) :
    Calls Tryd.prog 4 #[.agg #[.int .i64 op, .int .i64 rd, .int .i64 rs1, .int .i64 rs2, .int .i64 imm], .int .u32 x] w fun e w' => e = .returned (.bool true) ∧ Below w.heap.size w w' := by
  have HD : Hid (Hm.decC x = ⟨46, g, 0⟩) := hd
  have HL2 : Hid (Hm.legalC 46 g.d g.r g.t g.imm = true) := hl2
  have HE2 : Hid (Hm.errC 46 g.d g.r g.t g.imm = 0) := by simp [Hid, Hm.errC, hl2]
  clear hd hl2
  have HT : Hid (Tab w) := ht
  have hpb := Hm.pick_bd op 48 (by omega)
  clear ht
  go_enter Tryd.func4, Tryd.ntmps4
  go_wp2_with fail
  refine (inst_any op rd rs1 rs2 imm _ hop hrd hrs1 hrs2 himm).mono ?_
  rintro e w1 ⟨f, hf, rfl, hb1⟩
  have hl : Hm.legalC (1 + Hm.pickI op 48) f.d f.r f.t f.imm = true := by rw [hf]; exact Hm.inst_legal _ _ _ _ _ (by omega) (by omega)
  have HA : Hid (Hm.decC (Hm.encC (1 + Hm.pickI op 48) f.d f.r f.t f.imm) = ⟨1 + Hm.pickI op 48, f, 0⟩) := Hm.round_a hl
  have HE : Hid (Hm.errC (1 + Hm.pickI op 48) f.d f.r f.t f.imm = 0) := by simp [Hid, Hm.errC, hl]
  have HL : Hid (Hm.legalC (1 + Hm.pickI op 48) f.d f.r f.t f.imm = true) := hl
  obtain ⟨E0, E1⟩ := encC_u32 (1 + Hm.pickI op 48) f.d f.r f.t f.imm
  have HB1 : Hid (Below w.heap.size w w1) := ((Below.refl _ _).alloc (Nat.le_refl _) _).trans (hb1.mono (by simp))
  clear hf hb1 hl hop hrd hrs1 hrs2 himm
  generalize 1 + Hm.pickI op 48 = O at *
  clear hpb
  go_wp2_with fail
  refine (hEncode _ _ _ _ _ _ ((HT.out.below HB1.out HT.out.1).alloc _)).mono ?_
  rintro e w2 ⟨rfl, hb2⟩
  rw [HE.out]
  have hz2 : w1.heap.size < w2.heap.size := by have := hb2.size; simp at this; omega
  have a0 : w2.cell? ⟨w1.heap.size, 0, none⟩ = some (.int .i64 O) := by rw [bcell hb2 _ _ (by simp)]; simp
  have a1 : w2.cell? ⟨w1.heap.size, 1, none⟩ = some (.int .i64 f.d) := by rw [bcell hb2 _ _ (by simp)]; simp
  have a2 : w2.cell? ⟨w1.heap.size, 2, none⟩ = some (.int .i64 f.r) := by rw [bcell hb2 _ _ (by simp)]; simp
  have a3 : w2.cell? ⟨w1.heap.size, 3, none⟩ = some (.int .i64 f.t) := by rw [bcell hb2 _ _ (by simp)]; simp
  have a4 : w2.cell? ⟨w1.heap.size, 4, none⟩ = some (.int .i64 f.imm) := by rw [bcell hb2 _ _ (by simp)]; simp
  have HB2 : Hid (Below w.heap.size w w2) := (HB1.out.alloc HB1.out.size _).trans (hb2.mono (Nat.le_trans HB1.out.size (by simp)))
  clear hb2
  go_wp2_with fail
  refine (hDecode _ _ (HT.out.below HB2.out HT.out.1) E0 E1).mono ?_
  rintro e w3 ⟨rfl, hb3⟩
  rw [HA.out]
  unfold decVal
  have hz3 : w1.heap.size < w3.heap.size := by have := hb3.size; omega
  have b0 : w3.cell? ⟨w1.heap.size, 0, none⟩ = some (.int .i64 O) := by rw [bcell hb3 _ _ hz2]; exact a0
  have b1 : w3.cell? ⟨w1.heap.size, 1, none⟩ = some (.int .i64 f.d) := by rw [bcell hb3 _ _ hz2]; exact a1
  have b2 : w3.cell? ⟨w1.heap.size, 2, none⟩ = some (.int .i64 f.r) := by rw [bcell hb3 _ _ hz2]; exact a2
  have b3 : w3.cell? ⟨w1.heap.size, 3, none⟩ = some (.int .i64 f.t) := by rw [bcell hb3 _ _ hz2]; exact a3
  have b4 : w3.cell? ⟨w1.heap.size, 4, none⟩ = some (.int .i64 f.imm) := by rw [bcell hb3 _ _ hz2]; exact a4
  have HB3 : Hid (Below w.heap.size w w3) := HB2.out.trans (hb3.mono HB2.out.size)
  have hw3 : w.heap.size ≤ w3.heap.size := HB3.out.size
  clear hb3 a0 a1 a2 a3 a4 hz2 HB2
  go_wp2_with fail
  refine (hLegal _ _ _ _ _ _ ((HT.out.below HB3.out HT.out.1).alloc _)).mono ?_
  rintro e w4 ⟨rfl, hb4⟩
  rw [HL.out]
  have hz4 : w3.heap.size < w4.heap.size := by have := hb4.size; simp at this; omega
  have a0 : w4.cell? ⟨w1.heap.size, 0, none⟩ = some (.int .i64 O) := by rw [bcell hb4 _ _ (by simp; omega)]; simp [World.cell?_alloc_lt, hz3, b0]
  have a1 : w4.cell? ⟨w1.heap.size, 1, none⟩ = some (.int .i64 f.d) := by rw [bcell hb4 _ _ (by simp; omega)]; simp [World.cell?_alloc_lt, hz3, b1]
  have a2 : w4.cell? ⟨w1.heap.size, 2, none⟩ = some (.int .i64 f.r) := by rw [bcell hb4 _ _ (by simp; omega)]; simp [World.cell?_alloc_lt, hz3, b2]
  have a3 : w4.cell? ⟨w1.heap.size, 3, none⟩ = some (.int .i64 f.t) := by rw [bcell hb4 _ _ (by simp; omega)]; simp [World.cell?_alloc_lt, hz3, b3]
  have a4 : w4.cell? ⟨w1.heap.size, 4, none⟩ = some (.int .i64 f.imm) := by rw [bcell hb4 _ _ (by simp; omega)]; simp [World.cell?_alloc_lt, hz3, b4]
  have c0 : w4.cell? ⟨w3.heap.size, 0, none⟩ = some (.int .i64 O) := by rw [bcell hb4 _ _ (by simp)]; simp
  have c1 : w4.cell? ⟨w3.heap.size, 1, none⟩ = some (.int .i64 f.d) := by rw [bcell hb4 _ _ (by simp)]; simp
  have c2 : w4.cell? ⟨w3.heap.size, 2, none⟩ = some (.int .i64 f.r) := by rw [bcell hb4 _ _ (by simp)]; simp
  have c3 : w4.cell? ⟨w3.heap.size, 3, none⟩ = some (.int .i64 f.t) := by rw [bcell hb4 _ _ (by simp)]; simp
  have c4 : w4.cell? ⟨w3.heap.size, 4, none⟩ = some (.int .i64 f.imm) := by rw [bcell hb4 _ _ (by simp)]; simp
  have HB4 : Hid (Below w.heap.size w w4) := (HB3.out.alloc hw3 _).trans (hb4.mono (Nat.le_trans hw3 (by simp)))
  have hw4 : w.heap.size ≤ w4.heap.size := HB4.out.size
  clear hb4 b0 b1 b2 b3 b4
  go_wp2_with fail
  refine (hDecode _ _ (HT.out.below HB4.out HT.out.1) x0 x1).mono ?_
  rintro e w5 ⟨rfl, hb5⟩
  rw [HD.out]
  unfold decVal
  have HB5 : Hid (Below w.heap.size w w5) := HB4.out.trans (hb5.mono hw4)
  have hw5 : w.heap.size ≤ w5.heap.size := HB5.out.size
  clear hb5 a0 a1 a2 a3 a4 c0 c1 c2 c3 c4 hz3 hz4 HB4 HB3
  go_wp2_with fail
  refine (hEncode _ _ _ _ _ _ ((HT.out.below HB5.out HT.out.1).alloc _)).mono ?_
  rintro e w6 ⟨rfl, hb6⟩
  rw [HE2.out]
  have hz6 : w5.heap.size < w6.heap.size := by have := hb6.size; simp at this; omega
  have a0 : w6.cell? ⟨w5.heap.size, 0, none⟩ = some (.int .i64 46) := by rw [bcell hb6 _ _ (by simp)]; simp
  have a1 : w6.cell? ⟨w5.heap.size, 1, none⟩ = some (.int .i64 g.d) := by rw [bcell hb6 _ _ (by simp)]; simp
  have a2 : w6.cell? ⟨w5.heap.size, 2, none⟩ = some (.int .i64 g.r) := by rw [bcell hb6 _ _ (by simp)]; simp
  have a3 : w6.cell? ⟨w5.heap.size, 3, none⟩ = some (.int .i64 g.t) := by rw [bcell hb6 _ _ (by simp)]; simp
  have a4 : w6.cell? ⟨w5.heap.size, 4, none⟩ = some (.int .i64 g.imm) := by rw [bcell hb6 _ _ (by simp)]; simp
  have HB6 : Hid (Below w.heap.size w w6) := (HB5.out.alloc hw5 _).trans (hb6.mono (Nat.le_trans hw5 (by simp)))
  have hw6 : w.heap.size ≤ w6.heap.size := HB6.out.size
  clear hb6
  go_wp2_with fail
  refine (hLegal _ _ _ _ _ _ (HT.out.below HB6.out HT.out.1)).mono ?_
  rintro e w7 ⟨rfl, hb7⟩
  rw [HL2.out]
  have b0 : w7.cell? ⟨w5.heap.size, 0, none⟩ = some (.int .i64 46) := by rw [bcell hb7 _ _ hz6]; exact a0
  have b1 : w7.cell? ⟨w5.heap.size, 1, none⟩ = some (.int .i64 g.d) := by rw [bcell hb7 _ _ hz6]; exact a1
  have b2 : w7.cell? ⟨w5.heap.size, 2, none⟩ = some (.int .i64 g.r) := by rw [bcell hb7 _ _ hz6]; exact a2
  have b3 : w7.cell? ⟨w5.heap.size, 3, none⟩ = some (.int .i64 g.t) := by rw [bcell hb7 _ _ hz6]; exact a3
  have b4 : w7.cell? ⟨w5.heap.size, 4, none⟩ = some (.int .i64 g.imm) := by rw [bcell hb7 _ _ hz6]; exact a4
  have HB7 : Hid (Below w.heap.size w w7) := HB6.out.trans (hb7.mono hw6)
  clear hb7 a0 a1 a2 a3 a4
  go_wp2
  all_goals
    go_ret
    exact ⟨rfl, HB7.out⟩

theorem round_walk (op rd rs1 rs2 imm x : Int) (w : World) (ht : Tab w) (x0 : 0 ≤ x) (x1 : x < 4294967296)
    (hop : I64 op) (hrd : I64 rd) (hrs1 : I64 rs1) (hrs2 : I64 rs2) (himm : I64 imm) :
    Calls Tryd.prog 4 #[.agg #[.int .i64 op, .int .i64 rd, .int .i64 rs1, .int .i64 rs2, .int .i64 imm], .int .u32 x] w fun e w' => e = .returned (.bool true) ∧ Below w.heap.size w w' := by
  rcases Hm.round_b x0 x1 with hd | ⟨he, hl2, hx⟩
  · exact round_none op rd rs1 rs2 imm x w ht x0 x1 hop hrd hrs1 hrs2 himm hd
  · generalize hD : Hm.decC x = D at *
    obtain ⟨Q, g, er⟩ := D
    simp only at he hl2 hx
    subst he
    rcases hx with hx | hx
    · exact round_some op rd rs1 rs2 imm x w ht x0 x1 hop hrd hrs1 hrs2 himm Q g hD hl2 hx
    · subst hx
      exact round_fence op rd rs1 rs2 imm x w ht x0 x1 hop hrd hrs1 hrs2 himm g hD hl2
end Go.Proofs.YtdcmdjeooklmjaaDoor
