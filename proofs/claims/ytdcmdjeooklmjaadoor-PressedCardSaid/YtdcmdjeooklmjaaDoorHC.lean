/-
  RB in one text.
-/
import Derived.Test.YtdcmdjeooklmjaaDoorJY
import Derived.Test.YtdcmdjeooklmjaaDoorHI
import Derived.Test.YtdcmdjeooklmjaaDoorHA
set_option linter.unusedVariables false
set_option linter.unusedSimpArgs false
/-
  The walk of the law Pressed (made by gen_RB.py).
-/
namespace Go.Proofs.YtdcmdjeooklmjaaDoor
open Go.RowKit

theorem known_1 : Hm.expC 32770 = ⟨0, ⟨0, 0, 0, 0⟩, 2⟩ := by kernel_rfl
theorem known_2 : Hm.expC 32898 = ⟨4, ⟨0, 1, 0, 0⟩, 0⟩ := by kernel_rfl
theorem At5.startR (v0 v1 v2 v3 v4 : Int) (W : World) : At5 W.heap.size v0 v1 v2 v3 v4 (W.alloc (.cells #[.int .i64 v0, .int .i64 v1, .int .i64 v2, .int .i64 v3, .int .i64 v4] 37)) where
  lt := by simp
  c0 := by simp
  c1 := by simp
  c2 := by simp
  c3 := by simp
  c4 := by simp
theorem al5R (v0 v1 v2 v3 v4 : Int) (W : World) : Below W.heap.size W (W.alloc (.cells #[.int .i64 v0, .int .i64 v1, .int .i64 v2, .int .i64 v3, .int .i64 v4] 37)) := (Below.refl _ _).alloc (Nat.le_refl _) _

set_option maxRecDepth 100000 in
set_option maxHeartbeats 4000000 in
theorem pressed_ok_none (x op rd rs1 rs2 imm : Int) (w : World) (ht : Tabs w) (x0 : 0 ≤ x) (x1 : x < 65536)
    (hop : I64 op) (hrd : I64 rd) (hrs1 : I64 rs1) (hrs2 : I64 rs2) (himm : I64 imm) (O : Int) (f : Hm.Flds) (hO : O = 1 + Hm.pickI op 48) (hf : f = Hm.instF (1 + Hm.pickI op 48) rd rs1 rs2 imm)
    (Q : Int) (g : Hm.Flds) (q : Int) (hD : Hm.expC x = ⟨Q, g, 0⟩) (hA : Hm.PressA x ⟨Q, g, 0⟩ q)
    (hE : Hm.compCE O f.d f.r f.t f.imm = 4) (hC : Hm.compC O f.d f.r f.t f.imm = 0) :
    Calls Tryd.prog 6 #[.int .u16 x, .agg #[.int .i64 op, .int .i64 rd, .int .i64 rs1, .int .i64 rs2, .int .i64 imm]] w fun e w' => e = .returned (.bool true) ∧ Below w.heap.size w w' := by
  have HT : Hid (Tabs w) := ht
  have HD : Hid _ := hD
  have HE : Hid _ := hE
  have HC : Hid _ := hC
  have HOO : Hid _ := hO
  have HFF : Hid _ := hf
  have HI : Hid (I64 op ∧ I64 rd ∧ I64 rs1 ∧ I64 rs2 ∧ I64 imm) := ⟨hop, hrd, hrs1, hrs2, himm⟩
  have rawx := At5.startR op rd rs1 rs2 imm w
  have raw : Hid _ := rawx
  have hraw0 := al5R op rd rs1 rs2 imm w
  clear ht hD hE hC hO hf hop hrd hrs1 hrs2 himm rawx
  obtain ⟨aL, aE, aC, q0, qle, aB⟩ := hA
  dsimp only at aL aE aC aB
  have HAL : Hid _ := aL
  have HAE : Hid _ := aE
  have HAC : Hid _ := aC
  have HAB : Hid _ := aB
  clear aL aE aC aB
  go_enter Tryd.func6, Tryd.ntmps6
  go_wp2_with fail
  refine (hExpand 32770 _ (HT.out.alloc _) (by decide) (by decide)).mono ?_
  rintro e w1 ⟨rfl, hb⟩
  rw [known_1]
  have rawx := raw.out.step hb (Nat.le_refl _)
  have HBx : Below w.heap.size w w1 := hraw0.trans (hb.mono hraw0.size)
  clear hb raw
  have raw : Hid _ := rawx
  clear rawx
  have HB1 : Hid _ := HBx
  clear HBx
  unfold decVal
  go_wp2_with fail
  refine (hExpand 32898 _ ((HT.out.below HB1.out (Nat.le_refl _)).alloc _) (by decide) (by decide)).mono ?_
  rintro e w2 ⟨rfl, hb⟩
  rw [known_2]
  have rawx := (raw.out.step (al5 (0) (0) (0) (0) (0) w1) (Nat.le_refl _)).step hb (Nat.le_refl _)
  have knx := (At5.start (0) (0) (0) (0) (0) w1).step hb (Nat.le_refl _)
  have HBx : Below w.heap.size w w2 := (HB1.out.trans ((al5 (0) (0) (0) (0) (0) w1).mono HB1.out.size)).trans (hb.mono (Nat.le_trans HB1.out.size (al5 (0) (0) (0) (0) (0) w1).size))
  clear hb raw HB1
  have raw : Hid _ := rawx
  clear rawx
  have kn : Hid _ := knx
  clear knx
  have HB2 : Hid _ := HBx
  clear HBx
  unfold decVal
  obtain ⟨knl, kn0, kn1, kn2, kn3, kn4⟩ := kn.out
  go_wp2_with fail
  refine (hExpand x _ ((HT.out.below HB2.out (Nat.le_refl _)).alloc _) x0 x1).mono ?_
  rintro e w3 ⟨rfl, hb⟩
  rw [HD.out]
  clear knl kn0 kn1 kn2 kn3 kn4
  have rawx := (raw.out.step (al5 (4) (0) (1) (0) (0) w2) (Nat.le_refl _)).step hb (Nat.le_refl _)
  have knx := (kn.out.step (al5 (4) (0) (1) (0) (0) w2) (Nat.le_refl _)).step hb (Nat.le_refl _)
  have rtx := (At5.start (4) (0) (1) (0) (0) w2).step hb (Nat.le_refl _)
  have HBx : Below w.heap.size w w3 := (HB2.out.trans ((al5 (4) (0) (1) (0) (0) w2).mono HB2.out.size)).trans (hb.mono (Nat.le_trans HB2.out.size (al5 (4) (0) (1) (0) (0) w2).size))
  clear hb raw kn HB2
  have raw : Hid _ := rawx
  clear rawx
  have kn : Hid _ := knx
  clear knx
  have rt : Hid _ := rtx
  clear rtx
  have HB3 : Hid _ := HBx
  clear HBx
  unfold decVal
  clear kn rt
  go_wp2_with fail
  refine (hLegal _ _ _ _ _ _ ((HT.out.below HB3.out (Nat.le_refl _)).alloc _).tab).mono ?_
  rintro e w4 ⟨rfl, hb⟩
  rw [HAL.out]
  have rawx := (raw.out.step (al5 (Q) (g.d) (g.r) (g.t) (g.imm) w3) (Nat.le_refl _)).step hb (Nat.le_refl _)
  have iix := (At5.start (Q) (g.d) (g.r) (g.t) (g.imm) w3).step hb (Nat.le_refl _)
  have HBx : Below w.heap.size w w4 := (HB3.out.trans ((al5 (Q) (g.d) (g.r) (g.t) (g.imm) w3).mono HB3.out.size)).trans (hb.mono (Nat.le_trans HB3.out.size (al5 (Q) (g.d) (g.r) (g.t) (g.imm) w3).size))
  clear hb raw HB3
  have raw : Hid _ := rawx
  clear rawx
  have ii : Hid _ := iix
  clear iix
  have HB4 : Hid _ := HBx
  clear HBx
  obtain ⟨iil, ii0, ii1, ii2, ii3, ii4⟩ := ii.out
  go_wp2_with fail
  refine (hCompress _ _ _ _ _ _ (HT.out.below HB4.out (Nat.le_refl _))).mono ?_
  rintro e w5 ⟨rfl, hb⟩
  rw [HAC.out, HAE.out]
  clear iil ii0 ii1 ii2 ii3 ii4
  have rawx := raw.out.step hb (Nat.le_refl _)
  have iix := ii.out.step hb (Nat.le_refl _)
  have HBx : Below w.heap.size w w5 := HB4.out.trans (hb.mono HB4.out.size)
  clear hb raw ii HB4
  have raw : Hid _ := rawx
  clear rawx
  have ii : Hid _ := iix
  clear iix
  have HB5 : Hid _ := HBx
  clear HBx
  go_wp2_with fail
  refine (hExpand q _ (HT.out.below HB5.out (Nat.le_refl _)) q0 (by omega)).mono ?_
  rintro e w6 ⟨rfl, hb⟩
  rw [HAB.out]
  have rawx := raw.out.step hb (Nat.le_refl _)
  have iix := ii.out.step hb (Nat.le_refl _)
  have HBx : Below w.heap.size w w6 := HB5.out.trans (hb.mono HB5.out.size)
  clear hb raw ii HB5
  have raw : Hid _ := rawx
  clear rawx
  have ii : Hid _ := iix
  clear iix
  have HB6 : Hid _ := HBx
  clear HBx
  unfold decVal
  obtain ⟨iil, ii0, ii1, ii2, ii3, ii4⟩ := ii.out
  obtain ⟨rawl, raw0, raw1, raw2, raw3, raw4⟩ := raw.out
  go_wp2_with fail
  refine (inst_any op rd rs1 rs2 imm _ HI.out.1 HI.out.2.1 HI.out.2.2.1 HI.out.2.2.2.1 HI.out.2.2.2.2).mono ?_
  rintro e w7 ⟨f1, hf1, rfl, hb⟩
  clear iil ii0 ii1 ii2 ii3 ii4 rawl raw0 raw1 raw2 raw3 raw4
  have rawx := (raw.out.step (al5 (Q) (g.d) (g.r) (g.t) (g.imm) w6) (Nat.le_refl _)).step hb (Nat.le_refl _)
  have iix := (ii.out.step (al5 (Q) (g.d) (g.r) (g.t) (g.imm) w6) (Nat.le_refl _)).step hb (Nat.le_refl _)
  have jjx := (At5.start (Q) (g.d) (g.r) (g.t) (g.imm) w6).step hb (Nat.le_refl _)
  have HBx : Below w.heap.size w w7 := (HB6.out.trans ((al5 (Q) (g.d) (g.r) (g.t) (g.imm) w6).mono HB6.out.size)).trans (hb.mono (Nat.le_trans HB6.out.size (al5 (Q) (g.d) (g.r) (g.t) (g.imm) w6).size))
  clear hb raw ii HB6
  have raw : Hid _ := rawx
  clear rawx
  have ii : Hid _ := iix
  clear iix
  have jj : Hid _ := jjx
  clear jjx
  have HB7 : Hid _ := HBx
  clear HBx
  obtain rfl : f1 = f := hf1.trans HFF.out.symm
  rw [← HOO.out]
  clear hf1
  clear raw
  clear ii
  clear jj
  go_wp2_with fail
  refine (hCompress _ _ _ _ _ _ ((HT.out.below HB7.out (Nat.le_refl _)).alloc _)).mono ?_
  rintro e w8 ⟨rfl, hb⟩
  rw [HC.out, HE.out]
  have aax := (At5.start (O) (f1.d) (f1.r) (f1.t) (f1.imm) w7).step hb (Nat.le_refl _)
  have HBx : Below w.heap.size w w8 := (HB7.out.trans ((al5 (O) (f1.d) (f1.r) (f1.t) (f1.imm) w7).mono HB7.out.size)).trans (hb.mono (Nat.le_trans HB7.out.size (al5 (O) (f1.d) (f1.r) (f1.t) (f1.imm) w7).size))
  clear hb HB7
  have aa : Hid _ := aax
  clear aax
  have HB8 : Hid _ := HBx
  clear HBx
  go_wp2
  go_ret
  exact ⟨rfl, HB8.out⟩

set_option maxRecDepth 100000 in
set_option maxHeartbeats 4000000 in
theorem pressed_ok_some (x op rd rs1 rs2 imm : Int) (w : World) (ht : Tabs w) (x0 : 0 ≤ x) (x1 : x < 65536)
    (hop : I64 op) (hrd : I64 rd) (hrs1 : I64 rs1) (hrs2 : I64 rs2) (himm : I64 imm) (O : Int) (f : Hm.Flds) (hO : O = 1 + Hm.pickI op 48) (hf : f = Hm.instF (1 + Hm.pickI op 48) rd rs1 rs2 imm)
    (Q : Int) (g : Hm.Flds) (q : Int) (hD : Hm.expC x = ⟨Q, g, 0⟩) (hA : Hm.PressA x ⟨Q, g, 0⟩ q)
    (c : Int) (hE : Hm.compCE O f.d f.r f.t f.imm = 0) (hC : Hm.compC O f.d f.r f.t f.imm = c) (c0 : 0 ≤ c) (c1 : c < 65536) (hc : Hm.expC c = ⟨O, f, 0⟩) :
    Calls Tryd.prog 6 #[.int .u16 x, .agg #[.int .i64 op, .int .i64 rd, .int .i64 rs1, .int .i64 rs2, .int .i64 imm]] w fun e w' => e = .returned (.bool true) ∧ Below w.heap.size w w' := by
  have HT : Hid (Tabs w) := ht
  have HD : Hid _ := hD
  have HE : Hid _ := hE
  have HC : Hid _ := hC
  have HOO : Hid _ := hO
  have HFF : Hid _ := hf
  have HI : Hid (I64 op ∧ I64 rd ∧ I64 rs1 ∧ I64 rs2 ∧ I64 imm) := ⟨hop, hrd, hrs1, hrs2, himm⟩
  have rawx := At5.startR op rd rs1 rs2 imm w
  have raw : Hid _ := rawx
  have hraw0 := al5R op rd rs1 rs2 imm w
  clear ht hD hE hC hO hf hop hrd hrs1 hrs2 himm rawx
  obtain ⟨aL, aE, aC, q0, qle, aB⟩ := hA
  dsimp only at aL aE aC aB
  have HAL : Hid _ := aL
  have HAE : Hid _ := aE
  have HAC : Hid _ := aC
  have HAB : Hid _ := aB
  clear aL aE aC aB
  have HCB : Hid _ := hc
  clear hc
  go_enter Tryd.func6, Tryd.ntmps6
  go_wp2_with fail
  refine (hExpand 32770 _ (HT.out.alloc _) (by decide) (by decide)).mono ?_
  rintro e w1 ⟨rfl, hb⟩
  rw [known_1]
  have rawx := raw.out.step hb (Nat.le_refl _)
  have HBx : Below w.heap.size w w1 := hraw0.trans (hb.mono hraw0.size)
  clear hb raw
  have raw : Hid _ := rawx
  clear rawx
  have HB1 : Hid _ := HBx
  clear HBx
  unfold decVal
  go_wp2_with fail
  refine (hExpand 32898 _ ((HT.out.below HB1.out (Nat.le_refl _)).alloc _) (by decide) (by decide)).mono ?_
  rintro e w2 ⟨rfl, hb⟩
  rw [known_2]
  have rawx := (raw.out.step (al5 (0) (0) (0) (0) (0) w1) (Nat.le_refl _)).step hb (Nat.le_refl _)
  have knx := (At5.start (0) (0) (0) (0) (0) w1).step hb (Nat.le_refl _)
  have HBx : Below w.heap.size w w2 := (HB1.out.trans ((al5 (0) (0) (0) (0) (0) w1).mono HB1.out.size)).trans (hb.mono (Nat.le_trans HB1.out.size (al5 (0) (0) (0) (0) (0) w1).size))
  clear hb raw HB1
  have raw : Hid _ := rawx
  clear rawx
  have kn : Hid _ := knx
  clear knx
  have HB2 : Hid _ := HBx
  clear HBx
  unfold decVal
  obtain ⟨knl, kn0, kn1, kn2, kn3, kn4⟩ := kn.out
  go_wp2_with fail
  refine (hExpand x _ ((HT.out.below HB2.out (Nat.le_refl _)).alloc _) x0 x1).mono ?_
  rintro e w3 ⟨rfl, hb⟩
  rw [HD.out]
  clear knl kn0 kn1 kn2 kn3 kn4
  have rawx := (raw.out.step (al5 (4) (0) (1) (0) (0) w2) (Nat.le_refl _)).step hb (Nat.le_refl _)
  have knx := (kn.out.step (al5 (4) (0) (1) (0) (0) w2) (Nat.le_refl _)).step hb (Nat.le_refl _)
  have rtx := (At5.start (4) (0) (1) (0) (0) w2).step hb (Nat.le_refl _)
  have HBx : Below w.heap.size w w3 := (HB2.out.trans ((al5 (4) (0) (1) (0) (0) w2).mono HB2.out.size)).trans (hb.mono (Nat.le_trans HB2.out.size (al5 (4) (0) (1) (0) (0) w2).size))
  clear hb raw kn HB2
  have raw : Hid _ := rawx
  clear rawx
  have kn : Hid _ := knx
  clear knx
  have rt : Hid _ := rtx
  clear rtx
  have HB3 : Hid _ := HBx
  clear HBx
  unfold decVal
  clear kn rt
  go_wp2_with fail
  refine (hLegal _ _ _ _ _ _ ((HT.out.below HB3.out (Nat.le_refl _)).alloc _).tab).mono ?_
  rintro e w4 ⟨rfl, hb⟩
  rw [HAL.out]
  have rawx := (raw.out.step (al5 (Q) (g.d) (g.r) (g.t) (g.imm) w3) (Nat.le_refl _)).step hb (Nat.le_refl _)
  have iix := (At5.start (Q) (g.d) (g.r) (g.t) (g.imm) w3).step hb (Nat.le_refl _)
  have HBx : Below w.heap.size w w4 := (HB3.out.trans ((al5 (Q) (g.d) (g.r) (g.t) (g.imm) w3).mono HB3.out.size)).trans (hb.mono (Nat.le_trans HB3.out.size (al5 (Q) (g.d) (g.r) (g.t) (g.imm) w3).size))
  clear hb raw HB3
  have raw : Hid _ := rawx
  clear rawx
  have ii : Hid _ := iix
  clear iix
  have HB4 : Hid _ := HBx
  clear HBx
  obtain ⟨iil, ii0, ii1, ii2, ii3, ii4⟩ := ii.out
  go_wp2_with fail
  refine (hCompress _ _ _ _ _ _ (HT.out.below HB4.out (Nat.le_refl _))).mono ?_
  rintro e w5 ⟨rfl, hb⟩
  rw [HAC.out, HAE.out]
  clear iil ii0 ii1 ii2 ii3 ii4
  have rawx := raw.out.step hb (Nat.le_refl _)
  have iix := ii.out.step hb (Nat.le_refl _)
  have HBx : Below w.heap.size w w5 := HB4.out.trans (hb.mono HB4.out.size)
  clear hb raw ii HB4
  have raw : Hid _ := rawx
  clear rawx
  have ii : Hid _ := iix
  clear iix
  have HB5 : Hid _ := HBx
  clear HBx
  go_wp2_with fail
  refine (hExpand q _ (HT.out.below HB5.out (Nat.le_refl _)) q0 (by omega)).mono ?_
  rintro e w6 ⟨rfl, hb⟩
  rw [HAB.out]
  have rawx := raw.out.step hb (Nat.le_refl _)
  have iix := ii.out.step hb (Nat.le_refl _)
  have HBx : Below w.heap.size w w6 := HB5.out.trans (hb.mono HB5.out.size)
  clear hb raw ii HB5
  have raw : Hid _ := rawx
  clear rawx
  have ii : Hid _ := iix
  clear iix
  have HB6 : Hid _ := HBx
  clear HBx
  unfold decVal
  obtain ⟨iil, ii0, ii1, ii2, ii3, ii4⟩ := ii.out
  obtain ⟨rawl, raw0, raw1, raw2, raw3, raw4⟩ := raw.out
  go_wp2_with fail
  refine (inst_any op rd rs1 rs2 imm _ HI.out.1 HI.out.2.1 HI.out.2.2.1 HI.out.2.2.2.1 HI.out.2.2.2.2).mono ?_
  rintro e w7 ⟨f1, hf1, rfl, hb⟩
  clear iil ii0 ii1 ii2 ii3 ii4 rawl raw0 raw1 raw2 raw3 raw4
  have rawx := (raw.out.step (al5 (Q) (g.d) (g.r) (g.t) (g.imm) w6) (Nat.le_refl _)).step hb (Nat.le_refl _)
  have iix := (ii.out.step (al5 (Q) (g.d) (g.r) (g.t) (g.imm) w6) (Nat.le_refl _)).step hb (Nat.le_refl _)
  have jjx := (At5.start (Q) (g.d) (g.r) (g.t) (g.imm) w6).step hb (Nat.le_refl _)
  have HBx : Below w.heap.size w w7 := (HB6.out.trans ((al5 (Q) (g.d) (g.r) (g.t) (g.imm) w6).mono HB6.out.size)).trans (hb.mono (Nat.le_trans HB6.out.size (al5 (Q) (g.d) (g.r) (g.t) (g.imm) w6).size))
  clear hb raw ii HB6
  have raw : Hid _ := rawx
  clear rawx
  have ii : Hid _ := iix
  clear iix
  have jj : Hid _ := jjx
  clear jjx
  have HB7 : Hid _ := HBx
  clear HBx
  obtain rfl : f1 = f := hf1.trans HFF.out.symm
  rw [← HOO.out]
  clear hf1
  clear raw
  clear ii
  clear jj
  go_wp2_with fail
  refine (hCompress _ _ _ _ _ _ ((HT.out.below HB7.out (Nat.le_refl _)).alloc _)).mono ?_
  rintro e w8 ⟨rfl, hb⟩
  rw [HC.out, HE.out]
  have aax := (At5.start (O) (f1.d) (f1.r) (f1.t) (f1.imm) w7).step hb (Nat.le_refl _)
  have HBx : Below w.heap.size w w8 := (HB7.out.trans ((al5 (O) (f1.d) (f1.r) (f1.t) (f1.imm) w7).mono HB7.out.size)).trans (hb.mono (Nat.le_trans HB7.out.size (al5 (O) (f1.d) (f1.r) (f1.t) (f1.imm) w7).size))
  clear hb HB7
  have aa : Hid _ := aax
  clear aax
  have HB8 : Hid _ := HBx
  clear HBx
  go_wp2_with fail
  refine (hExpand c _ (HT.out.below HB8.out (Nat.le_refl _)) c0 c1).mono ?_
  rintro e w9 ⟨rfl, hb⟩
  rw [HCB.out]
  have aax := aa.out.step hb (Nat.le_refl _)
  have HBx : Below w.heap.size w w9 := HB8.out.trans (hb.mono HB8.out.size)
  clear hb aa HB8
  have aa : Hid _ := aax
  clear aax
  have HB9 : Hid _ := HBx
  clear HBx
  unfold decVal
  obtain ⟨aal, aa0, aa1, aa2, aa3, aa4⟩ := aa.out
  go_wp2
  go_ret
  exact ⟨rfl, HB9.out.trans ((al5 O f1.d f1.r f1.t f1.imm w9).mono HB9.out.size)⟩

set_option maxRecDepth 100000 in
set_option maxHeartbeats 4000000 in
theorem pressed_wide_none (x op rd rs1 rs2 imm : Int) (w : World) (ht : Tabs w) (x0 : 0 ≤ x) (x1 : x < 65536)
    (hop : I64 op) (hrd : I64 rd) (hrs1 : I64 rs1) (hrs2 : I64 rs2) (himm : I64 imm) (O : Int) (f : Hm.Flds) (hO : O = 1 + Hm.pickI op 48) (hf : f = Hm.instF (1 + Hm.pickI op 48) rd rs1 rs2 imm)
    (hD : Hm.expC x = ⟨0, ⟨0, 0, 0, 0⟩, 3⟩) (hm : x % 4 = 3)
    (hE : Hm.compCE O f.d f.r f.t f.imm = 4) (hC : Hm.compC O f.d f.r f.t f.imm = 0) :
    Calls Tryd.prog 6 #[.int .u16 x, .agg #[.int .i64 op, .int .i64 rd, .int .i64 rs1, .int .i64 rs2, .int .i64 imm]] w fun e w' => e = .returned (.bool true) ∧ Below w.heap.size w w' := by
  have HT : Hid (Tabs w) := ht
  have HD : Hid _ := hD
  have HE : Hid _ := hE
  have HC : Hid _ := hC
  have HOO : Hid _ := hO
  have HFF : Hid _ := hf
  have HI : Hid (I64 op ∧ I64 rd ∧ I64 rs1 ∧ I64 rs2 ∧ I64 imm) := ⟨hop, hrd, hrs1, hrs2, himm⟩
  have rawx := At5.startR op rd rs1 rs2 imm w
  have raw : Hid _ := rawx
  have hraw0 := al5R op rd rs1 rs2 imm w
  clear ht hD hE hC hO hf hop hrd hrs1 hrs2 himm rawx
  go_enter Tryd.func6, Tryd.ntmps6
  go_wp2_with fail
  refine (hExpand 32770 _ (HT.out.alloc _) (by decide) (by decide)).mono ?_
  rintro e w1 ⟨rfl, hb⟩
  rw [known_1]
  have rawx := raw.out.step hb (Nat.le_refl _)
  have HBx : Below w.heap.size w w1 := hraw0.trans (hb.mono hraw0.size)
  clear hb raw
  have raw : Hid _ := rawx
  clear rawx
  have HB1 : Hid _ := HBx
  clear HBx
  unfold decVal
  go_wp2_with fail
  refine (hExpand 32898 _ ((HT.out.below HB1.out (Nat.le_refl _)).alloc _) (by decide) (by decide)).mono ?_
  rintro e w2 ⟨rfl, hb⟩
  rw [known_2]
  have rawx := (raw.out.step (al5 (0) (0) (0) (0) (0) w1) (Nat.le_refl _)).step hb (Nat.le_refl _)
  have knx := (At5.start (0) (0) (0) (0) (0) w1).step hb (Nat.le_refl _)
  have HBx : Below w.heap.size w w2 := (HB1.out.trans ((al5 (0) (0) (0) (0) (0) w1).mono HB1.out.size)).trans (hb.mono (Nat.le_trans HB1.out.size (al5 (0) (0) (0) (0) (0) w1).size))
  clear hb raw HB1
  have raw : Hid _ := rawx
  clear rawx
  have kn : Hid _ := knx
  clear knx
  have HB2 : Hid _ := HBx
  clear HBx
  unfold decVal
  obtain ⟨knl, kn0, kn1, kn2, kn3, kn4⟩ := kn.out
  go_wp2_with fail
  refine (hExpand x _ ((HT.out.below HB2.out (Nat.le_refl _)).alloc _) x0 x1).mono ?_
  rintro e w3 ⟨rfl, hb⟩
  rw [HD.out]
  clear knl kn0 kn1 kn2 kn3 kn4
  have rawx := (raw.out.step (al5 (4) (0) (1) (0) (0) w2) (Nat.le_refl _)).step hb (Nat.le_refl _)
  have knx := (kn.out.step (al5 (4) (0) (1) (0) (0) w2) (Nat.le_refl _)).step hb (Nat.le_refl _)
  have rtx := (At5.start (4) (0) (1) (0) (0) w2).step hb (Nat.le_refl _)
  have HBx : Below w.heap.size w w3 := (HB2.out.trans ((al5 (4) (0) (1) (0) (0) w2).mono HB2.out.size)).trans (hb.mono (Nat.le_trans HB2.out.size (al5 (4) (0) (1) (0) (0) w2).size))
  clear hb raw kn HB2
  have raw : Hid _ := rawx
  clear rawx
  have kn : Hid _ := knx
  clear knx
  have rt : Hid _ := rtx
  clear rtx
  have HB3 : Hid _ := HBx
  clear HBx
  unfold decVal
  clear kn rt
  obtain ⟨rawl, raw0, raw1, raw2, raw3, raw4⟩ := raw.out
  go_wp2_with fail
  refine (inst_any op rd rs1 rs2 imm _ HI.out.1 HI.out.2.1 HI.out.2.2.1 HI.out.2.2.2.1 HI.out.2.2.2.2).mono ?_
  rintro e w4 ⟨f1, hf1, rfl, hb⟩
  clear rawl raw0 raw1 raw2 raw3 raw4
  have rawx := (raw.out.step (al5 (0) (0) (0) (0) (0) w3) (Nat.le_refl _)).step hb (Nat.le_refl _)
  have iix := (At5.start (0) (0) (0) (0) (0) w3).step hb (Nat.le_refl _)
  have HBx : Below w.heap.size w w4 := (HB3.out.trans ((al5 (0) (0) (0) (0) (0) w3).mono HB3.out.size)).trans (hb.mono (Nat.le_trans HB3.out.size (al5 (0) (0) (0) (0) (0) w3).size))
  clear hb raw HB3
  have raw : Hid _ := rawx
  clear rawx
  have ii : Hid _ := iix
  clear iix
  have HB4 : Hid _ := HBx
  clear HBx
  obtain rfl : f1 = f := hf1.trans HFF.out.symm
  rw [← HOO.out]
  clear hf1
  clear raw
  clear ii
  go_wp2_with fail
  refine (hCompress _ _ _ _ _ _ ((HT.out.below HB4.out (Nat.le_refl _)).alloc _)).mono ?_
  rintro e w5 ⟨rfl, hb⟩
  rw [HC.out, HE.out]
  have aax := (At5.start (O) (f1.d) (f1.r) (f1.t) (f1.imm) w4).step hb (Nat.le_refl _)
  have HBx : Below w.heap.size w w5 := (HB4.out.trans ((al5 (O) (f1.d) (f1.r) (f1.t) (f1.imm) w4).mono HB4.out.size)).trans (hb.mono (Nat.le_trans HB4.out.size (al5 (O) (f1.d) (f1.r) (f1.t) (f1.imm) w4).size))
  clear hb HB4
  have aa : Hid _ := aax
  clear aax
  have HB5 : Hid _ := HBx
  clear HBx
  go_wp2
  go_ret
  exact ⟨rfl, HB5.out⟩

set_option maxRecDepth 100000 in
set_option maxHeartbeats 4000000 in
theorem pressed_wide_some (x op rd rs1 rs2 imm : Int) (w : World) (ht : Tabs w) (x0 : 0 ≤ x) (x1 : x < 65536)
    (hop : I64 op) (hrd : I64 rd) (hrs1 : I64 rs1) (hrs2 : I64 rs2) (himm : I64 imm) (O : Int) (f : Hm.Flds) (hO : O = 1 + Hm.pickI op 48) (hf : f = Hm.instF (1 + Hm.pickI op 48) rd rs1 rs2 imm)
    (hD : Hm.expC x = ⟨0, ⟨0, 0, 0, 0⟩, 3⟩) (hm : x % 4 = 3)
    (c : Int) (hE : Hm.compCE O f.d f.r f.t f.imm = 0) (hC : Hm.compC O f.d f.r f.t f.imm = c) (c0 : 0 ≤ c) (c1 : c < 65536) (hc : Hm.expC c = ⟨O, f, 0⟩) :
    Calls Tryd.prog 6 #[.int .u16 x, .agg #[.int .i64 op, .int .i64 rd, .int .i64 rs1, .int .i64 rs2, .int .i64 imm]] w fun e w' => e = .returned (.bool true) ∧ Below w.heap.size w w' := by
  have HT : Hid (Tabs w) := ht
  have HD : Hid _ := hD
  have HE : Hid _ := hE
  have HC : Hid _ := hC
  have HOO : Hid _ := hO
  have HFF : Hid _ := hf
  have HI : Hid (I64 op ∧ I64 rd ∧ I64 rs1 ∧ I64 rs2 ∧ I64 imm) := ⟨hop, hrd, hrs1, hrs2, himm⟩
  have rawx := At5.startR op rd rs1 rs2 imm w
  have raw : Hid _ := rawx
  have hraw0 := al5R op rd rs1 rs2 imm w
  clear ht hD hE hC hO hf hop hrd hrs1 hrs2 himm rawx
  have HCB : Hid _ := hc
  clear hc
  go_enter Tryd.func6, Tryd.ntmps6
  go_wp2_with fail
  refine (hExpand 32770 _ (HT.out.alloc _) (by decide) (by decide)).mono ?_
  rintro e w1 ⟨rfl, hb⟩
  rw [known_1]
  have rawx := raw.out.step hb (Nat.le_refl _)
  have HBx : Below w.heap.size w w1 := hraw0.trans (hb.mono hraw0.size)
  clear hb raw
  have raw : Hid _ := rawx
  clear rawx
  have HB1 : Hid _ := HBx
  clear HBx
  unfold decVal
  go_wp2_with fail
  refine (hExpand 32898 _ ((HT.out.below HB1.out (Nat.le_refl _)).alloc _) (by decide) (by decide)).mono ?_
  rintro e w2 ⟨rfl, hb⟩
  rw [known_2]
  have rawx := (raw.out.step (al5 (0) (0) (0) (0) (0) w1) (Nat.le_refl _)).step hb (Nat.le_refl _)
  have knx := (At5.start (0) (0) (0) (0) (0) w1).step hb (Nat.le_refl _)
  have HBx : Below w.heap.size w w2 := (HB1.out.trans ((al5 (0) (0) (0) (0) (0) w1).mono HB1.out.size)).trans (hb.mono (Nat.le_trans HB1.out.size (al5 (0) (0) (0) (0) (0) w1).size))
  clear hb raw HB1
  have raw : Hid _ := rawx
  clear rawx
  have kn : Hid _ := knx
  clear knx
  have HB2 : Hid _ := HBx
  clear HBx
  unfold decVal
  obtain ⟨knl, kn0, kn1, kn2, kn3, kn4⟩ := kn.out
  go_wp2_with fail
  refine (hExpand x _ ((HT.out.below HB2.out (Nat.le_refl _)).alloc _) x0 x1).mono ?_
  rintro e w3 ⟨rfl, hb⟩
  rw [HD.out]
  clear knl kn0 kn1 kn2 kn3 kn4
  have rawx := (raw.out.step (al5 (4) (0) (1) (0) (0) w2) (Nat.le_refl _)).step hb (Nat.le_refl _)
  have knx := (kn.out.step (al5 (4) (0) (1) (0) (0) w2) (Nat.le_refl _)).step hb (Nat.le_refl _)
  have rtx := (At5.start (4) (0) (1) (0) (0) w2).step hb (Nat.le_refl _)
  have HBx : Below w.heap.size w w3 := (HB2.out.trans ((al5 (4) (0) (1) (0) (0) w2).mono HB2.out.size)).trans (hb.mono (Nat.le_trans HB2.out.size (al5 (4) (0) (1) (0) (0) w2).size))
  clear hb raw kn HB2
  have raw : Hid _ := rawx
  clear rawx
  have kn : Hid _ := knx
  clear knx
  have rt : Hid _ := rtx
  clear rtx
  have HB3 : Hid _ := HBx
  clear HBx
  unfold decVal
  clear kn rt
  obtain ⟨rawl, raw0, raw1, raw2, raw3, raw4⟩ := raw.out
  go_wp2_with fail
  refine (inst_any op rd rs1 rs2 imm _ HI.out.1 HI.out.2.1 HI.out.2.2.1 HI.out.2.2.2.1 HI.out.2.2.2.2).mono ?_
  rintro e w4 ⟨f1, hf1, rfl, hb⟩
  clear rawl raw0 raw1 raw2 raw3 raw4
  have rawx := (raw.out.step (al5 (0) (0) (0) (0) (0) w3) (Nat.le_refl _)).step hb (Nat.le_refl _)
  have iix := (At5.start (0) (0) (0) (0) (0) w3).step hb (Nat.le_refl _)
  have HBx : Below w.heap.size w w4 := (HB3.out.trans ((al5 (0) (0) (0) (0) (0) w3).mono HB3.out.size)).trans (hb.mono (Nat.le_trans HB3.out.size (al5 (0) (0) (0) (0) (0) w3).size))
  clear hb raw HB3
  have raw : Hid _ := rawx
  clear rawx
  have ii : Hid _ := iix
  clear iix
  have HB4 : Hid _ := HBx
  clear HBx
  obtain rfl : f1 = f := hf1.trans HFF.out.symm
  rw [← HOO.out]
  clear hf1
  clear raw
  clear ii
  go_wp2_with fail
  refine (hCompress _ _ _ _ _ _ ((HT.out.below HB4.out (Nat.le_refl _)).alloc _)).mono ?_
  rintro e w5 ⟨rfl, hb⟩
  rw [HC.out, HE.out]
  have aax := (At5.start (O) (f1.d) (f1.r) (f1.t) (f1.imm) w4).step hb (Nat.le_refl _)
  have HBx : Below w.heap.size w w5 := (HB4.out.trans ((al5 (O) (f1.d) (f1.r) (f1.t) (f1.imm) w4).mono HB4.out.size)).trans (hb.mono (Nat.le_trans HB4.out.size (al5 (O) (f1.d) (f1.r) (f1.t) (f1.imm) w4).size))
  clear hb HB4
  have aa : Hid _ := aax
  clear aax
  have HB5 : Hid _ := HBx
  clear HBx
  go_wp2_with fail
  refine (hExpand c _ (HT.out.below HB5.out (Nat.le_refl _)) c0 c1).mono ?_
  rintro e w6 ⟨rfl, hb⟩
  rw [HCB.out]
  have aax := aa.out.step hb (Nat.le_refl _)
  have HBx : Below w.heap.size w w6 := HB5.out.trans (hb.mono HB5.out.size)
  clear hb aa HB5
  have aa : Hid _ := aax
  clear aax
  have HB6 : Hid _ := HBx
  clear HBx
  unfold decVal
  obtain ⟨aal, aa0, aa1, aa2, aa3, aa4⟩ := aa.out
  go_wp2
  go_ret
  exact ⟨rfl, HB6.out.trans ((al5 O f1.d f1.r f1.t f1.imm w6).mono HB6.out.size)⟩

set_option maxRecDepth 100000 in
set_option maxHeartbeats 4000000 in
theorem pressed_bad_none (x op rd rs1 rs2 imm : Int) (w : World) (ht : Tabs w) (x0 : 0 ≤ x) (x1 : x < 65536)
    (hop : I64 op) (hrd : I64 rd) (hrs1 : I64 rs1) (hrs2 : I64 rs2) (himm : I64 imm) (O : Int) (f : Hm.Flds) (hO : O = 1 + Hm.pickI op 48) (hf : f = Hm.instF (1 + Hm.pickI op 48) rd rs1 rs2 imm)
    (hD : Hm.expC x = ⟨0, ⟨0, 0, 0, 0⟩, 2⟩) (hm : ¬ x % 4 = 3)
    (hE : Hm.compCE O f.d f.r f.t f.imm = 4) (hC : Hm.compC O f.d f.r f.t f.imm = 0) :
    Calls Tryd.prog 6 #[.int .u16 x, .agg #[.int .i64 op, .int .i64 rd, .int .i64 rs1, .int .i64 rs2, .int .i64 imm]] w fun e w' => e = .returned (.bool true) ∧ Below w.heap.size w w' := by
  have HT : Hid (Tabs w) := ht
  have HD : Hid _ := hD
  have HE : Hid _ := hE
  have HC : Hid _ := hC
  have HOO : Hid _ := hO
  have HFF : Hid _ := hf
  have HI : Hid (I64 op ∧ I64 rd ∧ I64 rs1 ∧ I64 rs2 ∧ I64 imm) := ⟨hop, hrd, hrs1, hrs2, himm⟩
  have rawx := At5.startR op rd rs1 rs2 imm w
  have raw : Hid _ := rawx
  have hraw0 := al5R op rd rs1 rs2 imm w
  clear ht hD hE hC hO hf hop hrd hrs1 hrs2 himm rawx
  go_enter Tryd.func6, Tryd.ntmps6
  go_wp2_with fail
  refine (hExpand 32770 _ (HT.out.alloc _) (by decide) (by decide)).mono ?_
  rintro e w1 ⟨rfl, hb⟩
  rw [known_1]
  have rawx := raw.out.step hb (Nat.le_refl _)
  have HBx : Below w.heap.size w w1 := hraw0.trans (hb.mono hraw0.size)
  clear hb raw
  have raw : Hid _ := rawx
  clear rawx
  have HB1 : Hid _ := HBx
  clear HBx
  unfold decVal
  go_wp2_with fail
  refine (hExpand 32898 _ ((HT.out.below HB1.out (Nat.le_refl _)).alloc _) (by decide) (by decide)).mono ?_
  rintro e w2 ⟨rfl, hb⟩
  rw [known_2]
  have rawx := (raw.out.step (al5 (0) (0) (0) (0) (0) w1) (Nat.le_refl _)).step hb (Nat.le_refl _)
  have knx := (At5.start (0) (0) (0) (0) (0) w1).step hb (Nat.le_refl _)
  have HBx : Below w.heap.size w w2 := (HB1.out.trans ((al5 (0) (0) (0) (0) (0) w1).mono HB1.out.size)).trans (hb.mono (Nat.le_trans HB1.out.size (al5 (0) (0) (0) (0) (0) w1).size))
  clear hb raw HB1
  have raw : Hid _ := rawx
  clear rawx
  have kn : Hid _ := knx
  clear knx
  have HB2 : Hid _ := HBx
  clear HBx
  unfold decVal
  obtain ⟨knl, kn0, kn1, kn2, kn3, kn4⟩ := kn.out
  go_wp2_with fail
  refine (hExpand x _ ((HT.out.below HB2.out (Nat.le_refl _)).alloc _) x0 x1).mono ?_
  rintro e w3 ⟨rfl, hb⟩
  rw [HD.out]
  clear knl kn0 kn1 kn2 kn3 kn4
  have rawx := (raw.out.step (al5 (4) (0) (1) (0) (0) w2) (Nat.le_refl _)).step hb (Nat.le_refl _)
  have knx := (kn.out.step (al5 (4) (0) (1) (0) (0) w2) (Nat.le_refl _)).step hb (Nat.le_refl _)
  have rtx := (At5.start (4) (0) (1) (0) (0) w2).step hb (Nat.le_refl _)
  have HBx : Below w.heap.size w w3 := (HB2.out.trans ((al5 (4) (0) (1) (0) (0) w2).mono HB2.out.size)).trans (hb.mono (Nat.le_trans HB2.out.size (al5 (4) (0) (1) (0) (0) w2).size))
  clear hb raw kn HB2
  have raw : Hid _ := rawx
  clear rawx
  have kn : Hid _ := knx
  clear knx
  have rt : Hid _ := rtx
  clear rtx
  have HB3 : Hid _ := HBx
  clear HBx
  unfold decVal
  clear kn rt
  obtain ⟨rawl, raw0, raw1, raw2, raw3, raw4⟩ := raw.out
  go_wp2_with fail
  refine (inst_any op rd rs1 rs2 imm _ HI.out.1 HI.out.2.1 HI.out.2.2.1 HI.out.2.2.2.1 HI.out.2.2.2.2).mono ?_
  rintro e w4 ⟨f1, hf1, rfl, hb⟩
  clear rawl raw0 raw1 raw2 raw3 raw4
  have rawx := (raw.out.step (al5 (0) (0) (0) (0) (0) w3) (Nat.le_refl _)).step hb (Nat.le_refl _)
  have iix := (At5.start (0) (0) (0) (0) (0) w3).step hb (Nat.le_refl _)
  have HBx : Below w.heap.size w w4 := (HB3.out.trans ((al5 (0) (0) (0) (0) (0) w3).mono HB3.out.size)).trans (hb.mono (Nat.le_trans HB3.out.size (al5 (0) (0) (0) (0) (0) w3).size))
  clear hb raw HB3
  have raw : Hid _ := rawx
  clear rawx
  have ii : Hid _ := iix
  clear iix
  have HB4 : Hid _ := HBx
  clear HBx
  obtain rfl : f1 = f := hf1.trans HFF.out.symm
  rw [← HOO.out]
  clear hf1
  clear raw
  clear ii
  go_wp2_with fail
  refine (hCompress _ _ _ _ _ _ ((HT.out.below HB4.out (Nat.le_refl _)).alloc _)).mono ?_
  rintro e w5 ⟨rfl, hb⟩
  rw [HC.out, HE.out]
  have aax := (At5.start (O) (f1.d) (f1.r) (f1.t) (f1.imm) w4).step hb (Nat.le_refl _)
  have HBx : Below w.heap.size w w5 := (HB4.out.trans ((al5 (O) (f1.d) (f1.r) (f1.t) (f1.imm) w4).mono HB4.out.size)).trans (hb.mono (Nat.le_trans HB4.out.size (al5 (O) (f1.d) (f1.r) (f1.t) (f1.imm) w4).size))
  clear hb HB4
  have aa : Hid _ := aax
  clear aax
  have HB5 : Hid _ := HBx
  clear HBx
  go_wp2
  go_ret
  exact ⟨rfl, HB5.out⟩

set_option maxRecDepth 100000 in
set_option maxHeartbeats 4000000 in
theorem pressed_bad_some (x op rd rs1 rs2 imm : Int) (w : World) (ht : Tabs w) (x0 : 0 ≤ x) (x1 : x < 65536)
    (hop : I64 op) (hrd : I64 rd) (hrs1 : I64 rs1) (hrs2 : I64 rs2) (himm : I64 imm) (O : Int) (f : Hm.Flds) (hO : O = 1 + Hm.pickI op 48) (hf : f = Hm.instF (1 + Hm.pickI op 48) rd rs1 rs2 imm)
    (hD : Hm.expC x = ⟨0, ⟨0, 0, 0, 0⟩, 2⟩) (hm : ¬ x % 4 = 3)
    (c : Int) (hE : Hm.compCE O f.d f.r f.t f.imm = 0) (hC : Hm.compC O f.d f.r f.t f.imm = c) (c0 : 0 ≤ c) (c1 : c < 65536) (hc : Hm.expC c = ⟨O, f, 0⟩) :
    Calls Tryd.prog 6 #[.int .u16 x, .agg #[.int .i64 op, .int .i64 rd, .int .i64 rs1, .int .i64 rs2, .int .i64 imm]] w fun e w' => e = .returned (.bool true) ∧ Below w.heap.size w w' := by
  have HT : Hid (Tabs w) := ht
  have HD : Hid _ := hD
  have HE : Hid _ := hE
  have HC : Hid _ := hC
  have HOO : Hid _ := hO
  have HFF : Hid _ := hf
  have HI : Hid (I64 op ∧ I64 rd ∧ I64 rs1 ∧ I64 rs2 ∧ I64 imm) := ⟨hop, hrd, hrs1, hrs2, himm⟩
  have rawx := At5.startR op rd rs1 rs2 imm w
  have raw : Hid _ := rawx
  have hraw0 := al5R op rd rs1 rs2 imm w
  clear ht hD hE hC hO hf hop hrd hrs1 hrs2 himm rawx
  have HCB : Hid _ := hc
  clear hc
  go_enter Tryd.func6, Tryd.ntmps6
  go_wp2_with fail
  refine (hExpand 32770 _ (HT.out.alloc _) (by decide) (by decide)).mono ?_
  rintro e w1 ⟨rfl, hb⟩
  rw [known_1]
  have rawx := raw.out.step hb (Nat.le_refl _)
  have HBx : Below w.heap.size w w1 := hraw0.trans (hb.mono hraw0.size)
  clear hb raw
  have raw : Hid _ := rawx
  clear rawx
  have HB1 : Hid _ := HBx
  clear HBx
  unfold decVal
  go_wp2_with fail
  refine (hExpand 32898 _ ((HT.out.below HB1.out (Nat.le_refl _)).alloc _) (by decide) (by decide)).mono ?_
  rintro e w2 ⟨rfl, hb⟩
  rw [known_2]
  have rawx := (raw.out.step (al5 (0) (0) (0) (0) (0) w1) (Nat.le_refl _)).step hb (Nat.le_refl _)
  have knx := (At5.start (0) (0) (0) (0) (0) w1).step hb (Nat.le_refl _)
  have HBx : Below w.heap.size w w2 := (HB1.out.trans ((al5 (0) (0) (0) (0) (0) w1).mono HB1.out.size)).trans (hb.mono (Nat.le_trans HB1.out.size (al5 (0) (0) (0) (0) (0) w1).size))
  clear hb raw HB1
  have raw : Hid _ := rawx
  clear rawx
  have kn : Hid _ := knx
  clear knx
  have HB2 : Hid _ := HBx
  clear HBx
  unfold decVal
  obtain ⟨knl, kn0, kn1, kn2, kn3, kn4⟩ := kn.out
  go_wp2_with fail
  refine (hExpand x _ ((HT.out.below HB2.out (Nat.le_refl _)).alloc _) x0 x1).mono ?_
  rintro e w3 ⟨rfl, hb⟩
  rw [HD.out]
  clear knl kn0 kn1 kn2 kn3 kn4
  have rawx := (raw.out.step (al5 (4) (0) (1) (0) (0) w2) (Nat.le_refl _)).step hb (Nat.le_refl _)
  have knx := (kn.out.step (al5 (4) (0) (1) (0) (0) w2) (Nat.le_refl _)).step hb (Nat.le_refl _)
  have rtx := (At5.start (4) (0) (1) (0) (0) w2).step hb (Nat.le_refl _)
  have HBx : Below w.heap.size w w3 := (HB2.out.trans ((al5 (4) (0) (1) (0) (0) w2).mono HB2.out.size)).trans (hb.mono (Nat.le_trans HB2.out.size (al5 (4) (0) (1) (0) (0) w2).size))
  clear hb raw kn HB2
  have raw : Hid _ := rawx
  clear rawx
  have kn : Hid _ := knx
  clear knx
  have rt : Hid _ := rtx
  clear rtx
  have HB3 : Hid _ := HBx
  clear HBx
  unfold decVal
  clear kn rt
  obtain ⟨rawl, raw0, raw1, raw2, raw3, raw4⟩ := raw.out
  go_wp2_with fail
  refine (inst_any op rd rs1 rs2 imm _ HI.out.1 HI.out.2.1 HI.out.2.2.1 HI.out.2.2.2.1 HI.out.2.2.2.2).mono ?_
  rintro e w4 ⟨f1, hf1, rfl, hb⟩
  clear rawl raw0 raw1 raw2 raw3 raw4
  have rawx := (raw.out.step (al5 (0) (0) (0) (0) (0) w3) (Nat.le_refl _)).step hb (Nat.le_refl _)
  have iix := (At5.start (0) (0) (0) (0) (0) w3).step hb (Nat.le_refl _)
  have HBx : Below w.heap.size w w4 := (HB3.out.trans ((al5 (0) (0) (0) (0) (0) w3).mono HB3.out.size)).trans (hb.mono (Nat.le_trans HB3.out.size (al5 (0) (0) (0) (0) (0) w3).size))
  clear hb raw HB3
  have raw : Hid _ := rawx
  clear rawx
  have ii : Hid _ := iix
  clear iix
  have HB4 : Hid _ := HBx
  clear HBx
  obtain rfl : f1 = f := hf1.trans HFF.out.symm
  rw [← HOO.out]
  clear hf1
  clear raw
  clear ii
  go_wp2_with fail
  refine (hCompress _ _ _ _ _ _ ((HT.out.below HB4.out (Nat.le_refl _)).alloc _)).mono ?_
  rintro e w5 ⟨rfl, hb⟩
  rw [HC.out, HE.out]
  have aax := (At5.start (O) (f1.d) (f1.r) (f1.t) (f1.imm) w4).step hb (Nat.le_refl _)
  have HBx : Below w.heap.size w w5 := (HB4.out.trans ((al5 (O) (f1.d) (f1.r) (f1.t) (f1.imm) w4).mono HB4.out.size)).trans (hb.mono (Nat.le_trans HB4.out.size (al5 (O) (f1.d) (f1.r) (f1.t) (f1.imm) w4).size))
  clear hb HB4
  have aa : Hid _ := aax
  clear aax
  have HB5 : Hid _ := HBx
  clear HBx
  go_wp2_with fail
  refine (hExpand c _ (HT.out.below HB5.out (Nat.le_refl _)) c0 c1).mono ?_
  rintro e w6 ⟨rfl, hb⟩
  rw [HCB.out]
  have aax := aa.out.step hb (Nat.le_refl _)
  have HBx : Below w.heap.size w w6 := HB5.out.trans (hb.mono HB5.out.size)
  clear hb aa HB5
  have aa : Hid _ := aax
  clear aax
  have HB6 : Hid _ := HBx
  clear HBx
  unfold decVal
  obtain ⟨aal, aa0, aa1, aa2, aa3, aa4⟩ := aa.out
  go_wp2
  go_ret
  exact ⟨rfl, HB6.out.trans ((al5 O f1.d f1.r f1.t f1.imm w6).mono HB6.out.size)⟩

theorem pressed_walk (x op rd rs1 rs2 imm : Int) (w : World) (ht : Tabs w) (x0 : 0 ≤ x) (x1 : x < 65536)
    (hop : I64 op) (hrd : I64 rd) (hrs1 : I64 rs1) (hrs2 : I64 rs2) (himm : I64 imm) :
    Calls Tryd.prog 6 #[.int .u16 x, .agg #[.int .i64 op, .int .i64 rd, .int .i64 rs1, .int .i64 rs2, .int .i64 imm]] w fun e w' => e = .returned (.bool true) ∧ Below w.heap.size w w' := by
  have hpb := Hm.pick_bd op 48 (by omega)
  have hl := Hm.inst_legal (1 + Hm.pickI op 48) rd rs1 rs2 imm (by omega) (by omega)
  generalize hf : Hm.instF (1 + Hm.pickI op 48) rd rs1 rs2 imm = f at hl
  generalize hO : 1 + Hm.pickI op 48 = O at hl
  rw [hO] at hf
  rcases Hm.press_err x0 x1 with he | ⟨hD, hm⟩ | ⟨hD, hm⟩
  · obtain ⟨q, hA⟩ := Hm.press_a x0 x1 he
    generalize hD : Hm.expC x = D at *
    obtain ⟨Q, g, er⟩ := D
    simp only at he
    subst he
    rcases Hm.press_b hl with ⟨hE, hC⟩ | ⟨hE, c0, c1, hc⟩
    · exact pressed_ok_none x op rd rs1 rs2 imm w ht x0 x1 hop hrd hrs1 hrs2 himm O f hO.symm (by rw [hO]; exact hf.symm) Q g q hD hA hE hC
    · exact pressed_ok_some x op rd rs1 rs2 imm w ht x0 x1 hop hrd hrs1 hrs2 himm O f hO.symm (by rw [hO]; exact hf.symm) Q g q hD hA _ hE rfl c0 c1 hc
  · rcases Hm.press_b hl with ⟨hE, hC⟩ | ⟨hE, c0, c1, hc⟩
    · exact pressed_wide_none x op rd rs1 rs2 imm w ht x0 x1 hop hrd hrs1 hrs2 himm O f hO.symm (by rw [hO]; exact hf.symm) hD hm hE hC
    · exact pressed_wide_some x op rd rs1 rs2 imm w ht x0 x1 hop hrd hrs1 hrs2 himm O f hO.symm (by rw [hO]; exact hf.symm) hD hm _ hE rfl c0 c1 hc
  · rcases Hm.press_b hl with ⟨hE, hC⟩ | ⟨hE, c0, c1, hc⟩
    · exact pressed_bad_none x op rd rs1 rs2 imm w ht x0 x1 hop hrd hrs1 hrs2 himm O f hO.symm (by rw [hO]; exact hf.symm) hD hm hE hC
    · exact pressed_bad_some x op rd rs1 rs2 imm w ht x0 x1 hop hrd hrs1 hrs2 himm O f hO.symm (by rw [hO]; exact hf.symm) hD hm _ hE rfl c0 c1 hc
end Go.Proofs.YtdcmdjeooklmjaaDoor
