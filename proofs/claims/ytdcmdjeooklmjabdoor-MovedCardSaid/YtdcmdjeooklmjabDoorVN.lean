/-
  NX in one text.
-/
import Derived.Test.YtdcmdjeooklmjabDoorVM
import Derived.Test.YtdcmdjeooklmjabDoorGP
set_option linter.unusedVariables false
set_option linter.unusedSimpArgs false
/-
  Walks: the law Moved (made by gen_NX.py).
-/
namespace Go.Proofs.YtdcmdjeooklmjabDoor
open Go.RowKit Go.PageMap Go.Maps
set_option maxRecDepth 100000
set_option maxHeartbeats 4000000 in
theorem moved_at (a b imm n m lt lu li : Int) (w : World) (ht : Tabs w) (hi : I64 imm) (hn : Hm.pickI imm 32 = n) (hm : Hm.pickI imm 4096 - 2048 = m) (n0 : 0 ≤ n) (n1 : n < 32) (m0 : -2048 ≤ m) (m1 : m < 2048)
    (a0 : 0 ≤ a) (a1 : a < 4294967296) (b0 : 0 ≤ b) (b1 : b < 4294967296)
    (h6 : (lt = 1 ∧ wrap32 a < wrap32 b) ∨ (lt = 0 ∧ ¬ wrap32 a < wrap32 b)) (h7 : (lu = 1 ∧ a < b) ∨ (lu = 0 ∧ ¬ a < b)) (h8 : (li = 1 ∧ a < m % 4294967296) ∨ (li = 0 ∧ ¬ a < m % 4294967296))
    (k1 : AloneI 25 a b n (a * 2 ^ n.toNat % 4294967296)) (k2 : AloneI 26 a b n (a / 2 ^ n.toNat)) (k3 : AloneI 27 a b n (wrap32 a / 2 ^ n.toNat % 4294967296)) (k4 : AloneI 30 a b 0 (a * 2 ^ (b % 32).toNat % 4294967296)) (k5 : AloneI 35 a b 0 (wrap32 a / 2 ^ (b % 32).toNat % 4294967296)) (k6 : AloneI 31 a b 0 lt) (k7 : AloneI 32 a b 0 lu) (k8 : AloneI 21 a b m li) :
    Calls Tryd.prog 3 #[.int .u32 a, .int .u32 b, .int .i64 imm] w fun e w' => e = .returned (.bool true) ∧ Below w.heap.size w w' := by
  have HT : Hid (Tabs w) := ht
  have HI : Hid (I64 imm) := hi
  have HN : Hid (Hm.pickI imm 32 = n) := hn
  have HM : Hid (Hm.pickI imm 4096 = m + 2048) := by rw [Hid]; omega
  have H6 : Hid ((lt = 1 ∧ wrap32 a < wrap32 b) ∨ (lt = 0 ∧ ¬ wrap32 a < wrap32 b)) := h6
  have H7 : Hid ((lu = 1 ∧ a < b) ∨ (lu = 0 ∧ ¬ a < b)) := h7
  have H8 : Hid ((li = 1 ∧ a < m % 4294967296) ∨ (li = 0 ∧ ¬ a < m % 4294967296)) := h8
  have K1 : Hid (AloneI 25 a b n (a * 2 ^ n.toNat % 4294967296)) := k1
  have K2 : Hid (AloneI 26 a b n (a / 2 ^ n.toNat)) := k2
  have K3 : Hid (AloneI 27 a b n (wrap32 a / 2 ^ n.toNat % 4294967296)) := k3
  have K4 : Hid (AloneI 30 a b 0 (a * 2 ^ (b % 32).toNat % 4294967296)) := k4
  have K5 : Hid (AloneI 35 a b 0 (wrap32 a / 2 ^ (b % 32).toNat % 4294967296)) := k5
  have K6 : Hid (AloneI 31 a b 0 lt) := k6
  have K7 : Hid (AloneI 32 a b 0 lu) := k7
  have K8 : Hid (AloneI 21 a b m li) := k8
  clear ht hi hn hm h6 h7 h8 k1 k2 k3 k4 k5 k6 k7 k8
  go_enter Tryd.func3, Tryd.ntmps3
  go_wp2_with fail
  refine (pick_any imm 32 w HI.out (by decide) (by decide)).mono ?_
  rintro e w0 ⟨rfl, rfl⟩
  rw [HN.out]
  go_wp2_with fail
  refine (K1.out _ HT.out).mono ?_
  rintro e w1 ⟨rfl, hb1⟩
  have HB1 : Hid (Below w0.heap.size w0 w1) := hb1
  clear hb1
  go_wp2_with fail
  refine (K2.out _ (HT.out.below HB1.out (Nat.le_refl _))).mono ?_
  rintro e w2 ⟨rfl, hb2⟩
  have HB2 : Hid (Below w0.heap.size w0 w2) := HB1.out.trans (hb2.mono HB1.out.size)
  clear hb2
  go_wp2_with fail
  refine (K3.out _ (HT.out.below HB2.out (Nat.le_refl _))).mono ?_
  rintro e w3 ⟨rfl, hb3⟩
  have HB3 : Hid (Below w0.heap.size w0 w3) := HB2.out.trans (hb3.mono HB2.out.size)
  clear hb3
  go_wp2_with fail
  refine (K4.out _ (HT.out.below HB3.out (Nat.le_refl _))).mono ?_
  rintro e w4 ⟨rfl, hb4⟩
  have HB4 : Hid (Below w0.heap.size w0 w4) := HB3.out.trans (hb4.mono HB3.out.size)
  clear hb4
  go_wp2_with fail
  refine (K5.out _ (HT.out.below HB4.out (Nat.le_refl _))).mono ?_
  rintro e w5 ⟨rfl, hb5⟩
  have HB5 : Hid (Below w0.heap.size w0 w5) := HB4.out.trans (hb5.mono HB4.out.size)
  clear hb5
  go_wp2_with fail
  refine (K6.out _ (HT.out.below HB5.out (Nat.le_refl _))).mono ?_
  rintro e w6 ⟨rfl, hb6⟩
  have HB6 : Hid (Below w0.heap.size w0 w6) := HB5.out.trans (hb6.mono HB5.out.size)
  clear hb6
  go_wp2_with fail
  refine (K7.out _ (HT.out.below HB6.out (Nat.le_refl _))).mono ?_
  rintro e w7 ⟨rfl, hb7⟩
  have HB7 : Hid (Below w0.heap.size w0 w7) := HB6.out.trans (hb7.mono HB6.out.size)
  clear hb7
  go_wp2_with fail
  refine (pick_any imm 4096 w7 HI.out (by decide) (by decide)).mono ?_
  rintro e w70 ⟨rfl, rfl⟩
  rw [HM.out]
  go_wp2_with fail
  refine (K8.out _ (HT.out.below HB7.out (Nat.le_refl _))).mono ?_
  rintro e w8 ⟨rfl, hb8⟩
  have HB8 : Hid (Below w0.heap.size w0 w8) := HB7.out.trans (hb8.mono HB7.out.size)
  clear hb8
  clear K1 K2 K3 K4 K5 K6 K7 K8
  have h6 := H6.out
  have h7 := H7.out
  have h8 := H8.out
  rcases h6 with ⟨rfl, h6⟩ | ⟨rfl, h6⟩ <;> rcases h7 with ⟨rfl, h7⟩ | ⟨rfl, h7⟩ <;> rcases h8 with ⟨rfl, h8⟩ | ⟨rfl, h8⟩
  all_goals go_wp2
  all_goals (go_ret; refine ⟨?_, HB8.out⟩)
  all_goals first | rfl | (simp_all; done)
theorem moved_walk (a b imm : Int) (w : World) (ht : Tabs w) (hi : I64 imm) (a0 : 0 ≤ a) (a1 : a < 4294967296) (b0 : 0 ≤ b) (b1 : b < 4294967296) :
    Calls Tryd.prog 3 #[.int .u32 a, .int .u32 b, .int .i64 imm] w fun e w' => e = .returned (.bool true) ∧ Below w.heap.size w w' := by
  obtain ⟨n0, n1⟩ := Hm.pick_bd imm 32 (by decide)
  obtain ⟨m0, m1⟩ := Hm.pick_bd imm 4096 (by decide)
  refine moved_at a b imm _ _ (if wrap32 a < wrap32 b then 1 else 0) (if a < b then 1 else 0) (if a < (Hm.pickI imm 4096 - 2048) % 4294967296 then 1 else 0) w ht hi rfl rfl n0 n1 (by omega) (by omega) a0 a1 b0 b1 ?_ ?_ ?_
    (as25 a b _ n0 n1 a0 a1 b0 b1) (as26 a b _ n0 n1 a0 a1 b0 b1) (as27 a b _ n0 n1 a0 a1 b0 b1) (as30 a b a0 a1 b0 b1) (as35 a b a0 a1 b0 b1) (as31 a b a0 a1 b0 b1) (as32 a b a0 a1 b0 b1) (as21 a b _ (by omega) (by omega) a0 a1 b0 b1)
  · by_cases h : wrap32 a < wrap32 b
    · exact .inl ⟨if_pos h, h⟩
    · exact .inr ⟨if_neg h, h⟩
  · by_cases h : a < b
    · exact .inl ⟨if_pos h, h⟩
    · exact .inr ⟨if_neg h, h⟩
  · by_cases h : a < (Hm.pickI imm 4096 - 2048) % 4294967296
    · exact .inl ⟨if_pos h, h⟩
    · exact .inr ⟨if_neg h, h⟩
end Go.Proofs.YtdcmdjeooklmjabDoor
