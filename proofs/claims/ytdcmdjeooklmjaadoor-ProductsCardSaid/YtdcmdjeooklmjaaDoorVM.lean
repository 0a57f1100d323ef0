/-
  NU NV in one text.
-/
import Derived.Test.YtdcmdjeooklmjaaDoorVL
set_option linter.unusedVariables false
set_option linter.unusedSimpArgs false
/-
  Walks: the law Products.
-/
namespace Go.Proofs.YtdcmdjeooklmjaaDoor
open Go.RowKit Go.PageMap Go.Maps
set_option maxRecDepth 100000
theorem aloneRes_R (a b op imm X : Int) (h : AloneOk op imm X) (hf : Hm.fmtOf op = 1) (h28 : 28 ≤ op) : aloneRes a b op imm X = resC (aloneC op imm) a b := by
  unfold aloneRes opdC
  have h1 : (aloneC op imm).op = op := rfl
  rw [h1, if_pos hf]
  have h2 : (aloneM1 a b X).fetch.regs = zreg (aloneR a b) := by rw [alone_fetch a b X h.x0 h.x1]; rfl
  have h3 : (aloneC op imm).rs2 = 2 := by show aloneRs2 op = 2; unfold aloneRs2; rw [if_pos h28]
  rw [h2, h3]; rfl
def okOf (op : Int) : Prop := AloneOk op 0 (Hm.encC op 3 1 (aloneRs2 op) 0)
theorem ok_mk (op : Int) (hc : IsComp op) (h1 : Hm.errC op 3 1 (aloneRs2 op) 0 = 0) (h2 : 0 ≤ Hm.encC op 3 1 (aloneRs2 op) 0) (h3 : Hm.encC op 3 1 (aloneRs2 op) 0 < 4294967296) (h4 : Hm.encC op 3 1 (aloneRs2 op) 0 % 4 = 3) (h5 : Hm.encC op 3 1 (aloneRs2 op) 0 % 32 ≠ 31) (h6 : Hm.decC (Hm.encC op 3 1 (aloneRs2 op) 0) = ⟨op, ⟨3, 1, aloneRs2 op, 0⟩, 0⟩) : okOf op := ⟨hc, rfl, h1, h2, h3, h4, h5, h6⟩
theorem ok38 : okOf 38 := ok_mk 38 (.inr (.inr ⟨by decide, by decide⟩)) (by kernel_rfl) (by decide +kernel) (by decide +kernel) (by decide +kernel) (by decide +kernel) (by kernel_rfl)
theorem ok39 : okOf 39 := ok_mk 39 (.inr (.inr ⟨by decide, by decide⟩)) (by kernel_rfl) (by decide +kernel) (by decide +kernel) (by decide +kernel) (by decide +kernel) (by kernel_rfl)
theorem ok40 : okOf 40 := ok_mk 40 (.inr (.inr ⟨by decide, by decide⟩)) (by kernel_rfl) (by decide +kernel) (by decide +kernel) (by decide +kernel) (by decide +kernel) (by kernel_rfl)
theorem ok41 : okOf 41 := ok_mk 41 (.inr (.inr ⟨by decide, by decide⟩)) (by kernel_rfl) (by decide +kernel) (by decide +kernel) (by decide +kernel) (by decide +kernel) (by kernel_rfl)
theorem ok42 : okOf 42 := ok_mk 42 (.inr (.inr ⟨by decide, by decide⟩)) (by kernel_rfl) (by decide +kernel) (by decide +kernel) (by decide +kernel) (by decide +kernel) (by kernel_rfl)
theorem ok43 : okOf 43 := ok_mk 43 (.inr (.inr ⟨by decide, by decide⟩)) (by kernel_rfl) (by decide +kernel) (by decide +kernel) (by decide +kernel) (by decide +kernel) (by kernel_rfl)
theorem ok44 : okOf 44 := ok_mk 44 (.inr (.inr ⟨by decide, by decide⟩)) (by kernel_rfl) (by decide +kernel) (by decide +kernel) (by decide +kernel) (by decide +kernel) (by kernel_rfl)
theorem ok45 : okOf 45 := ok_mk 45 (.inr (.inr ⟨by decide, by decide⟩)) (by kernel_rfl) (by decide +kernel) (by decide +kernel) (by decide +kernel) (by decide +kernel) (by kernel_rfl)
theorem aloneR_any (op a b : Int) (h : okOf op) (hf : Hm.fmtOf op = 1) (h28 : 28 ≤ op) (w : World) (ht : Tabs w) (a0 : 0 ≤ a) (a1 : a < 4294967296) (b0 : 0 ≤ b) (b1 : b < 4294967296) :
    Calls Tryd.prog 31 #[.int .i64 op, .int .u32 a, .int .u32 b, .int .i64 0] w fun e w' => e = .returned (.tuple #[.int .u32 (resC (aloneC op 0) a b), .bool true]) ∧ Below w.heap.size w w' := by
  have := alone_any w op a b 0 _ ht h a0 a1 b0 b1
  rw [aloneRes_R a b op 0 _ h hf h28] at this
  exact this
theorem fm38 : Hm.fmtOf 38 = 1 := by kernel_rfl
theorem fm41 : Hm.fmtOf 41 = 1 := by kernel_rfl
theorem fm39 : Hm.fmtOf 39 = 1 := by kernel_rfl
theorem fm40 : Hm.fmtOf 40 = 1 := by kernel_rfl
theorem fm42 : Hm.fmtOf 42 = 1 := by kernel_rfl
theorem fm44 : Hm.fmtOf 44 = 1 := by kernel_rfl
theorem fm43 : Hm.fmtOf 43 = 1 := by kernel_rfl
theorem fm45 : Hm.fmtOf 45 = 1 := by kernel_rfl
def AloneK (op a b r : Int) : Prop := ∀ W, Tabs W → Calls Tryd.prog 31 #[.int .i64 op, .int .u32 a, .int .u32 b, .int .i64 0] W fun e w' => e = .returned (.tuple #[.int .u32 r, .bool true]) ∧ Below W.heap.size W w'
theorem ak38 (a b : Int) (a0 : 0 ≤ a) (a1 : a < 4294967296) (b0 : 0 ≤ b) (b1 : b < 4294967296) : AloneK 38 a b (resC (aloneC 38 0) a b) := fun W hW => aloneR_any 38 a b ok38 fm38 (by decide) W hW a0 a1 b0 b1
theorem ak41 (a b : Int) (a0 : 0 ≤ a) (a1 : a < 4294967296) (b0 : 0 ≤ b) (b1 : b < 4294967296) : AloneK 41 a b (resC (aloneC 41 0) a b) := fun W hW => aloneR_any 41 a b ok41 fm41 (by decide) W hW a0 a1 b0 b1
theorem ak39 (a b : Int) (a0 : 0 ≤ a) (a1 : a < 4294967296) (b0 : 0 ≤ b) (b1 : b < 4294967296) : AloneK 39 a b (resC (aloneC 39 0) a b) := fun W hW => aloneR_any 39 a b ok39 fm39 (by decide) W hW a0 a1 b0 b1
theorem ak40 (a b : Int) (a0 : 0 ≤ a) (a1 : a < 4294967296) (b0 : 0 ≤ b) (b1 : b < 4294967296) : AloneK 40 a b (resC (aloneC 40 0) a b) := fun W hW => aloneR_any 40 a b ok40 fm40 (by decide) W hW a0 a1 b0 b1
theorem ak42 (a b : Int) (a0 : 0 ≤ a) (a1 : a < 4294967296) (b0 : 0 ≤ b) (b1 : b < 4294967296) : AloneK 42 a b (resC (aloneC 42 0) a b) := fun W hW => aloneR_any 42 a b ok42 fm42 (by decide) W hW a0 a1 b0 b1
theorem ak44 (a b : Int) (a0 : 0 ≤ a) (a1 : a < 4294967296) (b0 : 0 ≤ b) (b1 : b < 4294967296) : AloneK 44 a b (resC (aloneC 44 0) a b) := fun W hW => aloneR_any 44 a b ok44 fm44 (by decide) W hW a0 a1 b0 b1
theorem ak43 (a b : Int) (a0 : 0 ≤ a) (a1 : a < 4294967296) (b0 : 0 ≤ b) (b1 : b < 4294967296) : AloneK 43 a b (resC (aloneC 43 0) a b) := fun W hW => aloneR_any 43 a b ok43 fm43 (by decide) W hW a0 a1 b0 b1
theorem ak45 (a b : Int) (a0 : 0 ≤ a) (a1 : a < 4294967296) (b0 : 0 ≤ b) (b1 : b < 4294967296) : AloneK 45 a b (resC (aloneC 45 0) a b) := fun W hW => aloneR_any 45 a b ok45 fm45 (by decide) W hW a0 a1 b0 b1
end Go.Proofs.YtdcmdjeooklmjaaDoor

/-
  Walks: the law Products (made by gen_NV.py).
-/
namespace Go.Proofs.YtdcmdjeooklmjaaDoor
open Go.RowKit Go.PageMap Go.Maps
set_option maxRecDepth 100000
set_option maxHeartbeats 4000000 in
theorem products_zero (a b : Int) (w : World) (ht : Tabs w) (hb : b = 0)
    (k1 : AloneK 38 a b (IntKind.u64.wrap (IntKind.u64.wrap a * IntKind.u64.wrap b) % 4294967296)) (k2 : AloneK 41 a b (IntKind.u64.wrap (IntKind.u64.wrap a * IntKind.u64.wrap b) / 4294967296 % 4294967296)) (k3 : AloneK 39 a b (wrap64 ((wrap64 (wrap32 a)) * (wrap64 (wrap32 b))) / 4294967296 % 4294967296)) (k4 : AloneK 40 a b (wrap64 ((wrap64 (wrap32 a)) * wrap64 b) / 4294967296 % 4294967296)) (k5 : AloneK 42 a b (4294967295)) (k6 : AloneK 44 a b (a)) (k7 : AloneK 43 a b (4294967295)) (k8 : AloneK 45 a b (a)) :
    Calls Tryd.prog 10 #[.int .u32 a, .int .u32 b] w fun e w' => e = .returned (.bool true) ∧ Below w.heap.size w w' := by
  have HT : Hid (Tabs w) := ht
  have K1 : Hid (AloneK 38 a b (IntKind.u64.wrap (IntKind.u64.wrap a * IntKind.u64.wrap b) % 4294967296)) := k1
  have K2 : Hid (AloneK 41 a b (IntKind.u64.wrap (IntKind.u64.wrap a * IntKind.u64.wrap b) / 4294967296 % 4294967296)) := k2
  have K3 : Hid (AloneK 39 a b (wrap64 ((wrap64 (wrap32 a)) * (wrap64 (wrap32 b))) / 4294967296 % 4294967296)) := k3
  have K4 : Hid (AloneK 40 a b (wrap64 ((wrap64 (wrap32 a)) * wrap64 b) / 4294967296 % 4294967296)) := k4
  have K5 : Hid (AloneK 42 a b (4294967295)) := k5
  have K6 : Hid (AloneK 44 a b (a)) := k6
  have K7 : Hid (AloneK 43 a b (4294967295)) := k7
  have K8 : Hid (AloneK 45 a b (a)) := k8
  clear ht k1 k2 k3 k4 k5 k6 k7 k8
  have hbz : (b == 0) = true := by simp [hb]
  clear hb
  go_enter Tryd.func10, Tryd.ntmps10
  go_wp2_with fail
  refine (K1.out w HT.out).mono ?_
  rintro e w1 ⟨rfl, hb1⟩
  have HB1 : Hid (Below w.heap.size w w1) := hb1
  clear hb1
  go_wp2_with fail
  refine (K2.out w1 (HT.out.below HB1.out (Nat.le_refl _))).mono ?_
  rintro e w2 ⟨rfl, hb2⟩
  have HB2 : Hid (Below w.heap.size w w2) := HB1.out.trans (hb2.mono HB1.out.size)
  clear hb2
  go_wp2_with fail
  refine (K3.out w2 (HT.out.below HB2.out (Nat.le_refl _))).mono ?_
  rintro e w3 ⟨rfl, hb3⟩
  have HB3 : Hid (Below w.heap.size w w3) := HB2.out.trans (hb3.mono HB2.out.size)
  clear hb3
  go_wp2_with fail
  refine (K4.out w3 (HT.out.below HB3.out (Nat.le_refl _))).mono ?_
  rintro e w4 ⟨rfl, hb4⟩
  have HB4 : Hid (Below w.heap.size w w4) := HB3.out.trans (hb4.mono HB3.out.size)
  clear hb4
  go_wp2_with fail
  refine (K5.out w4 (HT.out.below HB4.out (Nat.le_refl _))).mono ?_
  rintro e w5 ⟨rfl, hb5⟩
  have HB5 : Hid (Below w.heap.size w w5) := HB4.out.trans (hb5.mono HB4.out.size)
  clear hb5
  go_wp2_with fail
  refine (K6.out w5 (HT.out.below HB5.out (Nat.le_refl _))).mono ?_
  rintro e w6 ⟨rfl, hb6⟩
  have HB6 : Hid (Below w.heap.size w w6) := HB5.out.trans (hb6.mono HB5.out.size)
  clear hb6
  go_wp2_with fail
  refine (K7.out w6 (HT.out.below HB6.out (Nat.le_refl _))).mono ?_
  rintro e w7 ⟨rfl, hb7⟩
  have HB7 : Hid (Below w.heap.size w w7) := HB6.out.trans (hb7.mono HB6.out.size)
  clear hb7
  go_wp2_with fail
  refine (K8.out w7 (HT.out.below HB7.out (Nat.le_refl _))).mono ?_
  rintro e w8 ⟨rfl, hb8⟩
  have HB8 : Hid (Below w.heap.size w w8) := HB7.out.trans (hb8.mono HB7.out.size)
  clear hb8
  clear K1 K2 K3 K4 K5 K6 K7 K8
  go_wp2
  all_goals (go_ret; refine ⟨?_, HB8.out⟩)
  all_goals first | rfl | (simp; done)
set_option maxHeartbeats 4000000 in
theorem products_non (a b : Int) (w : World) (ht : Tabs w) (hb : ¬ b = 0) (hy : ¬ wrap64 (wrap32 b) = 0)
    (k1 : AloneK 38 a b (IntKind.u64.wrap (IntKind.u64.wrap a * IntKind.u64.wrap b) % 4294967296)) (k2 : AloneK 41 a b (IntKind.u64.wrap (IntKind.u64.wrap a * IntKind.u64.wrap b) / 4294967296 % 4294967296)) (k3 : AloneK 39 a b (wrap64 ((wrap64 (wrap32 a)) * (wrap64 (wrap32 b))) / 4294967296 % 4294967296)) (k4 : AloneK 40 a b (wrap64 ((wrap64 (wrap32 a)) * wrap64 b) / 4294967296 % 4294967296)) (k5 : AloneK 42 a b (wrap64 ((wrap64 (wrap32 a)).tdiv (wrap64 (wrap32 b))) % 4294967296)) (k6 : AloneK 44 a b ((wrap64 (wrap32 a)).tmod (wrap64 (wrap32 b)) % 4294967296)) (k7 : AloneK 43 a b (a.tdiv b % 4294967296)) (k8 : AloneK 45 a b (a.tmod b)) :
    Calls Tryd.prog 10 #[.int .u32 a, .int .u32 b] w fun e w' => e = .returned (.bool true) ∧ Below w.heap.size w w' := by
  have HT : Hid (Tabs w) := ht
  have K1 : Hid (AloneK 38 a b (IntKind.u64.wrap (IntKind.u64.wrap a * IntKind.u64.wrap b) % 4294967296)) := k1
  have K2 : Hid (AloneK 41 a b (IntKind.u64.wrap (IntKind.u64.wrap a * IntKind.u64.wrap b) / 4294967296 % 4294967296)) := k2
  have K3 : Hid (AloneK 39 a b (wrap64 ((wrap64 (wrap32 a)) * (wrap64 (wrap32 b))) / 4294967296 % 4294967296)) := k3
  have K4 : Hid (AloneK 40 a b (wrap64 ((wrap64 (wrap32 a)) * wrap64 b) / 4294967296 % 4294967296)) := k4
  have K5 : Hid (AloneK 42 a b (wrap64 ((wrap64 (wrap32 a)).tdiv (wrap64 (wrap32 b))) % 4294967296)) := k5
  have K6 : Hid (AloneK 44 a b ((wrap64 (wrap32 a)).tmod (wrap64 (wrap32 b)) % 4294967296)) := k6
  have K7 : Hid (AloneK 43 a b (a.tdiv b % 4294967296)) := k7
  have K8 : Hid (AloneK 45 a b (a.tmod b)) := k8
  clear ht k1 k2 k3 k4 k5 k6 k7 k8
  have hbz : (b == 0) = false := by simp [hb]
  go_enter Tryd.func10, Tryd.ntmps10
  go_wp2_with fail
  refine (K1.out w HT.out).mono ?_
  rintro e w1 ⟨rfl, hb1⟩
  have HB1 : Hid (Below w.heap.size w w1) := hb1
  clear hb1
  go_wp2_with fail
  refine (K2.out w1 (HT.out.below HB1.out (Nat.le_refl _))).mono ?_
  rintro e w2 ⟨rfl, hb2⟩
  have HB2 : Hid (Below w.heap.size w w2) := HB1.out.trans (hb2.mono HB1.out.size)
  clear hb2
  go_wp2_with fail
  refine (K3.out w2 (HT.out.below HB2.out (Nat.le_refl _))).mono ?_
  rintro e w3 ⟨rfl, hb3⟩
  have HB3 : Hid (Below w.heap.size w w3) := HB2.out.trans (hb3.mono HB2.out.size)
  clear hb3
  go_wp2_with fail
  refine (K4.out w3 (HT.out.below HB3.out (Nat.le_refl _))).mono ?_
  rintro e w4 ⟨rfl, hb4⟩
  have HB4 : Hid (Below w.heap.size w w4) := HB3.out.trans (hb4.mono HB3.out.size)
  clear hb4
  go_wp2_with fail
  refine (K5.out w4 (HT.out.below HB4.out (Nat.le_refl _))).mono ?_
  rintro e w5 ⟨rfl, hb5⟩
  have HB5 : Hid (Below w.heap.size w w5) := HB4.out.trans (hb5.mono HB4.out.size)
  clear hb5
  go_wp2_with fail
  refine (K6.out w5 (HT.out.below HB5.out (Nat.le_refl _))).mono ?_
  rintro e w6 ⟨rfl, hb6⟩
  have HB6 : Hid (Below w.heap.size w w6) := HB5.out.trans (hb6.mono HB5.out.size)
  clear hb6
  go_wp2_with fail
  refine (K7.out w6 (HT.out.below HB6.out (Nat.le_refl _))).mono ?_
  rintro e w7 ⟨rfl, hb7⟩
  have HB7 : Hid (Below w.heap.size w w7) := HB6.out.trans (hb7.mono HB6.out.size)
  clear hb7
  go_wp2_with fail
  refine (K8.out w7 (HT.out.below HB7.out (Nat.le_refl _))).mono ?_
  rintro e w8 ⟨rfl, hb8⟩
  have HB8 : Hid (Below w.heap.size w w8) := HB7.out.trans (hb8.mono HB7.out.size)
  clear hb8
  clear K1 K2 K3 K4 K5 K6 K7 K8
  go_wp2
  all_goals (go_ret; refine ⟨?_, HB8.out⟩)
  all_goals first | rfl | (simp; done)

theorem w64_32 (x : Int) : wrap64 (wrap32 x) = wrap32 x := by unfold wrap64 wrap32; omega
theorem w32_mod (x : Int) : wrap32 x % 4294967296 = x % 4294967296 := by unfold wrap32; omega
theorem w64_mod (x : Int) : wrap64 x % 4294967296 = x % 4294967296 := by unfold wrap64; omega
theorem pr1 (a b : Int) (a0 : 0 ≤ a) (a1 : a < 4294967296) (b0 : 0 ≤ b) (b1 : b < 4294967296) : resC (aloneC 38 0) a b = IntKind.u64.wrap (IntKind.u64.wrap a * IntKind.u64.wrap b) % 4294967296 := by
  show a * b % 4294967296 = _
  rw [IntKind.wrap_u64, IntKind.wrap_u64, IntKind.wrap_u64, Int.emod_eq_of_lt a0 (by omega), Int.emod_eq_of_lt b0 (by omega), Int.emod_emod_of_dvd _ (by decide)]
theorem products_walk (a b : Int) (w : World) (ht : Tabs w) (a0 : 0 ≤ a) (a1 : a < 4294967296) (b0 : 0 ≤ b) (b1 : b < 4294967296) :
    Calls Tryd.prog 10 #[.int .u32 a, .int .u32 b] w fun e w' => e = .returned (.bool true) ∧ Below w.heap.size w w' := by
  have k38 := ak38 a b a0 a1 b0 b1
  have k41 := ak41 a b a0 a1 b0 b1
  have k39 := ak39 a b a0 a1 b0 b1
  have k40 := ak40 a b a0 a1 b0 b1
  have k42 := ak42 a b a0 a1 b0 b1
  have k44 := ak44 a b a0 a1 b0 b1
  have k43 := ak43 a b a0 a1 b0 b1
  have k45 := ak45 a b a0 a1 b0 b1
  rw [pr1 a b a0 a1 b0 b1] at k38
  have e41 : resC (aloneC 41 0) a b = IntKind.u64.wrap (IntKind.u64.wrap a * IntKind.u64.wrap b) / 4294967296 % 4294967296 := rfl
  have e39 : resC (aloneC 39 0) a b = wrap64 ((wrap64 (wrap32 a)) * (wrap64 (wrap32 b))) / 4294967296 % 4294967296 := rfl
  have e40 : resC (aloneC 40 0) a b = wrap64 ((wrap64 (wrap32 a)) * wrap64 b) / 4294967296 % 4294967296 := rfl
  rw [e41] at k41; rw [e39] at k39; rw [e40] at k40
  by_cases hb : b = 0
  · have e42 : resC (aloneC 42 0) a b = 4294967295 := by rw [hb]; rfl
    have e44 : resC (aloneC 44 0) a b = a := by rw [hb]; rfl
    have e43 : resC (aloneC 43 0) a b = 4294967295 := by rw [hb]; rfl
    have e45 : resC (aloneC 45 0) a b = a := by rw [hb]; rfl
    rw [e42] at k42; rw [e44] at k44; rw [e43] at k43; rw [e45] at k45
    exact products_zero a b w ht hb k38 k41 k39 k40 k42 k44 k43 k45
  · have hw := wrap32_ne b0 b1 hb
    have q42 : quoC 42 a b = wrap32 ((wrap32 a).tdiv (wrap32 b)) % 4294967296 := by unfold quoC; rw [if_neg hb, if_pos rfl]
    have q43 : quoC 43 a b = a.tdiv b % 4294967296 := by unfold quoC; rw [if_neg hb, if_neg (by decide), if_pos rfl]
    have q44 : quoC 44 a b = (wrap32 a).tmod (wrap32 b) % 4294967296 := by unfold quoC; rw [if_neg hb, if_neg (by decide), if_neg (by decide), if_pos rfl]
    have q45 : quoC 45 a b = a.tmod b := by unfold quoC; rw [if_neg hb, if_neg (by decide), if_neg (by decide), if_neg (by decide)]
    have e42 : resC (aloneC 42 0) a b = wrap64 ((wrap64 (wrap32 a)).tdiv (wrap64 (wrap32 b))) % 4294967296 := by show quoC 42 a b = _; rw [q42, w64_32, w64_32, w32_mod, w64_mod]
    have e44 : resC (aloneC 44 0) a b = (wrap64 (wrap32 a)).tmod (wrap64 (wrap32 b)) % 4294967296 := by show quoC 44 a b = _; rw [q44, w64_32, w64_32]
    have e43 : resC (aloneC 43 0) a b = a.tdiv b % 4294967296 := by show quoC 43 a b = _; rw [q43]
    have e45 : resC (aloneC 45 0) a b = a.tmod b := by show quoC 45 a b = _; rw [q45]
    rw [e42] at k42; rw [e44] at k44; rw [e43] at k43; rw [e45] at k45
    exact products_non a b w ht hb (by rw [w64_32]; exact hw) k38 k41 k39 k40 k42 k44 k43 k45
end Go.Proofs.YtdcmdjeooklmjaaDoor
