/-
  I1 I2 I3 in one text.
-/
import Derived.Test.YtdcmdjeooklmjaaDoorGA
import Derived.Test.YtdcmdjeooklmjaaDoorGO
set_option linter.unusedVariables false
set_option linter.unusedSimpArgs false
/-
  The plain functions that hartkeep's pick and inst come to.
-/
namespace Hm
def pickI (c n : Int) : Int := (if c < 0 then -(c + 1) else c) % n
theorem pick_bd (c n : Int) (h : 1 ≤ n) : 0 ≤ pickI c n ∧ pickI c n < n := by
  unfold pickI
  exact ⟨Int.emod_nonneg _ (by omega), Int.emod_lt_of_pos _ (by omega)⟩
def instF (op rd rs1 rs2 imm : Int) : Flds :=
  if op ≤ 2 then ⟨pickI rd 32, 0, 0, pickI imm 1048576⟩
  else if op = 3 then ⟨pickI rd 32, 0, 0, 2 * pickI imm 1048576 - 1048576⟩
  else if 5 ≤ op ∧ op ≤ 10 then ⟨0, pickI rs1 32, pickI rs2 32, 2 * pickI imm 4096 - 4096⟩
  else if 16 ≤ op ∧ op ≤ 18 then ⟨0, pickI rs1 32, pickI rs2 32, pickI imm 4096 - 2048⟩
  else if 25 ≤ op ∧ op ≤ 27 then ⟨pickI rd 32, pickI rs1 32, 0, pickI imm 32⟩
  else if 28 ≤ op ∧ op ≤ 45 then ⟨pickI rd 32, pickI rs1 32, pickI rs2 32, 0⟩
  else if op < 46 then ⟨pickI rd 32, pickI rs1 32, 0, pickI imm 4096 - 2048⟩
  else ⟨0, 0, 0, 0⟩
end Hm

/-
  Walks: hartkeep's pick and inst.
-/
namespace Go.Proofs.YtdcmdjeooklmjaaDoor
open Go.RowKit

set_option maxHeartbeats 400000 in
theorem pick_any (c n : Int) (w : World) (hc : I64 c) (hn : 1 ≤ n) (hn1 : n ≤ 2000000) :
    Calls Tryd.prog 44 #[.int .i64 c, .int .i64 n] w fun e w' => e = .returned (.int .i64 (Hm.pickI c n)) ∧ w' = w := by
  obtain ⟨c0, c1⟩ := hc
  have hne : (n == 0) = false := by simp; omega
  by_cases h : c < 0
  · have HK : Hid (Hm.pickI c n = -(c + 1).tmod n) := by
      show _ = _
      rw [← Int.neg_tmod, Int.tmod_eq_emod_of_nonneg (by omega)]
      simp [Hm.pickI, h]
    go_enter Tryd.func44, Tryd.ntmps44
    go_wp2
    go_ret
    exact ⟨ret_int HK.out.symm, rfl⟩
  · have HK : Hid (Hm.pickI c n = c % n) := by simp [Hid, Hm.pickI, h]
    go_enter Tryd.func44, Tryd.ntmps44
    go_wp2
    go_ret
    exact ⟨ret_int HK.out.symm, rfl⟩

end Go.Proofs.YtdcmdjeooklmjaaDoor

/-
  Walks: hartkeep's inst.
-/
namespace Go.Proofs.YtdcmdjeooklmjaaDoor
open Go.RowKit

def InstOk (op rd rs1 rs2 imm : Int) (w : World) : Prop :=
    Calls Tryd.prog 18 #[.agg #[.int .i64 op, .int .i64 rd, .int .i64 rs1, .int .i64 rs2, .int .i64 imm]] w fun e w' => ∃ f, f = Hm.instF (1 + Hm.pickI op 48) rd rs1 rs2 imm ∧ e = .returned (.agg #[.int .i64 (1 + Hm.pickI op 48), .int .i64 f.d, .int .i64 f.r, .int .i64 f.t, .int .i64 f.imm]) ∧ Below w.heap.size w w'
theorem below_three (w : World) (a b c : Obj) : Below w.heap.size w (((w.alloc a).alloc b).alloc c) :=
  (((Below.refl _ _).alloc (Nat.le_refl _) _).alloc (by simp) _).alloc (by simp; omega) _

set_option maxRecDepth 100000 in
set_option maxHeartbeats 4000000 in
theorem inst_a (op rd rs1 rs2 imm : Int) (w : World) (HO : Hid (I64 op)) (HO1 : Hid (I64 rd)) (HO2 : Hid (I64 rs1)) (HO3 : Hid (I64 rs2)) (HO4 : Hid (I64 imm)) (hq1 : Hm.pickI op 48 ≤ 1) : InstOk op rd rs1 rs2 imm w := by
  have hb := Hm.pick_bd op 48 (by omega)
  have hb1 := Hm.pick_bd rd 32 (by omega)
  have hb2 := Hm.pick_bd rs1 32 (by omega)
  have hb3 := Hm.pick_bd rs2 32 (by omega)
  have hb4 := Hm.pick_bd imm 1048576 (by omega)
  have hb5 := Hm.pick_bd imm 4096 (by omega)
  have hb6 := Hm.pick_bd imm 32 (by omega)
  have HF : Hid (Hm.instF (1 + Hm.pickI op 48) rd rs1 rs2 imm = ⟨Hm.pickI rd 32, 0, 0, Hm.pickI imm 1048576⟩) := by
    show _ = _
    unfold Hm.instF; rw [if_pos (by omega)]
  unfold InstOk
  go_enter Tryd.func18, Tryd.ntmps18
  go_wp2_with (first | (go_at_call_of 44 (op); refine (pick_any _ _ _ HO.out (by omega) (by omega)).mono ?_; rintro e w' ⟨rfl, rfl⟩) | (go_at_call_of 44 (rd); refine (pick_any _ _ _ HO1.out (by omega) (by omega)).mono ?_; rintro e w' ⟨rfl, rfl⟩) | (go_at_call_of 44 (rs1); refine (pick_any _ _ _ HO2.out (by omega) (by omega)).mono ?_; rintro e w' ⟨rfl, rfl⟩) | (go_at_call_of 44 (rs2); refine (pick_any _ _ _ HO3.out (by omega) (by omega)).mono ?_; rintro e w' ⟨rfl, rfl⟩) | (go_at_call_of 44 (imm); refine (pick_any _ _ _ HO4.out (by omega) (by omega)).mono ?_; rintro e w' ⟨rfl, rfl⟩))
  exact bodyPost_ret (v := .agg #[.int .i64 (1 + Hm.pickI op 48), .int .i64 (Hm.pickI rd 32), .int .i64 (0), .int .i64 (0), .int .i64 (Hm.pickI imm 1048576)]) (by simp [results, Tryd.results18, go_sem]) rfl ⟨⟨Hm.pickI rd 32, 0, 0, Hm.pickI imm 1048576⟩, HF.out.symm, rfl, below_three w _ _ _⟩

set_option maxRecDepth 100000 in
set_option maxHeartbeats 4000000 in
theorem inst_b (op rd rs1 rs2 imm : Int) (w : World) (HO : Hid (I64 op)) (HO1 : Hid (I64 rd)) (HO2 : Hid (I64 rs1)) (HO3 : Hid (I64 rs2)) (HO4 : Hid (I64 imm)) (hq0 : Hm.pickI op 48 = 2) : InstOk op rd rs1 rs2 imm w := by
  have hb := Hm.pick_bd op 48 (by omega)
  have hb1 := Hm.pick_bd rd 32 (by omega)
  have hb2 := Hm.pick_bd rs1 32 (by omega)
  have hb3 := Hm.pick_bd rs2 32 (by omega)
  have hb4 := Hm.pick_bd imm 1048576 (by omega)
  have hb5 := Hm.pick_bd imm 4096 (by omega)
  have hb6 := Hm.pick_bd imm 32 (by omega)
  have HF : Hid (Hm.instF (1 + Hm.pickI op 48) rd rs1 rs2 imm = ⟨Hm.pickI rd 32, 0, 0, 2 * Hm.pickI imm 1048576 - 1048576⟩) := by
    show _ = _
    unfold Hm.instF; rw [if_neg (by omega), if_pos (by omega)]
  have hle : Hm.pickI op 48 ≤ 2 := by omega
  have hge : 2 ≤ Hm.pickI op 48 := by omega
  have hop : (1 + Hm.pickI op 48 == 3) = true := by rw [hq0]; rfl
  clear hq0
  unfold InstOk
  go_enter Tryd.func18, Tryd.ntmps18
  go_wp2_with (first | (go_at_call_of 44 (op); refine (pick_any _ _ _ HO.out (by omega) (by omega)).mono ?_; rintro e w' ⟨rfl, rfl⟩) | (go_at_call_of 44 (rd); refine (pick_any _ _ _ HO1.out (by omega) (by omega)).mono ?_; rintro e w' ⟨rfl, rfl⟩) | (go_at_call_of 44 (rs1); refine (pick_any _ _ _ HO2.out (by omega) (by omega)).mono ?_; rintro e w' ⟨rfl, rfl⟩) | (go_at_call_of 44 (rs2); refine (pick_any _ _ _ HO3.out (by omega) (by omega)).mono ?_; rintro e w' ⟨rfl, rfl⟩) | (go_at_call_of 44 (imm); refine (pick_any _ _ _ HO4.out (by omega) (by omega)).mono ?_; rintro e w' ⟨rfl, rfl⟩))
  exact bodyPost_ret (v := .agg #[.int .i64 (1 + Hm.pickI op 48), .int .i64 (Hm.pickI rd 32), .int .i64 (0), .int .i64 (0), .int .i64 (2 * Hm.pickI imm 1048576 - 1048576)]) (by simp [results, Tryd.results18, go_sem]) rfl ⟨⟨Hm.pickI rd 32, 0, 0, 2 * Hm.pickI imm 1048576 - 1048576⟩, HF.out.symm, rfl, below_three w _ _ _⟩

set_option maxRecDepth 100000 in
set_option maxHeartbeats 4000000 in
theorem inst_c (op rd rs1 rs2 imm : Int) (w : World) (HO : Hid (I64 op)) (HO1 : Hid (I64 rd)) (HO2 : Hid (I64 rs1)) (HO3 : Hid (I64 rs2)) (HO4 : Hid (I64 imm)) (hq0 : 4 ≤ Hm.pickI op 48) (hq1 : Hm.pickI op 48 ≤ 9) : InstOk op rd rs1 rs2 imm w := by
  have hb := Hm.pick_bd op 48 (by omega)
  have hb1 := Hm.pick_bd rd 32 (by omega)
  have hb2 := Hm.pick_bd rs1 32 (by omega)
  have hb3 := Hm.pick_bd rs2 32 (by omega)
  have hb4 := Hm.pick_bd imm 1048576 (by omega)
  have hb5 := Hm.pick_bd imm 4096 (by omega)
  have hb6 := Hm.pick_bd imm 32 (by omega)
  have HF : Hid (Hm.instF (1 + Hm.pickI op 48) rd rs1 rs2 imm = ⟨0, Hm.pickI rs1 32, Hm.pickI rs2 32, 2 * Hm.pickI imm 4096 - 4096⟩) := by
    show _ = _
    unfold Hm.instF; rw [if_neg (by omega), if_neg (by omega), if_pos (by omega)]
  unfold InstOk
  go_enter Tryd.func18, Tryd.ntmps18
  go_wp2_with (first | (go_at_call_of 44 (op); refine (pick_any _ _ _ HO.out (by omega) (by omega)).mono ?_; rintro e w' ⟨rfl, rfl⟩) | (go_at_call_of 44 (rd); refine (pick_any _ _ _ HO1.out (by omega) (by omega)).mono ?_; rintro e w' ⟨rfl, rfl⟩) | (go_at_call_of 44 (rs1); refine (pick_any _ _ _ HO2.out (by omega) (by omega)).mono ?_; rintro e w' ⟨rfl, rfl⟩) | (go_at_call_of 44 (rs2); refine (pick_any _ _ _ HO3.out (by omega) (by omega)).mono ?_; rintro e w' ⟨rfl, rfl⟩) | (go_at_call_of 44 (imm); refine (pick_any _ _ _ HO4.out (by omega) (by omega)).mono ?_; rintro e w' ⟨rfl, rfl⟩))
  exact bodyPost_ret (v := .agg #[.int .i64 (1 + Hm.pickI op 48), .int .i64 (0), .int .i64 (Hm.pickI rs1 32), .int .i64 (Hm.pickI rs2 32), .int .i64 (2 * Hm.pickI imm 4096 - 4096)]) (by simp [results, Tryd.results18, go_sem]) rfl ⟨⟨0, Hm.pickI rs1 32, Hm.pickI rs2 32, 2 * Hm.pickI imm 4096 - 4096⟩, HF.out.symm, rfl, below_three w _ _ _⟩

set_option maxRecDepth 100000 in
set_option maxHeartbeats 4000000 in
theorem inst_d (op rd rs1 rs2 imm : Int) (w : World) (HO : Hid (I64 op)) (HO1 : Hid (I64 rd)) (HO2 : Hid (I64 rs1)) (HO3 : Hid (I64 rs2)) (HO4 : Hid (I64 imm)) (hq0 : 15 ≤ Hm.pickI op 48) (hq1 : Hm.pickI op 48 ≤ 17) : InstOk op rd rs1 rs2 imm w := by
  have hb := Hm.pick_bd op 48 (by omega)
  have hb1 := Hm.pick_bd rd 32 (by omega)
  have hb2 := Hm.pick_bd rs1 32 (by omega)
  have hb3 := Hm.pick_bd rs2 32 (by omega)
  have hb4 := Hm.pick_bd imm 1048576 (by omega)
  have hb5 := Hm.pick_bd imm 4096 (by omega)
  have hb6 := Hm.pick_bd imm 32 (by omega)
  have HF : Hid (Hm.instF (1 + Hm.pickI op 48) rd rs1 rs2 imm = ⟨0, Hm.pickI rs1 32, Hm.pickI rs2 32, Hm.pickI imm 4096 - 2048⟩) := by
    show _ = _
    unfold Hm.instF; rw [if_neg (by omega), if_neg (by omega), if_neg (by omega), if_pos (by omega)]
  unfold InstOk
  go_enter Tryd.func18, Tryd.ntmps18
  go_wp2_with (first | (go_at_call_of 44 (op); refine (pick_any _ _ _ HO.out (by omega) (by omega)).mono ?_; rintro e w' ⟨rfl, rfl⟩) | (go_at_call_of 44 (rd); refine (pick_any _ _ _ HO1.out (by omega) (by omega)).mono ?_; rintro e w' ⟨rfl, rfl⟩) | (go_at_call_of 44 (rs1); refine (pick_any _ _ _ HO2.out (by omega) (by omega)).mono ?_; rintro e w' ⟨rfl, rfl⟩) | (go_at_call_of 44 (rs2); refine (pick_any _ _ _ HO3.out (by omega) (by omega)).mono ?_; rintro e w' ⟨rfl, rfl⟩) | (go_at_call_of 44 (imm); refine (pick_any _ _ _ HO4.out (by omega) (by omega)).mono ?_; rintro e w' ⟨rfl, rfl⟩))
  exact bodyPost_ret (v := .agg #[.int .i64 (1 + Hm.pickI op 48), .int .i64 (0), .int .i64 (Hm.pickI rs1 32), .int .i64 (Hm.pickI rs2 32), .int .i64 (Hm.pickI imm 4096 - 2048)]) (by simp [results, Tryd.results18, go_sem]) rfl ⟨⟨0, Hm.pickI rs1 32, Hm.pickI rs2 32, Hm.pickI imm 4096 - 2048⟩, HF.out.symm, rfl, below_three w _ _ _⟩

set_option maxRecDepth 100000 in
set_option maxHeartbeats 4000000 in
theorem inst_e (op rd rs1 rs2 imm : Int) (w : World) (HO : Hid (I64 op)) (HO1 : Hid (I64 rd)) (HO2 : Hid (I64 rs1)) (HO3 : Hid (I64 rs2)) (HO4 : Hid (I64 imm)) (hq0 : 24 ≤ Hm.pickI op 48) (hq1 : Hm.pickI op 48 ≤ 26) : InstOk op rd rs1 rs2 imm w := by
  have hb := Hm.pick_bd op 48 (by omega)
  have hb1 := Hm.pick_bd rd 32 (by omega)
  have hb2 := Hm.pick_bd rs1 32 (by omega)
  have hb3 := Hm.pick_bd rs2 32 (by omega)
  have hb4 := Hm.pick_bd imm 1048576 (by omega)
  have hb5 := Hm.pick_bd imm 4096 (by omega)
  have hb6 := Hm.pick_bd imm 32 (by omega)
  have HF : Hid (Hm.instF (1 + Hm.pickI op 48) rd rs1 rs2 imm = ⟨Hm.pickI rd 32, Hm.pickI rs1 32, 0, Hm.pickI imm 32⟩) := by
    show _ = _
    unfold Hm.instF; rw [if_neg (by omega), if_neg (by omega), if_neg (by omega), if_neg (by omega), if_pos (by omega)]
  unfold InstOk
  go_enter Tryd.func18, Tryd.ntmps18
  go_wp2_with (first | (go_at_call_of 44 (op); refine (pick_any _ _ _ HO.out (by omega) (by omega)).mono ?_; rintro e w' ⟨rfl, rfl⟩) | (go_at_call_of 44 (rd); refine (pick_any _ _ _ HO1.out (by omega) (by omega)).mono ?_; rintro e w' ⟨rfl, rfl⟩) | (go_at_call_of 44 (rs1); refine (pick_any _ _ _ HO2.out (by omega) (by omega)).mono ?_; rintro e w' ⟨rfl, rfl⟩) | (go_at_call_of 44 (rs2); refine (pick_any _ _ _ HO3.out (by omega) (by omega)).mono ?_; rintro e w' ⟨rfl, rfl⟩) | (go_at_call_of 44 (imm); refine (pick_any _ _ _ HO4.out (by omega) (by omega)).mono ?_; rintro e w' ⟨rfl, rfl⟩))
  exact bodyPost_ret (v := .agg #[.int .i64 (1 + Hm.pickI op 48), .int .i64 (Hm.pickI rd 32), .int .i64 (Hm.pickI rs1 32), .int .i64 (0), .int .i64 (Hm.pickI imm 32)]) (by simp [results, Tryd.results18, go_sem]) rfl ⟨⟨Hm.pickI rd 32, Hm.pickI rs1 32, 0, Hm.pickI imm 32⟩, HF.out.symm, rfl, below_three w _ _ _⟩

set_option maxRecDepth 100000 in
set_option maxHeartbeats 4000000 in
theorem inst_f (op rd rs1 rs2 imm : Int) (w : World) (HO : Hid (I64 op)) (HO1 : Hid (I64 rd)) (HO2 : Hid (I64 rs1)) (HO3 : Hid (I64 rs2)) (HO4 : Hid (I64 imm)) (hq0 : 27 ≤ Hm.pickI op 48) (hq1 : Hm.pickI op 48 ≤ 44) : InstOk op rd rs1 rs2 imm w := by
  have hb := Hm.pick_bd op 48 (by omega)
  have hb1 := Hm.pick_bd rd 32 (by omega)
  have hb2 := Hm.pick_bd rs1 32 (by omega)
  have hb3 := Hm.pick_bd rs2 32 (by omega)
  have hb4 := Hm.pick_bd imm 1048576 (by omega)
  have hb5 := Hm.pick_bd imm 4096 (by omega)
  have hb6 := Hm.pick_bd imm 32 (by omega)
  have HF : Hid (Hm.instF (1 + Hm.pickI op 48) rd rs1 rs2 imm = ⟨Hm.pickI rd 32, Hm.pickI rs1 32, Hm.pickI rs2 32, 0⟩) := by
    show _ = _
    unfold Hm.instF; rw [if_neg (by omega), if_neg (by omega), if_neg (by omega), if_neg (by omega), if_neg (by omega), if_pos (by omega)]
  unfold InstOk
  go_enter Tryd.func18, Tryd.ntmps18
  go_wp2_with (first | (go_at_call_of 44 (op); refine (pick_any _ _ _ HO.out (by omega) (by omega)).mono ?_; rintro e w' ⟨rfl, rfl⟩) | (go_at_call_of 44 (rd); refine (pick_any _ _ _ HO1.out (by omega) (by omega)).mono ?_; rintro e w' ⟨rfl, rfl⟩) | (go_at_call_of 44 (rs1); refine (pick_any _ _ _ HO2.out (by omega) (by omega)).mono ?_; rintro e w' ⟨rfl, rfl⟩) | (go_at_call_of 44 (rs2); refine (pick_any _ _ _ HO3.out (by omega) (by omega)).mono ?_; rintro e w' ⟨rfl, rfl⟩) | (go_at_call_of 44 (imm); refine (pick_any _ _ _ HO4.out (by omega) (by omega)).mono ?_; rintro e w' ⟨rfl, rfl⟩))
  exact bodyPost_ret (v := .agg #[.int .i64 (1 + Hm.pickI op 48), .int .i64 (Hm.pickI rd 32), .int .i64 (Hm.pickI rs1 32), .int .i64 (Hm.pickI rs2 32), .int .i64 (0)]) (by simp [results, Tryd.results18, go_sem]) rfl ⟨⟨Hm.pickI rd 32, Hm.pickI rs1 32, Hm.pickI rs2 32, 0⟩, HF.out.symm, rfl, below_three w _ _ _⟩

set_option maxRecDepth 100000 in
set_option maxHeartbeats 4000000 in
theorem inst_g (op rd rs1 rs2 imm : Int) (w : World) (HO : Hid (I64 op)) (HO1 : Hid (I64 rd)) (HO2 : Hid (I64 rs1)) (HO3 : Hid (I64 rs2)) (HO4 : Hid (I64 imm)) (hq0 : Hm.pickI op 48 = 3) : InstOk op rd rs1 rs2 imm w := by
  have hb := Hm.pick_bd op 48 (by omega)
  have hb1 := Hm.pick_bd rd 32 (by omega)
  have hb2 := Hm.pick_bd rs1 32 (by omega)
  have hb3 := Hm.pick_bd rs2 32 (by omega)
  have hb4 := Hm.pick_bd imm 1048576 (by omega)
  have hb5 := Hm.pick_bd imm 4096 (by omega)
  have hb6 := Hm.pick_bd imm 32 (by omega)
  have HF : Hid (Hm.instF (1 + Hm.pickI op 48) rd rs1 rs2 imm = ⟨Hm.pickI rd 32, Hm.pickI rs1 32, 0, Hm.pickI imm 4096 - 2048⟩) := by
    show _ = _
    unfold Hm.instF; rw [if_neg (by omega), if_neg (by omega), if_neg (by omega), if_neg (by omega), if_neg (by omega), if_neg (by omega), if_pos (by omega)]
  have hle : Hm.pickI op 48 ≤ 3 := by omega
  have hge : 3 ≤ Hm.pickI op 48 := by omega
  have hop : (1 + Hm.pickI op 48 == 3) = false := by rw [hq0]; rfl
  clear hq0
  unfold InstOk
  go_enter Tryd.func18, Tryd.ntmps18
  go_wp2_with (first | (go_at_call_of 44 (op); refine (pick_any _ _ _ HO.out (by omega) (by omega)).mono ?_; rintro e w' ⟨rfl, rfl⟩) | (go_at_call_of 44 (rd); refine (pick_any _ _ _ HO1.out (by omega) (by omega)).mono ?_; rintro e w' ⟨rfl, rfl⟩) | (go_at_call_of 44 (rs1); refine (pick_any _ _ _ HO2.out (by omega) (by omega)).mono ?_; rintro e w' ⟨rfl, rfl⟩) | (go_at_call_of 44 (rs2); refine (pick_any _ _ _ HO3.out (by omega) (by omega)).mono ?_; rintro e w' ⟨rfl, rfl⟩) | (go_at_call_of 44 (imm); refine (pick_any _ _ _ HO4.out (by omega) (by omega)).mono ?_; rintro e w' ⟨rfl, rfl⟩))
  exact bodyPost_ret (v := .agg #[.int .i64 (1 + Hm.pickI op 48), .int .i64 (Hm.pickI rd 32), .int .i64 (Hm.pickI rs1 32), .int .i64 (0), .int .i64 (Hm.pickI imm 4096 - 2048)]) (by simp [results, Tryd.results18, go_sem]) rfl ⟨⟨Hm.pickI rd 32, Hm.pickI rs1 32, 0, Hm.pickI imm 4096 - 2048⟩, HF.out.symm, rfl, below_three w _ _ _⟩

set_option maxRecDepth 100000 in
set_option maxHeartbeats 4000000 in
theorem inst_h (op rd rs1 rs2 imm : Int) (w : World) (HO : Hid (I64 op)) (HO1 : Hid (I64 rd)) (HO2 : Hid (I64 rs1)) (HO3 : Hid (I64 rs2)) (HO4 : Hid (I64 imm)) (hq0 : 10 ≤ Hm.pickI op 48) (hq1 : Hm.pickI op 48 ≤ 14) : InstOk op rd rs1 rs2 imm w := by
  have hb := Hm.pick_bd op 48 (by omega)
  have hb1 := Hm.pick_bd rd 32 (by omega)
  have hb2 := Hm.pick_bd rs1 32 (by omega)
  have hb3 := Hm.pick_bd rs2 32 (by omega)
  have hb4 := Hm.pick_bd imm 1048576 (by omega)
  have hb5 := Hm.pick_bd imm 4096 (by omega)
  have hb6 := Hm.pick_bd imm 32 (by omega)
  have HF : Hid (Hm.instF (1 + Hm.pickI op 48) rd rs1 rs2 imm = ⟨Hm.pickI rd 32, Hm.pickI rs1 32, 0, Hm.pickI imm 4096 - 2048⟩) := by
    show _ = _
    unfold Hm.instF; rw [if_neg (by omega), if_neg (by omega), if_neg (by omega), if_neg (by omega), if_neg (by omega), if_neg (by omega), if_pos (by omega)]
  unfold InstOk
  go_enter Tryd.func18, Tryd.ntmps18
  go_wp2_with (first | (go_at_call_of 44 (op); refine (pick_any _ _ _ HO.out (by omega) (by omega)).mono ?_; rintro e w' ⟨rfl, rfl⟩) | (go_at_call_of 44 (rd); refine (pick_any _ _ _ HO1.out (by omega) (by omega)).mono ?_; rintro e w' ⟨rfl, rfl⟩) | (go_at_call_of 44 (rs1); refine (pick_any _ _ _ HO2.out (by omega) (by omega)).mono ?_; rintro e w' ⟨rfl, rfl⟩) | (go_at_call_of 44 (rs2); refine (pick_any _ _ _ HO3.out (by omega) (by omega)).mono ?_; rintro e w' ⟨rfl, rfl⟩) | (go_at_call_of 44 (imm); refine (pick_any _ _ _ HO4.out (by omega) (by omega)).mono ?_; rintro e w' ⟨rfl, rfl⟩))
  exact bodyPost_ret (v := .agg #[.int .i64 (1 + Hm.pickI op 48), .int .i64 (Hm.pickI rd 32), .int .i64 (Hm.pickI rs1 32), .int .i64 (0), .int .i64 (Hm.pickI imm 4096 - 2048)]) (by simp [results, Tryd.results18, go_sem]) rfl ⟨⟨Hm.pickI rd 32, Hm.pickI rs1 32, 0, Hm.pickI imm 4096 - 2048⟩, HF.out.symm, rfl, below_three w _ _ _⟩

set_option maxRecDepth 100000 in
set_option maxHeartbeats 4000000 in
theorem inst_i (op rd rs1 rs2 imm : Int) (w : World) (HO : Hid (I64 op)) (HO1 : Hid (I64 rd)) (HO2 : Hid (I64 rs1)) (HO3 : Hid (I64 rs2)) (HO4 : Hid (I64 imm)) (hq0 : 18 ≤ Hm.pickI op 48) (hq1 : Hm.pickI op 48 ≤ 23) : InstOk op rd rs1 rs2 imm w := by
  have hb := Hm.pick_bd op 48 (by omega)
  have hb1 := Hm.pick_bd rd 32 (by omega)
  have hb2 := Hm.pick_bd rs1 32 (by omega)
  have hb3 := Hm.pick_bd rs2 32 (by omega)
  have hb4 := Hm.pick_bd imm 1048576 (by omega)
  have hb5 := Hm.pick_bd imm 4096 (by omega)
  have hb6 := Hm.pick_bd imm 32 (by omega)
  have HF : Hid (Hm.instF (1 + Hm.pickI op 48) rd rs1 rs2 imm = ⟨Hm.pickI rd 32, Hm.pickI rs1 32, 0, Hm.pickI imm 4096 - 2048⟩) := by
    show _ = _
    unfold Hm.instF; rw [if_neg (by omega), if_neg (by omega), if_neg (by omega), if_neg (by omega), if_neg (by omega), if_neg (by omega), if_pos (by omega)]
  unfold InstOk
  go_enter Tryd.func18, Tryd.ntmps18
  go_wp2_with (first | (go_at_call_of 44 (op); refine (pick_any _ _ _ HO.out (by omega) (by omega)).mono ?_; rintro e w' ⟨rfl, rfl⟩) | (go_at_call_of 44 (rd); refine (pick_any _ _ _ HO1.out (by omega) (by omega)).mono ?_; rintro e w' ⟨rfl, rfl⟩) | (go_at_call_of 44 (rs1); refine (pick_any _ _ _ HO2.out (by omega) (by omega)).mono ?_; rintro e w' ⟨rfl, rfl⟩) | (go_at_call_of 44 (rs2); refine (pick_any _ _ _ HO3.out (by omega) (by omega)).mono ?_; rintro e w' ⟨rfl, rfl⟩) | (go_at_call_of 44 (imm); refine (pick_any _ _ _ HO4.out (by omega) (by omega)).mono ?_; rintro e w' ⟨rfl, rfl⟩))
  exact bodyPost_ret (v := .agg #[.int .i64 (1 + Hm.pickI op 48), .int .i64 (Hm.pickI rd 32), .int .i64 (Hm.pickI rs1 32), .int .i64 (0), .int .i64 (Hm.pickI imm 4096 - 2048)]) (by simp [results, Tryd.results18, go_sem]) rfl ⟨⟨Hm.pickI rd 32, Hm.pickI rs1 32, 0, Hm.pickI imm 4096 - 2048⟩, HF.out.symm, rfl, below_three w _ _ _⟩

set_option maxRecDepth 100000 in
set_option maxHeartbeats 4000000 in
theorem inst_j (op rd rs1 rs2 imm : Int) (w : World) (HO : Hid (I64 op)) (HO1 : Hid (I64 rd)) (HO2 : Hid (I64 rs1)) (HO3 : Hid (I64 rs2)) (HO4 : Hid (I64 imm)) (hq0 : 45 ≤ Hm.pickI op 48) : InstOk op rd rs1 rs2 imm w := by
  have hb := Hm.pick_bd op 48 (by omega)
  have hb1 := Hm.pick_bd rd 32 (by omega)
  have hb2 := Hm.pick_bd rs1 32 (by omega)
  have hb3 := Hm.pick_bd rs2 32 (by omega)
  have hb4 := Hm.pick_bd imm 1048576 (by omega)
  have hb5 := Hm.pick_bd imm 4096 (by omega)
  have hb6 := Hm.pick_bd imm 32 (by omega)
  have HF : Hid (Hm.instF (1 + Hm.pickI op 48) rd rs1 rs2 imm = ⟨0, 0, 0, 0⟩) := by
    show _ = _
    unfold Hm.instF; rw [if_neg (by omega), if_neg (by omega), if_neg (by omega), if_neg (by omega), if_neg (by omega), if_neg (by omega), if_neg (by omega)]
  unfold InstOk
  go_enter Tryd.func18, Tryd.ntmps18
  go_wp2_with (first | (go_at_call_of 44 (op); refine (pick_any _ _ _ HO.out (by omega) (by omega)).mono ?_; rintro e w' ⟨rfl, rfl⟩) | (go_at_call_of 44 (rd); refine (pick_any _ _ _ HO1.out (by omega) (by omega)).mono ?_; rintro e w' ⟨rfl, rfl⟩) | (go_at_call_of 44 (rs1); refine (pick_any _ _ _ HO2.out (by omega) (by omega)).mono ?_; rintro e w' ⟨rfl, rfl⟩) | (go_at_call_of 44 (rs2); refine (pick_any _ _ _ HO3.out (by omega) (by omega)).mono ?_; rintro e w' ⟨rfl, rfl⟩) | (go_at_call_of 44 (imm); refine (pick_any _ _ _ HO4.out (by omega) (by omega)).mono ?_; rintro e w' ⟨rfl, rfl⟩))
  exact bodyPost_ret (v := .agg #[.int .i64 (1 + Hm.pickI op 48), .int .i64 (0), .int .i64 (0), .int .i64 (0), .int .i64 (0)]) (by simp [results, Tryd.results18, go_sem]) rfl ⟨⟨0, 0, 0, 0⟩, HF.out.symm, rfl, below_three w _ _ _⟩

theorem inst_any (op rd rs1 rs2 imm : Int) (w : World) (hop : I64 op) (hrd : I64 rd) (hrs1 : I64 rs1) (hrs2 : I64 rs2) (himm : I64 imm) : InstOk op rd rs1 rs2 imm w := by
  have hb := Hm.pick_bd op 48 (by omega)
  by_cases ha : Hm.pickI op 48 ≤ 1
  · exact inst_a op rd rs1 rs2 imm w hop hrd hrs1 hrs2 himm ha
  by_cases h2 : Hm.pickI op 48 = 2
  · exact inst_b op rd rs1 rs2 imm w hop hrd hrs1 hrs2 himm h2
  by_cases h3 : Hm.pickI op 48 = 3
  · exact inst_g op rd rs1 rs2 imm w hop hrd hrs1 hrs2 himm h3
  by_cases h4 : Hm.pickI op 48 ≤ 9
  · exact inst_c op rd rs1 rs2 imm w hop hrd hrs1 hrs2 himm (by omega) h4
  by_cases h5 : Hm.pickI op 48 ≤ 14
  · exact inst_h op rd rs1 rs2 imm w hop hrd hrs1 hrs2 himm (by omega) h5
  by_cases h6 : Hm.pickI op 48 ≤ 17
  · exact inst_d op rd rs1 rs2 imm w hop hrd hrs1 hrs2 himm (by omega) h6
  by_cases h7 : Hm.pickI op 48 ≤ 23
  · exact inst_i op rd rs1 rs2 imm w hop hrd hrs1 hrs2 himm (by omega) h7
  by_cases h8 : Hm.pickI op 48 ≤ 26
  · exact inst_e op rd rs1 rs2 imm w hop hrd hrs1 hrs2 himm (by omega) h8
  by_cases h9 : Hm.pickI op 48 ≤ 44
  · exact inst_f op rd rs1 rs2 imm w hop hrd hrs1 hrs2 himm (by omega) h9
  · exact inst_j op rd rs1 rs2 imm w hop hrd hrs1 hrs2 himm (by omega)
end Go.Proofs.YtdcmdjeooklmjaaDoor
