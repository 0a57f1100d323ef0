/-
  Walks: hartref's Legal.
-/
import Derived.Test.YtkjkddcgigbglaaDoorW6
import Derived.BigQuiet
import Derived.Test.YtkjkddcgigbglaaDoorH
set_option linter.unusedVariables false
set_option linter.unusedSimpArgs false
namespace Go.Proofs.YtkjkddcgigbglaaDoor
open Go.RowKit

theorem bcell {B : Nat} {W w1 : World} (hb : Below B W w1) : (∀ b o, b < B → w1.cell? ⟨b, o, none⟩ = W.cell? ⟨b, o, none⟩) :=
  fun b o h => hb.cell (p := ⟨b, o, none⟩) h

theorem legalR_no {op rd rs1 rs2 imm : Int} (h : op < 1 ∨ 48 < op) : Hm.legalR op rd rs1 rs2 imm = false := by
  unfold Hm.legalR; rw [if_neg (by omega)]
theorem legalR_yes {op rd rs1 rs2 imm : Int} (h : 1 ≤ op ∧ op ≤ 48) : Hm.legalR op rd rs1 rs2 imm = (Hm.regB rd (Hm.hasB (Hm.bitsL op.toNat) 100) && Hm.regB rs1 (Hm.hasB (Hm.bitsL op.toNat) 115) && Hm.regB rs2 (Hm.hasB (Hm.bitsL op.toNat) 116) && Hm.fitsB (Hm.kind (Hm.bitsL op.toNat)) imm) := by
  unfold Hm.legalR; rw [if_pos h]

set_option maxRecDepth 100000 in
set_option maxHeartbeats 1000000 in
theorem refLegal_no (op rd rs1 rs2 imm : Int) (w : World) (h : op < 1 ∨ 48 < op) :
    Calls Tryd.prog 6 #[.agg #[.int .i64 op, .int .i64 rd, .int .i64 rs1, .int .i64 rs2, .int .i64 imm]] w fun e w' => e = .returned (.bool (Hm.legalR op rd rs1 rs2 imm)) ∧ Below w.heap.size w w' := by
  have HN : Hid (Hm.legalR op rd rs1 rs2 imm = false) := legalR_no h
  rcases h with h | h
  · go_enter Tryd.func6, Tryd.ntmps6
    go_wp2
    go_ret
    exact ⟨ret_bool HN.out.symm, (Below.refl _ _).alloc (Nat.le_refl _) _⟩
  · have h' : ¬ op < 1 := by omega
    go_enter Tryd.func6, Tryd.ntmps6
    go_wp2
    go_ret
    exact ⟨ret_bool HN.out.symm, (Below.refl _ _).alloc (Nat.le_refl _) _⟩

set_option maxRecDepth 100000 in
set_option maxHeartbeats 2000000 in
theorem refLegal_yes (k : Nat) (rd rs1 rs2 imm : Int) (w : World) (h1 : 1 ≤ k) (h2 : k ≤ 48) :
    Calls Tryd.prog 6 #[.agg #[.int .i64 k, .int .i64 rd, .int .i64 rs1, .int .i64 rs2, .int .i64 imm]] w fun e w' => e = .returned (.bool (Hm.legalR k rd rs1 rs2 imm)) ∧ Below w.heap.size w w' := by
  have HN : Hid (Hm.legalR (k : Int) rd rs1 rs2 imm = _) := legalR_yes (by omega)
  rw [Int.toNat_natCast] at HN
  have h3 : ((k : Int) < 1) = False := by simp; omega
  have h4 : (k : Int) < 49 := by omega
  have h5 : (0 : Int) ≤ k := by omega
  go_enter Tryd.func6, Tryd.ntmps6
  go_wp2
  refine wp_region_held_drew (S := fun w' => w'.cell? ⟨w.heap.size, 0, none⟩ = some (.int .i64 k)) (by kernel_rfl) (by go_keep) (fun hHeld => ?_)
  refine' takeH_1 _ (by kernel_rfl) (by kernel_rfl) (by kernel_rfl) (fun _ _ _ h => h) (by rfl) ?hy1 hHeld ?rest1
  case hy1 => (intro w hSw; (try dsimp only at hSw); go_simp; try with_reducible rfl)
  simp only [Act.put, List.setIfInBounds_toArray, List.set_cons_zero, List.set_cons_succ]
  refine' takeH_2 _ (by kernel_rfl) (by kernel_rfl) (by kernel_rfl) (fun _ _ _ h => h) (by rfl) ?hy2 hHeld ?rest2
  case hy2 => (intro w hSw; (try dsimp only at hSw); go_simp; try with_reducible rfl)
  simp only [Act.put, List.setIfInBounds_toArray, List.set_cons_zero, List.set_cons_succ]
  refine runH_0 (by kernel_rfl) (fun K hK => ?_)
  go_simp
  (go_at_call 14; refine (bits_any _).mono ?_; rintro e w1 ⟨rfl, hz, hb, hc⟩; go_wp2_with fail)
  refine hK.out _ _ ?hS4 (fun hHeld => ?rest4)
  case hS4 => ((first | (go_keep; done) | (rw [bcell hb _ _ (by simp)]; simp)))
  clear hK K
  (try simp only [Act.put, List.setIfInBounds_toArray, List.set_cons_zero, List.set_cons_succ])
  have hck := hc k (by omega)
  simp at hck
  refine' takeH_3 _ (by kernel_rfl) (by kernel_rfl) (by kernel_rfl) (fun _ _ _ h => h) (by rfl) ?hy5 hHeld ?rest5
  case hy5 => (intro w hSw; (try dsimp only at hSw); go_simp; try with_reducible rfl)
  simp only [Act.put, List.setIfInBounds_toArray, List.set_cons_zero, List.set_cons_succ]
  refine runH_4 (by kernel_rfl) (fun K hK => ?_)
  go_simp
  refine hK.out _ _ ?hS7 (fun hHeld => ?rest7)
  case hS7 => (exact hHeld)
  clear hK K
  (try simp only [Act.put, List.setIfInBounds_toArray, List.set_cons_zero, List.set_cons_succ])
  refine' takeH_5 _ (by kernel_rfl) (by kernel_rfl) (by kernel_rfl) (fun _ _ _ h => h) (by rfl) ?hy8 hHeld ?rest8
  case hy8 => (intro w hSw; (try dsimp only at hSw); go_simp; try with_reducible rfl)
  simp only [Act.put, List.setIfInBounds_toArray, List.set_cons_zero, List.set_cons_succ]
  refine wpAnyH_done (by kernel_rfl) ?_ _
  have c1 : w1.cell? ⟨w.heap.size, 1, none⟩ = some (.int .i64 rd) := by rw [bcell hb _ _ (by simp)]; simp
  have c2 : w1.cell? ⟨w.heap.size, 2, none⟩ = some (.int .i64 rs1) := by rw [bcell hb _ _ (by simp)]; simp
  have c3 : w1.cell? ⟨w.heap.size, 3, none⟩ = some (.int .i64 rs2) := by rw [bcell hb _ _ (by simp)]; simp
  have c4 : w1.cell? ⟨w.heap.size, 4, none⟩ = some (.int .i64 imm) := by rw [bcell hb _ _ (by simp)]; simp
  have HB : Hid (Below w.heap.size w w1) := (((Below.refl _ _).alloc (Nat.le_refl _) _).drew).trans (hb.mono (by simp))
  have hsz : (Hm.bitsS k).size ≤ 1000 := Nat.le_trans (Hm.bitsS_size k) (by decide)
  clear hb hc hck hz hHeld h3 h4 h5
  go_wp2
  go_quiet ((first | (go_at_call 16; exact Calls.quiet_of_same (has_any _ _ _ hsz)) | (go_at_call 15; exact Calls.quiet_of_same (register_any _ _ _))))
  have c2x : (w1.drewN nq).cell? ⟨w.heap.size, 2, none⟩ = some (.int .i64 rs1) := by simpa using c2
  have c3x : (w1.drewN nq).cell? ⟨w.heap.size, 3, none⟩ = some (.int .i64 rs2) := by simpa using c3
  have c4x : (w1.drewN nq).cell? ⟨w.heap.size, 4, none⟩ = some (.int .i64 imm) := by simpa using c4
  have HB2 : Hid (Below w.heap.size w (w1.drewN nq)) := below_drewN HB.out nq
  clear HB c1 c2 c3 c4
  generalize w1.drewN nq = w2 at *
  go_wp2
  go_quiet ((first | (go_at_call 16; exact Calls.quiet_of_same (has_any _ _ _ hsz)) | (go_at_call 15; exact Calls.quiet_of_same (register_any _ _ _))))
  have c3xx : (w2.drewN nq).cell? ⟨w.heap.size, 3, none⟩ = some (.int .i64 rs2) := by simpa using c3x
  have c4xx : (w2.drewN nq).cell? ⟨w.heap.size, 4, none⟩ = some (.int .i64 imm) := by simpa using c4x
  have HB3 : Hid (Below w.heap.size w (w2.drewN nq)) := below_drewN HB2.out nq
  clear HB2 c2x c3x c4x
  generalize w2.drewN nq = w3 at *
  go_wp2
  go_quiet ((first | (go_at_call 16; exact Calls.quiet_of_same (has_any _ _ _ hsz)) | (go_at_call 15; exact Calls.quiet_of_same (register_any _ _ _))))
  have c4xxx : (w3.drewN nq).cell? ⟨w.heap.size, 4, none⟩ = some (.int .i64 imm) := by simpa using c4xx
  have HB4 : Hid (Below w.heap.size w (w3.drewN nq)) := below_drewN HB3.out nq
  clear HB3 c3xx c4xx
  generalize w3.drewN nq = w4 at *
  go_wp2
  go_quiet ((first | (go_at_call 18; exact Calls.quiet_of_same (kind_any _ _ hsz)) | (go_at_call 17; exact Calls.quiet_of_same (fits_any _ _ _ (kind_ok _)))))
  have HB5 : Hid (Below w.heap.size w (w4.drewN nq)) := below_drewN HB4.out nq
  clear HB4 c4xxx
  generalize w4.drewN nq = w5 at *
  go_wp2
  all_goals
    clear hHeld
    go_ret
    refine ⟨ret_bool ?_, HB5.out⟩
    rw [HN.out]
    simp only [← Hm.bitsS_list]
    simp [*]

theorem refLegal_any (op rd rs1 rs2 imm : Int) (w : World) :
    Calls Tryd.prog 6 #[.agg #[.int .i64 op, .int .i64 rd, .int .i64 rs1, .int .i64 rs2, .int .i64 imm]] w fun e w' => e = .returned (.bool (Hm.legalR op rd rs1 rs2 imm)) ∧ Below w.heap.size w w' := by
  by_cases h : 1 ≤ op ∧ op ≤ 48
  · obtain ⟨k, rfl⟩ := Int.eq_ofNat_of_zero_le (by omega : 0 ≤ op)
    exact refLegal_yes k rd rs1 rs2 imm w (by omega) (by omega)
  · exact refLegal_no op rd rs1 rs2 imm w (by omega)
end Go.Proofs.YtkjkddcgigbglaaDoor
