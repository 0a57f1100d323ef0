/-
  Walks: package code's Legal.
-/
import Derived.Test.YtkjkddcgigbglaaDoorC2
import Derived.Test.YtkjkddcgigbglaaDoorLW
set_option linter.unusedVariables false
set_option linter.unusedSimpArgs false
namespace Go.Proofs.YtkjkddcgigbglaaDoor
open Go.RowKit

def LayoutOf : Prop := ∀ (f : Int) (w : World), 0 ≤ f → f ≤ 9 → Calls Tryd.prog 27 #[.int .u8 f] w fun e w' => e = .returned (layV (Hm.lay f)) ∧ Below w.heap.size w w'

theorem fld_row (a b : Int) (w : World) : (Instr.field 53 (.agg #[.int .u8 a, .int .u32 b]) 0).run Tryd.prog w = .ok (.int .u8 a) w := by kernel_rfl

theorem legalC_no {op rd rs1 rs2 imm : Int} (h : Hm.fmtOf op = 0) : Hm.legalC op rd rs1 rs2 imm = false := by
  unfold Hm.legalC; rw [if_pos h]
theorem legalC_yes {op rd rs1 rs2 imm : Int} (h : ¬ Hm.fmtOf op = 0) : Hm.legalC op rd rs1 rs2 imm = (Hm.fitsC rd (Hm.lay (Hm.fmtOf op)).rd && Hm.fitsC rs1 (Hm.lay (Hm.fmtOf op)).rs1 && Hm.fitsC rs2 (Hm.lay (Hm.fmtOf op)).rs2 && Hm.holdsC (Hm.lay (Hm.fmtOf op)).least (Hm.lay (Hm.fmtOf op)).most (Hm.lay (Hm.fmtOf op)).even imm) := by
  unfold Hm.legalC; rw [if_neg h]

set_option maxRecDepth 100000 in
set_option maxHeartbeats 1000000 in
theorem legal_no (op rd rs1 rs2 imm : Int) (w : World) (ht : Tab w) (h : Hm.fmtOf op = 0) :
    Calls Tryd.prog 13 #[.agg #[.int .i64 op, .int .i64 rd, .int .i64 rs1, .int .i64 rs2, .int .i64 imm]] w fun e w' => e = .returned (.bool (Hm.legalC op rd rs1 rs2 imm)) ∧ Below w.heap.size w w' := by
  have HN : Hid (Hm.legalC op rd rs1 rs2 imm = false) := legalC_no h
  have HT : Hid (Tab w) := ht
  clear ht
  have hfl := fld_row
  go_enter Tryd.func13, Tryd.ntmps13
  go_wp2_with fail
  refine (rowOf_any _ _ (HT.out.alloc _)).mono ?_
  rintro e w1 ⟨rfl, hb⟩
  have HB : Hid (Below w.heap.size w w1) := ((Below.refl _ _).alloc (Nat.le_refl _) _).trans (hb.mono (by simp))
  clear hb
  go_wp2
  go_ret
  exact ⟨ret_bool HN.out.symm, HB.out⟩

set_option maxRecDepth 100000 in
set_option maxHeartbeats 4000000 in
theorem legal_yes (hlay : LayoutOf) (op rd rs1 rs2 imm : Int) (w : World) (ht : Tab w) (h : ¬ Hm.fmtOf op = 0) :
    Calls Tryd.prog 13 #[.agg #[.int .i64 op, .int .i64 rd, .int .i64 rs1, .int .i64 rs2, .int .i64 imm]] w fun e w' => e = .returned (.bool (Hm.legalC op rd rs1 rs2 imm)) ∧ Below w.heap.size w w' := by
  have HN : Hid (Hm.legalC op rd rs1 rs2 imm = _) := legalC_yes h
  have HT : Hid (Tab w) := ht
  have h' : (Hm.fmtOf op == 0) = false := by simpa using h
  have hfb := Hm.fmt_bd op
  clear ht h
  have hfl := fld_row
  go_enter Tryd.func13, Tryd.ntmps13
  go_wp2_with fail
  refine (rowOf_any _ _ (HT.out.alloc _)).mono ?_
  rintro e w1 ⟨rfl, hb⟩
  have HB : Hid (Below w.heap.size w w1) := ((Below.refl _ _).alloc (Nat.le_refl _) _).trans (hb.mono (by simp))
  have hz : w.heap.size < w1.heap.size := by have := hb.size; simp at this; omega
  have c1 : w1.cell? ⟨w.heap.size, 1, none⟩ = some (.int .i64 rd) := by rw [bcell hb _ _ (by simp)]; simp
  have c2 : w1.cell? ⟨w.heap.size, 2, none⟩ = some (.int .i64 rs1) := by rw [bcell hb _ _ (by simp)]; simp
  have c3 : w1.cell? ⟨w.heap.size, 3, none⟩ = some (.int .i64 rs2) := by rw [bcell hb _ _ (by simp)]; simp
  have c4 : w1.cell? ⟨w.heap.size, 4, none⟩ = some (.int .i64 imm) := by rw [bcell hb _ _ (by simp)]; simp
  clear hb
  go_wp2_with fail
  refine (hlay _ _ hfb.1 hfb.2).mono ?_
  rintro e w2 ⟨rfl, hb2⟩
  have HB2 : Hid (Below w.heap.size w w2) := HB.out.trans (hb2.mono (by omega))
  have hz2 : w.heap.size < w2.heap.size := by have := hb2.size; omega
  have d1 : w2.cell? ⟨w.heap.size, 1, none⟩ = some (.int .i64 rd) := by rw [bcell hb2 _ _ hz]; exact c1
  have d2 : w2.cell? ⟨w.heap.size, 2, none⟩ = some (.int .i64 rs1) := by rw [bcell hb2 _ _ hz]; exact c2
  have d3 : w2.cell? ⟨w.heap.size, 3, none⟩ = some (.int .i64 rs2) := by rw [bcell hb2 _ _ hz]; exact c3
  have d4 : w2.cell? ⟨w.heap.size, 4, none⟩ = some (.int .i64 imm) := by rw [bcell hb2 _ _ hz]; exact c4
  clear c1 c2 c3 c4 HB hb2 hz hfb h'
  unfold layV
  generalize Hm.lay (Hm.fmtOf op) = L at *
  cases hA : Hm.fitsC rd L.rd with
  | false =>
    go_wp2_with (first | ((with_reducible refine' wl_store_new (cells := _) ?hx ?hy ?hi ?ho ?h1 ?h); (case hx => rfl); (case hy => rfl); (case hi => kernel_rfl); (case ho => rfl); (case h1 => kernel_rfl)) | (go_at_call 28; refine (cfits_any _ _ _).mono ?_; rintro e w' ⟨rfl, rfl⟩))
    go_ret
    exact ⟨ret_bool (by rw [HN.out, hA]; rfl), HB2.out.alloc (by omega) _⟩
  | true =>
    cases hB : Hm.fitsC rs1 L.rs1 with
    | false =>
      go_wp2_with (first | ((with_reducible refine' wl_store_new (cells := _) ?hx ?hy ?hi ?ho ?h1 ?h); (case hx => rfl); (case hy => rfl); (case hi => kernel_rfl); (case ho => rfl); (case h1 => kernel_rfl)) | (go_at_call 28; refine (cfits_any _ _ _).mono ?_; rintro e w' ⟨rfl, rfl⟩))
      go_ret
      exact ⟨ret_bool (by rw [HN.out, hA, hB]; rfl), HB2.out.alloc (by omega) _⟩
    | true =>
      cases hC : Hm.fitsC rs2 L.rs2 with
      | false =>
        go_wp2_with (first | ((with_reducible refine' wl_store_new (cells := _) ?hx ?hy ?hi ?ho ?h1 ?h); (case hx => rfl); (case hy => rfl); (case hi => kernel_rfl); (case ho => rfl); (case h1 => kernel_rfl)) | (go_at_call 28; refine (cfits_any _ _ _).mono ?_; rintro e w' ⟨rfl, rfl⟩))
        go_ret
        exact ⟨ret_bool (by rw [HN.out, hA, hB, hC]; rfl), HB2.out.alloc (by omega) _⟩
      | true =>
        go_wp2_with (first | ((with_reducible refine' wl_store_new (cells := _) ?hx ?hy ?hi ?ho ?h1 ?h); (case hx => rfl); (case hy => rfl); (case hi => kernel_rfl); (case ho => rfl); (case h1 => kernel_rfl)) | (go_at_call 28; refine (cfits_any _ _ _).mono ?_; rintro e w' ⟨rfl, rfl⟩))
        refine (holds_any _ _ _ _ _).mono ?_
        rintro e w3 ⟨rfl, hb3⟩
        have HB3 : Hid (Below w.heap.size w w3) := (HB2.out.alloc (by omega) _).trans (hb3.mono (by simp; omega))
        clear hb3
        go_wp2
        go_ret
        exact ⟨ret_bool (by rw [HN.out, hA, hB, hC]; rfl), HB3.out⟩

theorem legal_any (hlay : LayoutOf) (op rd rs1 rs2 imm : Int) (w : World) (ht : Tab w) :
    Calls Tryd.prog 13 #[.agg #[.int .i64 op, .int .i64 rd, .int .i64 rs1, .int .i64 rs2, .int .i64 imm]] w fun e w' => e = .returned (.bool (Hm.legalC op rd rs1 rs2 imm)) ∧ Below w.heap.size w w' := by
  by_cases h : Hm.fmtOf op = 0
  · exact legal_no op rd rs1 rs2 imm w ht h
  · exact legal_yes hlay op rd rs1 rs2 imm w ht h
end Go.Proofs.YtkjkddcgigbglaaDoor
