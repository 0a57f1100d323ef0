/-
  NC in one text.
-/
import Derived.Test.YtdcmdjeooklmjaaDoorVD
import Derived.Test.YtdcmdjeooklmjaaDoorVC
set_option linter.unusedVariables false
set_option linter.unusedSimpArgs false
/-
  Walks: a work's do: compute, pause, halt.
-/
namespace Go.Proofs.YtdcmdjeooklmjaaDoor
open Go.RowKit Go.PageMap Go.Maps
set_option maxRecDepth 100000
/-- What is below both tables' blocks. -/
def Gl (w : World) : Prop := 1 < w.heap.size ∧ 0 < w.heap.size
theorem Tab.steps {L L' : Lay} {w w' : World} {M : Mc} (h : Tab w) (ha : At w L M) (hs : Steps L w L' w') : Tab w' := h.blocks hs.size (hs.block _ h.1 (fun hf => Nat.lt_irrefl _ (ha.high _ hf).1))
theorem BoxAt.steps {L L' : Lay} {w w' : World} {B : Nat} {T : TypeId} {c : Cm} (h : BoxAt w B T c) (hs : Steps L w L' w') (hf : ¬ L.foot B) : BoxAt w' B T c := by rw [BoxAt, hs.block _ (Array.getElem?_eq_some_iff.1 h).1 hf]; exact h

set_option maxHeartbeats 2000000 in
theorem m_compute_do (w : World) (L : Lay) (M : Mc) (c : Cm) (h : At w L M) (ht : Tab w) (hc : CmOk c) (hr : RegsOk M) :
    Calls Tryd.prog 182 #[cmV c, .pointer (some ⟨L.b, 0, none⟩)] w fun e w' => e = .returned (.tuple #[]) ∧ At w' L { M.put c.rd (resC c (M.regs c.rs1) (opdC M c)) with pc := c.next } ∧ Steps L w L w' := by
  have hlt := h.cells.lt
  have HA : Hid (At w L M) := h
  have HT : Hid (Tab w) := ht
  have HC : Hid (CmOk c) := hc
  have HR : Hid (RegsOk M) := hr
  clear h ht hc hr
  unfold cmV
  go_enter Tryd.func182, Tryd.ntmps182
  go_wp2_with fail
  generalize hW : w.alloc _ = W0
  have HB0 : Hid (Below w.heap.size w W0) := by rw [Hid, ← hW]; exact (Below.refl _ _).alloc (Nat.le_refl _) _
  have HBx : Hid (BoxAt W0 w.heap.size 232 c) := by rw [Hid, ← hW]; exact BoxAt.new w _ c
  have hsz : w.heap.size < W0.heap.size := by rw [← hW]; simp
  have hnf : ¬ L.foot w.heap.size := fun hf => Nat.lt_irrefl _ (HA.out.foot_lt hf)
  obtain ⟨e0, e1, e2, e3, e4, e5, e6⟩ := HBx.out.cell
  have HA0 : Hid (At W0 L M) := HA.out.below HB0.out (Nat.le_refl _)
  have HT0 : Hid (Tab W0) := HT.out.below HB0.out HT.out.1
  have HS0 : Hid (Steps L w L W0.drew) := (Steps.below HB0.out).trans (Steps.drew _ _)
  clear hW
  go_region_with (first
    | (go_at_call 183; refine (m_result_any W0.drew L M c HA0.out.drew (HT0.out.blocks (Nat.le_refl _) rfl) HC.out HR.out).mono ?_; rintro e w1 ⟨rfl, hb1⟩; have HA1 : Hid (At w1 L M) := HA0.out.drew.below hb1 (Nat.le_refl _); have HS1 : Hid (Steps L w L w1) := HS0.out.trans (Steps.below hb1); have HX1 : Hid (BoxAt w1 w.heap.size 232 c) := BoxAt.below (W := W0.drew) HBx.out hb1 hsz; obtain ⟨f0, f1, f2, f3, f4, f5, f6⟩ := HX1.out.cell; clear hb1)
    | (go_at_call 176; refine (m_setRegister_any w1 L M c.rd _ HA1.out HC.out.rd).mono ?_; rintro e w2 ⟨rfl, hA2, hS2⟩; have HA2 : Hid (At w2 L (M.put c.rd (resC c (M.regs c.rs1) (opdC M c)))) := hA2; have HS2 : Hid (Steps L w L w2) := HS1.out.trans hS2; have HX2 : Hid (BoxAt w2 w.heap.size 232 c) := HX1.out.steps hS2 hnf; obtain ⟨g0, g1, g2, g3, g4, g5, g6⟩ := HX2.out.cell; clear hA2 hS2))
  all_goals clear e0 e1 e2 e3 e4 e5 e6 f0 f1 f2 f3 f4 f5 f6
  all_goals go_wp2_with (go_at_call 129; refine (m_next_any w2 c HC.out).mono ?_; rintro e w3 ⟨rfl, hb3⟩; have HA3 : Hid (At w3 L (M.put c.rd (resC c (M.regs c.rs1) (opdC M c)))) := HA2.out.below hb3 (Nat.le_refl _); have HS3 : Hid (Steps L w L w3) := HS2.out.trans (Steps.below hb3); have hp3 := HA3.out.pc; have hf3 := HA3.out.free 0; clear hb3)
  all_goals go_end0
  all_goals exact ⟨rfl, HA3.out.setPc _, HS3.out.trans (Steps.set _ _ _)⟩
end Go.Proofs.YtdcmdjeooklmjaaDoor
