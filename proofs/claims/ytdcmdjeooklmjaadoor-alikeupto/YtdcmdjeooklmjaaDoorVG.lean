/-
  NE in one text.
-/
import Derived.Test.YtdcmdjeooklmjaaDoorVE
import Derived.Test.YtdcmdjeooklmjaaDoorVF
import Derived.Test.YtdcmdjeooklmjaaDoorVB
set_option linter.unusedVariables false
set_option linter.unusedSimpArgs false
/-
  Walks: clearAway. What all works answer (IsWork).
-/
namespace Go.Proofs.YtdcmdjeooklmjaaDoor
open Go.RowKit Go.PageMap Go.Maps
/-- An interface value that is the work of c. -/
def IsWork (T : TypeId) (pay : Value) (c : Cm) : Prop := ∀ w, (method 379 T pay "hart/machine.about").run Tryd.prog w = .ok (167, cmV c) w
theorem isWork_compute (c : Cm) : IsWork 232 (cmV c) c := fun _ => by kernel_rfl
theorem isWork_load (c : Cm) : IsWork 230 (cmV c) c := fun _ => by kernel_rfl
theorem isWork_store (c : Cm) : IsWork 185 (cmV c) c := fun _ => by kernel_rfl
theorem isWork_jump (c : Cm) : IsWork 228 (cmV c) c := fun _ => by kernel_rfl
theorem isWork_branch (c : Cm) : IsWork 229 (cmV c) c := fun _ => by kernel_rfl
theorem isWork_pause (c : Cm) : IsWork 231 (cmV c) c := fun _ => by kernel_rfl
theorem isWork_halt (c : Cm) (k : Int) : IsWork 183 (haltV c k) c := fun _ => by kernel_rfl
/-- A work as an interface value. -/
structure Wk where
  T : TypeId
  pay : Value
  c : Cm
def sumN (ws : List Wk) : Nat := (ws.map (·.c.n)).sum
/-- The works lie one behind the other in block g. -/
structure WorksAt (w : World) (g : Nat) (ws : List Wk) : Prop where
  lt : g < w.heap.size
  cell : ∀ i (hi : i < ws.length), w.cell? ⟨g, i, none⟩ = some (.iface (ws[i]).T (ws[i]).pay)
  work : ∀ x ∈ ws, IsWork x.T x.pay x.c
  ok : ∀ x ∈ ws, CmOk x.c
theorem WorksAt.block {w w' : World} {g : Nat} {ws : List Wk} (h : WorksAt w g ws) (hs : w.heap.size ≤ w'.heap.size) (hb : w'.heap[g]? = w.heap[g]?) : WorksAt w' g ws :=
  ⟨Nat.lt_of_lt_of_le h.lt hs, fun i hi => by rw [World.cell?_of_block (w := w) (a := ⟨g, i, none⟩) hb]; exact h.cell i hi, h.work, h.ok⟩
theorem WorksAt.below {w w' : World} {g : Nat} {ws : List Wk} (h : WorksAt w g ws) (hb : Below w.heap.size w w') : WorksAt w' g ws := h.block hb.size (hb.block _ h.lt)
theorem WorksAt.steps {w w' : World} {L L' : Lay} {g : Nat} {ws : List Wk} (h : WorksAt w g ws) (hs : Steps L w L' w') (hf : ¬ L.foot g) : WorksAt w' g ws := h.block hs.size (hs.block _ h.lt hf)
/-- Behind clearAway. -/
def Mc.clear (M : Mc) (stored : Bool) (last : Cm) (n : Nat) : Mc := if stored = true ∨ M.pc ≠ last.next then { M with par := [], ahead := M.pc } else { M with par := M.par.drop n }
theorem sumN_append (a b : List Wk) : sumN (a ++ b) = sumN a + sumN b := by unfold sumN; rw [List.map_append, List.sum_append]
theorem sumN_step (ws : List Wk) (k : Nat) (hk : k < ws.length) : sumN (ws.take (k + 1)) = sumN (ws.take k) + (ws[k]).c.n ∧ sumN (ws.take (k + 1)) ≤ sumN ws := by
  constructor
  · rw [List.take_succ_eq_append_getElem hk, sumN_append]; simp only [sumN, List.map_cons, List.map_nil, List.sum_cons, List.sum_nil, Nat.add_zero]
  · have h := sumN_append (ws.take (k + 1)) (ws.drop (k + 1))
    rw [List.take_append_drop] at h
    omega
theorem fld_common (c : Cm) (w : World) : (Instr.field 181 (cmV c) 2).run Tryd.prog w = .ok (.int .i64 c.n) w := by kernel_rfl
theorem Gl.le {w w' : World} (h : Gl w) (hs : w.heap.size ≤ w'.heap.size) : Gl w' := ⟨Nat.lt_of_lt_of_le h.1 hs, Nat.lt_of_lt_of_le h.2 hs⟩
set_option maxRecDepth 100000
set_option maxHeartbeats 2000000 in
theorem m_clearAway_any (w : World) (L : Lay) (M : Mc) (ws : List Wk) (g : Nat) (st : Bool) (h : At w L M) (hz : Gl w) (hw : WorksAt w g ws) (hne : 0 < ws.length) (hlen : ws.length ≤ 2) (hn : sumN ws ≤ M.par.length) (hnf : ¬ L.foot g) :
    Calls Tryd.prog 111 #[.pointer (some ⟨L.b, 0, none⟩), .slice (some ⟨g, 0, none⟩) ws.length ws.length, .bool st] w fun e w' => e = .returned (.tuple #[]) ∧ ∃ L', At w' L' (M.clear st (ws[ws.length - 1]'(by omega)).c (sumN ws)) ∧ Steps L w L' w' := by
  obtain ⟨x, hx⟩ : ∃ x, x = ws[ws.length - 1]'(by omega) := ⟨_, rfl⟩
  rw [← hx]
  have hmem : x ∈ ws := by rw [hx]; exact List.getElem_mem _
  have hcx : w.cell? ⟨g, ws.length - 1, none⟩ = some (.iface x.T x.pay) := by rw [hx]; exact hw.cell _ _
  have ham : ∀ w, (method 379 x.T x.pay "hart/machine.about").run Tryd.prog w = .ok (167, cmV x.c) w := hw.work x hmem
  have HCX : Hid (CmOk x.c) := hw.ok x hmem
  have hlt := h.cells.lt
  have HA : Hid (At w L M) := h
  have HZ : Hid (Gl w) := hz
  have HW : Hid (WorksAt w g ws) := hw
  have HN : Hid (sumN ws ≤ M.par.length) := hn
  have hi0 : (0 : Int) ≤ (ws.length : Int) - 1 ∧ (ws.length : Int) - 1 < (ws.length : Int) := by omega
  have hi1 : ((ws.length : Int) - 1).toNat = ws.length - 1 := by omega
  have hll : ws.length ≤ 9223372036854775807 := by omega
  unfold cmV at ham
  clear h hz hw hx hmem hn
  cases st with
  | true =>
    have HM : Hid (M.clear true x.c (sumN ws) = { M with par := [], ahead := M.pc }) := by rw [Hid, Mc.clear, if_pos (.inl rfl)]
    rw [HM.out]
    go_enter Tryd.func111, Tryd.ntmps111
    go_wp2_with (go_at_call 167; refine (m_about_any w x.c).mono ?_; rintro e w1 ⟨rfl, hb1⟩; unfold cmV; have HB1 : Hid (Below w.heap.size w w1) := hb1; clear hb1)
    generalize hW : w1.alloc _ = W2
    have HB2 : Hid (Below w.heap.size w W2) := by rw [Hid, ← hW]; exact HB1.out.alloc HB1.out.size _
    have HX2 : Hid (BoxAt W2 w1.heap.size 181 x.c) := by rw [Hid, ← hW]; exact BoxAt.new w1 _ x.c
    have hsz : w1.heap.size < W2.heap.size := by rw [← hW]; simp
    have HA2 : Hid (At W2 L M) := HA.out.below HB2.out (Nat.le_refl _)
    have HW2 : Hid (WorksAt W2 g ws) := HW.out.below HB2.out
    have hpc := HA2.out.pc
    obtain ⟨e0, e1, e2, e3, e4, e5, e6⟩ := HX2.out.cell
    have HZ2 : Hid (Gl W2) := HZ.out.le HB2.out.size
    clear hW
    go_quiet (fail)
    go_wp2_with fail
    have hpc2 := (HA2.out.drewN nq).pc
    go_region_with (go_at_call 106; refine (m_restart_any _ L M M.pc ((HA2.out.drewN nq).drew)).mono ?_; rintro e w4 ⟨rfl, L4, hA4, hS4⟩; have HA4 : Hid (At w4 L4 { M with par := [], ahead := M.pc }) := hA4; have HS4 : Hid (Steps L w L4 w4) := (((Steps.below HB2.out).trans (Steps.drewN L W2 nq)).trans (Steps.drew L _)).trans hS4; clear hA4 hS4)
    all_goals go_wp2
    all_goals exact bodyPost_ret (v := .tuple #[]) (by simp [results, Tryd.results111]) rfl ⟨rfl, _, HA4.out, HS4.out⟩
  | false =>
    by_cases hpn : M.pc = x.c.next
    · have HM : Hid (M.clear false x.c (sumN ws) = { M with par := M.par.drop (sumN ws) }) := by rw [Hid, Mc.clear, if_neg (by simp [hpn])]
      rw [HM.out]
      go_enter Tryd.func111, Tryd.ntmps111
      go_wp2_with (go_at_call 167; refine (m_about_any w x.c).mono ?_; rintro e w1 ⟨rfl, hb1⟩; unfold cmV; have HB1 : Hid (Below w.heap.size w w1) := hb1; clear hb1)
      generalize hW : w1.alloc _ = W2
      have HB2 : Hid (Below w.heap.size w W2) := by rw [Hid, ← hW]; exact HB1.out.alloc HB1.out.size _
      have HX2 : Hid (BoxAt W2 w1.heap.size 181 x.c) := by rw [Hid, ← hW]; exact BoxAt.new w1 _ x.c
      have hsz : w1.heap.size < W2.heap.size := by rw [← hW]; simp
      have HA2 : Hid (At W2 L M) := HA.out.below HB2.out (Nat.le_refl _)
      have HW2 : Hid (WorksAt W2 g ws) := HW.out.below HB2.out
      have hpc := HA2.out.pc
      obtain ⟨e0, e1, e2, e3, e4, e5, e6⟩ := HX2.out.cell
      have HZ2 : Hid (Gl W2) := HZ.out.le HB2.out.size
      clear hW
      have hne2 : (M.pc != x.c.next) = false := by simp [hpn]
      go_region_with (go_at_call 129; refine (m_next_any W2.drew x.c HCX.out).mono ?_; rintro e w3 ⟨rfl, hb3⟩; have HA3 : Hid (At w3 L M) := HA2.out.drew.below hb3 (Nat.le_refl _); have HB3 : Hid (Below w.heap.size w w3) := HB2.out.drew.trans (hb3.mono HB2.out.size); have HW3 : Hid (WorksAt w3 g ws) := HW.out.below HB3.out; have hpc3 := HA3.out.pc; have HZ3 : Hid (Gl w3) := HZ.out.le HB3.out.size; clear hb3)
      all_goals clear e0 e1 e2 e3 e4 e5 e6 hpc
      all_goals go_wp2_with fail
      all_goals (
        clear ham hcx
        go_loopw [38] (fun iv wr => ∃ (k : Nat) (L4 : Lay), k ≤ ws.length ∧ iv = .int .i64 k ∧ Hid (At wr L4 { M with par := M.par.drop (sumN (ws.take k)) } ∧ Steps L w L4 wr ∧ WorksAt wr g ws ∧ ¬ L4.foot g)) (fun iv _ => ws.length - (intOf iv).toNat)
        case atStart => exact ⟨0, L, Nat.zero_le _, rfl, HA3.out, Steps.below HB3.out, HW3.out, hnf⟩
        case round =>
          obtain ⟨k, L4, hk, rfl, hrel⟩ := hrel
          by_cases hkl : k < ws.length
          · obtain ⟨y, hy⟩ : ∃ y, y = ws[k] := ⟨_, rfl⟩
            have hmy : y ∈ ws := by rw [hy]; exact List.getElem_mem _
            have hcy : wr.cell? ⟨g, k, none⟩ = some (.iface y.T y.pay) := by rw [hy]; exact hrel.out.2.2.1.cell k hkl
            have hamy : ∀ w, (method 379 y.T y.pay "hart/machine.about").run Tryd.prog w = .ok (167, cmV y.c) w := hrel.out.2.2.1.work y hmy
            have HCY : Hid (CmOk y.c) := hrel.out.2.2.1.ok y hmy
            have HY : Hid (sumN (ws.take (k + 1)) = sumN (ws.take k) + y.c.n ∧ sumN (ws.take (k + 1)) ≤ sumN ws) := by
              rw [Hid, hy]; exact sumN_step ws k hkl
            have HBL : Hid (L.b = L4.b) := hrel.out.2.1.b.symm
            have hlt4 : L4.b < wr.heap.size := hrel.out.1.cells.lt
            have hfld := fld_common y.c
            unfold cmV at hamy hfld
            have hki : (0 : Int) ≤ (k : Int) ∧ (k : Int) < (ws.length : Int) := by omega
            have HREL : Hid _ := hrel.out
            clear hrel hy hmy
            go_wp2_with fail
            go_region_with (first
              | (go_at_call 167; refine (m_about_any wr.drew y.c).mono ?_; rintro e w5 ⟨rfl, hb5⟩; unfold cmV; have HB5 : Hid (Below wr.heap.size wr w5) := (Below.refl wr.heap.size wr).drew.trans hb5; clear hb5)
              | (go_at_call 130; have hcall := m_take_any w5 L4 _ y.c.n (HREL.out.1.below HB5.out (Nat.le_refl _)) (HZ.out.le (Nat.le_trans HREL.out.2.1.size HB5.out.size)) (by have := HCY.out.n; omega) (by have := HY.out; have := HN.out; rw [List.length_drop]; omega); rw [← HBL.out] at hcall; refine hcall.mono ?_; clear hcall; rintro e w6 ⟨rfl, L6, hA6, hS6⟩; have HA6 : Hid (At w6 L6 { M with par := (M.par.drop (sumN (ws.take k))).drop y.c.n }) := hA6; have HS6 : Hid (Steps L4 wr L6 w6) := (Steps.below HB5.out).trans hS6; clear hA6 hS6))
            all_goals (
              go_wp2
              go_roundw
              case rel =>
                refine ⟨k + 1, L6, by omega, by go_num, ?_, HREL.out.2.1.trans HS6.out, HREL.out.2.2.1.steps HS6.out HREL.out.2.2.2, fun hf => (HS6.out.foot g hf).elim HREL.out.2.2.2 (fun h => by have := HREL.out.2.2.1.lt; omega)⟩
                have := HA6.out
                rw [List.drop_drop, ← HY.out.1] at this
                exact this
              case measure => simp [intOf]; omega)
          · obtain rfl : k = ws.length := by omega
            go_wp2
            go_end0
            refine ⟨rfl, L4, ?_, hrel.out.2.1⟩
            have := hrel.out.1
            rw [List.take_length] at this
            exact this)
    · have HM : Hid (M.clear false x.c (sumN ws) = { M with par := [], ahead := M.pc }) := by rw [Hid, Mc.clear, if_pos (.inr hpn)]
      rw [HM.out]
      go_enter Tryd.func111, Tryd.ntmps111
      go_wp2_with (go_at_call 167; refine (m_about_any w x.c).mono ?_; rintro e w1 ⟨rfl, hb1⟩; unfold cmV; have HB1 : Hid (Below w.heap.size w w1) := hb1; clear hb1)
      generalize hW : w1.alloc _ = W2
      have HB2 : Hid (Below w.heap.size w W2) := by rw [Hid, ← hW]; exact HB1.out.alloc HB1.out.size _
      have HX2 : Hid (BoxAt W2 w1.heap.size 181 x.c) := by rw [Hid, ← hW]; exact BoxAt.new w1 _ x.c
      have hsz : w1.heap.size < W2.heap.size := by rw [← hW]; simp
      have HA2 : Hid (At W2 L M) := HA.out.below HB2.out (Nat.le_refl _)
      have HW2 : Hid (WorksAt W2 g ws) := HW.out.below HB2.out
      have hpc := HA2.out.pc
      obtain ⟨e0, e1, e2, e3, e4, e5, e6⟩ := HX2.out.cell
      have HZ2 : Hid (Gl W2) := HZ.out.le HB2.out.size
      clear hW
      have hne2 : (M.pc != x.c.next) = true := by simp [hpn]
      go_region_with (go_at_call 129; refine (m_next_any W2.drew x.c HCX.out).mono ?_; rintro e w3 ⟨rfl, hb3⟩; have HA3 : Hid (At w3 L M) := HA2.out.drew.below hb3 (Nat.le_refl _); have HB3 : Hid (Below w.heap.size w w3) := HB2.out.drew.trans (hb3.mono HB2.out.size); have HW3 : Hid (WorksAt w3 g ws) := HW.out.below HB3.out; have hpc3 := HA3.out.pc; have HZ3 : Hid (Gl w3) := HZ.out.le HB3.out.size; clear hb3)
      all_goals clear e0 e1 e2 e3 e4 e5 e6 hpc
      all_goals go_wp2_with fail
      all_goals (
        go_region_with (go_at_call 106; refine (m_restart_any _ L M M.pc HA3.out.drew).mono ?_; rintro e w4 ⟨rfl, L4, hA4, hS4⟩; have HA4 : Hid (At w4 L4 { M with par := [], ahead := M.pc }) := hA4; have HS4 : Hid (Steps L w L4 w4) := ((Steps.below HB3.out).trans (Steps.drew L _)).trans hS4; clear hA4 hS4)
        all_goals go_wp2
        all_goals exact bodyPost_ret (v := .tuple #[]) (by simp [results, Tryd.results111]) rfl ⟨rfl, _, HA4.out, HS4.out⟩)
end Go.Proofs.YtdcmdjeooklmjaaDoor
