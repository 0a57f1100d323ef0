/-
  NH in one text.
-/
import Derived.Test.YtdcmdjeooklmjaaDoorVH
set_option linter.unusedVariables false
set_option linter.unusedSimpArgs false
/-
  Walks: doWorks over works of one kind (made by gen_NG.py).
-/
namespace Go.Proofs.YtdcmdjeooklmjaaDoor
open Go.RowKit Go.PageMap Go.Maps
set_option maxRecDepth 100000

theorem ta_load (p : Value) (w : World) : (Instr.typeAssert (.iface 230 p) 178 183 true).run Tryd.prog w = .ok (.tuple #[.agg #[.int .i64 0, .int .i64 0, .int .i64 0, .int .i64 0, .int .i64 0, .int .u32 0, .int .i64 0, .int .i64 0], .bool false]) w := by kernel_rfl
theorem ts_load (p : Value) (w : World) : (Instr.typeAssert (.iface 230 p) 178 185 true).run Tryd.prog w = .ok (.tuple #[.agg #[.int .i64 0, .int .i64 0, .int .i64 0, .int .i64 0, .int .i64 0, .int .u32 0, .int .i64 0], .bool false]) w := by kernel_rfl
theorem md_load (c : Cm) (w : World) : (method 379 230 (cmV c) "hart/machine.do").run Tryd.prog w = .ok (179, cmV c) w := by kernel_rfl
set_option maxHeartbeats 4000000 in
theorem m_doWorks_load (w : World) (L : Lay) (ws : List Wk) (g : Nat) (S D : Nat → Mc) (h : At w L (S 0)) (ht : Tab w) (hz : Gl w) (hw : WorksAt w g ws) (hk : OfKind 230 ws) (hne : 0 < ws.length) (hlen : ws.length ≤ 2) (hn : sumN ws ≤ (S ws.length).par.length) (hnf : ¬ L.foot g)
    (hdo : ∀ k (hk : k < ws.length) w1 L1, At w1 L1 (S k) → Tab w1 → Gl w1 → Calls Tryd.prog 179 #[cmV (ws[k]).c, .pointer (some ⟨L1.b, 0, none⟩)] w1 fun e w' => e = .returned (.tuple #[]) ∧ ∃ L', At w' L' (D k) ∧ Steps L1 w1 L' w')
    (hS : ∀ k, k < ws.length → S (k + 1) = { D k with done := wrap64 ((D k).done + 1) }) :
    Calls Tryd.prog 81 #[.pointer (some ⟨L.b, 0, none⟩), .slice (some ⟨g, 0, none⟩) ws.length ws.length] w fun e w' => e = .returned (.tuple #[]) ∧ ∃ L', At w' L' ((S ws.length).clear false (ws[ws.length - 1]'(by omega)).c (sumN ws)) ∧ Steps L w L' w' := by
  have HA : Hid (At w L (S 0)) := h
  have HZ : Hid (Gl w) := hz
  have HT : Hid (Tab w) := ht
  have HW : Hid (WorksAt w g ws) := hw
  have HN : Hid (sumN ws ≤ (S ws.length).par.length) := hn
  have HD : Hid (∀ k (hk : k < ws.length) w1 L1, At w1 L1 (S k) → Tab w1 → Gl w1 → Calls Tryd.prog 179 #[cmV (ws[k]).c, .pointer (some ⟨L1.b, 0, none⟩)] w1 fun e w' => e = .returned (.tuple #[]) ∧ ∃ L', At w' L' (D k) ∧ Steps L1 w1 L' w') := hdo
  have HSS : Hid (∀ k, k < ws.length → S (k + 1) = { D k with done := wrap64 ((D k).done + 1) }) := hS
  have HK : Hid (OfKind 230 ws) := hk
  have hlt := h.cells.lt
  have hll : ws.length ≤ 9223372036854775807 := by omega
  clear h hz ht hw hn hdo hS hk
  go_enter Tryd.func81, Tryd.ntmps81
  go_wp2_with fail
  go_loopw [4, 9] (fun sv iv wr => ∃ (k : Nat) (L4 : Lay), k ≤ ws.length ∧ iv = .int .i64 k ∧ sv = .bool (decide (0 < k) && false) ∧ Hid (At wr L4 (S k) ∧ Steps L w L4 wr ∧ WorksAt wr g ws ∧ ¬ L4.foot g ∧ Tab wr ∧ Gl wr)) (fun _ iv _ => ws.length - (intOf iv).toNat)
  case atStart => exact ⟨0, L, Nat.zero_le _, rfl, rfl, HA.out, Steps.refl _ _, HW.out, hnf, HT.out, HZ.out⟩
  case round =>
    obtain ⟨k, L4, hk, rfl, rfl, hrel⟩ := hrel
    by_cases hkl : k < ws.length
    · obtain ⟨y, hy⟩ : ∃ y, y = ws[k] := ⟨_, rfl⟩
      have hmy : y ∈ ws := by rw [hy]; exact List.getElem_mem _
      obtain ⟨k1, k2⟩ := HK.out y hmy
      have hcy : wr.cell? ⟨g, k, none⟩ = some (.iface 230 (cmV y.c)) := by have h1 := hrel.out.2.2.1.cell k hkl; rw [← hy, k1, k2] at h1; exact h1
      have HBL : Hid (L.b = L4.b) := hrel.out.2.1.b.symm
      have hmd := md_load y.c
      have hta := ta_load (cmV y.c)
      have hts := ts_load (cmV y.c)
      have hki : (0 : Int) ≤ (k : Int) ∧ (k : Int) < (ws.length : Int) := by omega
      have HREL : Hid (At wr L4 (S k) ∧ Steps L w L4 wr ∧ WorksAt wr g ws ∧ ¬ L4.foot g ∧ Tab wr ∧ Gl wr) := hrel.out
      have HY : Hid (y = ws[k]) := hy
      clear hrel hy hmy k1 k2
      generalize hcv : cmV y.c = pay at *
      have HCV : Hid (cmV y.c = pay) := hcv
      clear hcv
      go_wp2_with (go_at_call 179; have hcall := HD.out k hkl wr L4 HREL.out.1 HREL.out.2.2.2.2.1 HREL.out.2.2.2.2.2; rw [← HBL.out, ← HY.out, HCV.out] at hcall; refine hcall.mono ?_; clear hcall; rintro e w5 ⟨rfl, L5, hA5, hS5⟩; have HA5 : Hid (At w5 L5 (D k)) := hA5; have HS5 : Hid (Steps L4 wr L5 w5) := hS5; have HL5 : Hid (L.b = L5.b) := HBL.out.trans hS5.b.symm; have hdn : w5.cell? ⟨L.b, 40, none⟩ = some (.int .i64 (D k).done) := (by rw [HL5.out]; exact hA5.done); have hfn : w5.frozen? ⟨L.b, 40, none⟩ = false := (by rw [HL5.out]; exact hA5.free 40); clear hA5 hS5)
      go_roundw
      case rel =>
        have hw5 := HREL.out.2.2.1.steps HS5.out HREL.out.2.2.2.1
        have hs6 := Steps.set (L := L5) w5 40 (.int .i64 (wrap64 ((D k).done + 1)))
        have hnf5 : ¬ L5.foot g := fun hf => (HS5.out.foot g hf).elim HREL.out.2.2.2.1 (fun h => by have := HREL.out.2.2.1.lt; omega)
        have ht5 := HREL.out.2.2.2.2.1.steps HREL.out.1 HS5.out
        refine ⟨k + 1, L5, by omega, by go_num, by simp, ?_⟩
        rw [HL5.out]
        refine ⟨?_, HREL.out.2.1.trans (HS5.out.trans hs6), hw5.steps hs6 hnf5, hnf5, ht5.steps HA5.out hs6, HREL.out.2.2.2.2.2.le (HS5.out.trans hs6).size⟩
        rw [HSS.out k hkl]
        exact HA5.out.setDone _
      case measure => simp [intOf]; omega
    · obtain rfl : k = ws.length := by omega
      have hdk : decide (0 < ws.length) = true := by simp; omega
      obtain ⟨y, hy⟩ : ∃ y, y = ws[0] := ⟨_, rfl⟩
      have hmy : y ∈ ws := by rw [hy]; exact List.getElem_mem _
      have hcy : wr.cell? ⟨g, 0, none⟩ = some (.iface y.T y.pay) := by rw [hy]; exact hrel.out.2.2.1.cell 0 hne
      have hamy : ∀ w, (method 379 y.T y.pay "hart/machine.about").run Tryd.prog w = .ok (167, cmV y.c) w := hrel.out.2.2.1.work y hmy
      have HBL : Hid (L.b = L4.b) := hrel.out.2.1.b.symm
      have hlt4 : L4.b < wr.heap.size := hrel.out.1.cells.lt
      have hfp := fld_commonPc y.c
      unfold cmV at hamy hfp
      have hi0 : (0 : Int) < (ws.length : Int) := by omega
      have HREL : Hid (At wr L4 (S ws.length) ∧ Steps L w L4 wr ∧ WorksAt wr g ws ∧ ¬ L4.foot g ∧ Tab wr ∧ Gl wr) := hrel.out
      clear hrel hy hmy
      rw [hdk]
      go_wp2_with fail
      go_region_with (first
        | (go_at_call 167; refine (m_about_any wr.drew y.c).mono ?_; rintro e w5 ⟨rfl, hb5⟩; unfold cmV; have HB5 : Hid (Below wr.heap.size wr w5) := (Below.refl wr.heap.size wr).drew.trans hb5; clear hb5)
        | (go_at_call 110; have hcall := m_note_any w5 L4 (S ws.length) y.c.pc ws.length (HREL.out.1.below HB5.out (Nat.le_refl _)) (HREL.out.2.2.2.2.2.le HB5.out.size); rw [← HBL.out] at hcall; refine hcall.mono ?_; clear hcall; rintro e w6 ⟨rfl, L6, hA6, hS6⟩; have HA6 : Hid (At w6 L6 (S ws.length)) := hA6; have HS6 : Hid (Steps L4 wr L6 w6) := (Steps.below HB5.out).trans hS6; clear hA6 hS6))
      all_goals (
        go_wp2_with (go_at_call 111; have hcall := m_clearAway_any w6 L6 (S ws.length) ws g false HA6.out (HREL.out.2.2.2.2.2.le HS6.out.size) (HREL.out.2.2.1.steps HS6.out HREL.out.2.2.2.1) hne hlen HN.out (fun hf => (HS6.out.foot g hf).elim HREL.out.2.2.2.1 (fun h => by have := HREL.out.2.2.1.lt; omega)); rw [HS6.out.b, ← HBL.out] at hcall; refine hcall.mono ?_; clear hcall; rintro e w7 ⟨rfl, L7, hA7, hS7⟩; have HA7 : Hid (At w7 L7 ((S ws.length).clear false (ws[ws.length - 1]'(by omega)).c (sumN ws))) := hA7; have HS7 : Hid (Steps L w L7 w7) := HREL.out.2.1.trans (HS6.out.trans hS7); clear hA7 hS7)
        go_end0
        exact ⟨rfl, L7, HA7.out, HS7.out⟩)

theorem ta_store (p : Value) (w : World) : (Instr.typeAssert (.iface 185 p) 178 183 true).run Tryd.prog w = .ok (.tuple #[.agg #[.int .i64 0, .int .i64 0, .int .i64 0, .int .i64 0, .int .i64 0, .int .u32 0, .int .i64 0, .int .i64 0], .bool false]) w := by kernel_rfl
theorem ts_store (p : Value) (w : World) : (Instr.typeAssert (.iface 185 p) 178 185 true).run Tryd.prog w = .ok (.tuple #[p, .bool true]) w := by kernel_rfl
theorem md_store (c : Cm) (w : World) : (method 379 185 (cmV c) "hart/machine.do").run Tryd.prog w = .ok (169, cmV c) w := by kernel_rfl
set_option maxHeartbeats 4000000 in
theorem m_doWorks_store (w : World) (L : Lay) (ws : List Wk) (g : Nat) (S D : Nat → Mc) (h : At w L (S 0)) (ht : Tab w) (hz : Gl w) (hw : WorksAt w g ws) (hk : OfKind 185 ws) (hne : 0 < ws.length) (hlen : ws.length ≤ 2) (hn : sumN ws ≤ (S ws.length).par.length) (hnf : ¬ L.foot g)
    (hdo : ∀ k (hk : k < ws.length) w1 L1, At w1 L1 (S k) → Tab w1 → Gl w1 → Calls Tryd.prog 169 #[cmV (ws[k]).c, .pointer (some ⟨L1.b, 0, none⟩)] w1 fun e w' => e = .returned (.tuple #[]) ∧ ∃ L', At w' L' (D k) ∧ Steps L1 w1 L' w')
    (hS : ∀ k, k < ws.length → S (k + 1) = { D k with done := wrap64 ((D k).done + 1) }) :
    Calls Tryd.prog 81 #[.pointer (some ⟨L.b, 0, none⟩), .slice (some ⟨g, 0, none⟩) ws.length ws.length] w fun e w' => e = .returned (.tuple #[]) ∧ ∃ L', At w' L' ((S ws.length).clear true (ws[ws.length - 1]'(by omega)).c (sumN ws)) ∧ Steps L w L' w' := by
  have HA : Hid (At w L (S 0)) := h
  have HZ : Hid (Gl w) := hz
  have HT : Hid (Tab w) := ht
  have HW : Hid (WorksAt w g ws) := hw
  have HN : Hid (sumN ws ≤ (S ws.length).par.length) := hn
  have HD : Hid (∀ k (hk : k < ws.length) w1 L1, At w1 L1 (S k) → Tab w1 → Gl w1 → Calls Tryd.prog 169 #[cmV (ws[k]).c, .pointer (some ⟨L1.b, 0, none⟩)] w1 fun e w' => e = .returned (.tuple #[]) ∧ ∃ L', At w' L' (D k) ∧ Steps L1 w1 L' w') := hdo
  have HSS : Hid (∀ k, k < ws.length → S (k + 1) = { D k with done := wrap64 ((D k).done + 1) }) := hS
  have HK : Hid (OfKind 185 ws) := hk
  have hlt := h.cells.lt
  have hll : ws.length ≤ 9223372036854775807 := by omega
  clear h hz ht hw hn hdo hS hk
  go_enter Tryd.func81, Tryd.ntmps81
  go_wp2_with fail
  go_loopw [4, 9] (fun sv iv wr => ∃ (k : Nat) (L4 : Lay), k ≤ ws.length ∧ iv = .int .i64 k ∧ sv = .bool (decide (0 < k) && true) ∧ Hid (At wr L4 (S k) ∧ Steps L w L4 wr ∧ WorksAt wr g ws ∧ ¬ L4.foot g ∧ Tab wr ∧ Gl wr)) (fun _ iv _ => ws.length - (intOf iv).toNat)
  case atStart => exact ⟨0, L, Nat.zero_le _, rfl, rfl, HA.out, Steps.refl _ _, HW.out, hnf, HT.out, HZ.out⟩
  case round =>
    obtain ⟨k, L4, hk, rfl, rfl, hrel⟩ := hrel
    by_cases hkl : k < ws.length
    · obtain ⟨y, hy⟩ : ∃ y, y = ws[k] := ⟨_, rfl⟩
      have hmy : y ∈ ws := by rw [hy]; exact List.getElem_mem _
      obtain ⟨k1, k2⟩ := HK.out y hmy
      have hcy : wr.cell? ⟨g, k, none⟩ = some (.iface 185 (cmV y.c)) := by have h1 := hrel.out.2.2.1.cell k hkl; rw [← hy, k1, k2] at h1; exact h1
      have HBL : Hid (L.b = L4.b) := hrel.out.2.1.b.symm
      have hmd := md_store y.c
      have hta := ta_store (cmV y.c)
      have hts := ts_store (cmV y.c)
      have hki : (0 : Int) ≤ (k : Int) ∧ (k : Int) < (ws.length : Int) := by omega
      have HREL : Hid (At wr L4 (S k) ∧ Steps L w L4 wr ∧ WorksAt wr g ws ∧ ¬ L4.foot g ∧ Tab wr ∧ Gl wr) := hrel.out
      have HY : Hid (y = ws[k]) := hy
      clear hrel hy hmy k1 k2
      generalize hcv : cmV y.c = pay at *
      have HCV : Hid (cmV y.c = pay) := hcv
      clear hcv
      go_wp2_with (go_at_call 169; have hcall := HD.out k hkl wr L4 HREL.out.1 HREL.out.2.2.2.2.1 HREL.out.2.2.2.2.2; rw [← HBL.out, ← HY.out, HCV.out] at hcall; refine hcall.mono ?_; clear hcall; rintro e w5 ⟨rfl, L5, hA5, hS5⟩; have HA5 : Hid (At w5 L5 (D k)) := hA5; have HS5 : Hid (Steps L4 wr L5 w5) := hS5; have HL5 : Hid (L.b = L5.b) := HBL.out.trans hS5.b.symm; have hdn : w5.cell? ⟨L.b, 40, none⟩ = some (.int .i64 (D k).done) := (by rw [HL5.out]; exact hA5.done); have hfn : w5.frozen? ⟨L.b, 40, none⟩ = false := (by rw [HL5.out]; exact hA5.free 40); clear hA5 hS5)
      go_roundw
      case rel =>
        have hw5 := HREL.out.2.2.1.steps HS5.out HREL.out.2.2.2.1
        have hs6 := Steps.set (L := L5) w5 40 (.int .i64 (wrap64 ((D k).done + 1)))
        have hnf5 : ¬ L5.foot g := fun hf => (HS5.out.foot g hf).elim HREL.out.2.2.2.1 (fun h => by have := HREL.out.2.2.1.lt; omega)
        have ht5 := HREL.out.2.2.2.2.1.steps HREL.out.1 HS5.out
        refine ⟨k + 1, L5, by omega, by go_num, by simp, ?_⟩
        rw [HL5.out]
        refine ⟨?_, HREL.out.2.1.trans (HS5.out.trans hs6), hw5.steps hs6 hnf5, hnf5, ht5.steps HA5.out hs6, HREL.out.2.2.2.2.2.le (HS5.out.trans hs6).size⟩
        rw [HSS.out k hkl]
        exact HA5.out.setDone _
      case measure => simp [intOf]; omega
    · obtain rfl : k = ws.length := by omega
      have hdk : decide (0 < ws.length) = true := by simp; omega
      obtain ⟨y, hy⟩ : ∃ y, y = ws[0] := ⟨_, rfl⟩
      have hmy : y ∈ ws := by rw [hy]; exact List.getElem_mem _
      have hcy : wr.cell? ⟨g, 0, none⟩ = some (.iface y.T y.pay) := by rw [hy]; exact hrel.out.2.2.1.cell 0 hne
      have hamy : ∀ w, (method 379 y.T y.pay "hart/machine.about").run Tryd.prog w = .ok (167, cmV y.c) w := hrel.out.2.2.1.work y hmy
      have HBL : Hid (L.b = L4.b) := hrel.out.2.1.b.symm
      have hlt4 : L4.b < wr.heap.size := hrel.out.1.cells.lt
      have hfp := fld_commonPc y.c
      unfold cmV at hamy hfp
      have hi0 : (0 : Int) < (ws.length : Int) := by omega
      have HREL : Hid (At wr L4 (S ws.length) ∧ Steps L w L4 wr ∧ WorksAt wr g ws ∧ ¬ L4.foot g ∧ Tab wr ∧ Gl wr) := hrel.out
      clear hrel hy hmy
      rw [hdk]
      go_wp2_with fail
      go_region_with (first
        | (go_at_call 167; refine (m_about_any wr.drew y.c).mono ?_; rintro e w5 ⟨rfl, hb5⟩; unfold cmV; have HB5 : Hid (Below wr.heap.size wr w5) := (Below.refl wr.heap.size wr).drew.trans hb5; clear hb5)
        | (go_at_call 110; have hcall := m_note_any w5 L4 (S ws.length) y.c.pc ws.length (HREL.out.1.below HB5.out (Nat.le_refl _)) (HREL.out.2.2.2.2.2.le HB5.out.size); rw [← HBL.out] at hcall; refine hcall.mono ?_; clear hcall; rintro e w6 ⟨rfl, L6, hA6, hS6⟩; have HA6 : Hid (At w6 L6 (S ws.length)) := hA6; have HS6 : Hid (Steps L4 wr L6 w6) := (Steps.below HB5.out).trans hS6; clear hA6 hS6))
      all_goals (
        go_wp2_with (go_at_call 111; have hcall := m_clearAway_any w6 L6 (S ws.length) ws g true HA6.out (HREL.out.2.2.2.2.2.le HS6.out.size) (HREL.out.2.2.1.steps HS6.out HREL.out.2.2.2.1) hne hlen HN.out (fun hf => (HS6.out.foot g hf).elim HREL.out.2.2.2.1 (fun h => by have := HREL.out.2.2.1.lt; omega)); rw [HS6.out.b, ← HBL.out] at hcall; refine hcall.mono ?_; clear hcall; rintro e w7 ⟨rfl, L7, hA7, hS7⟩; have HA7 : Hid (At w7 L7 ((S ws.length).clear true (ws[ws.length - 1]'(by omega)).c (sumN ws))) := hA7; have HS7 : Hid (Steps L w L7 w7) := HREL.out.2.1.trans (HS6.out.trans hS7); clear hA7 hS7)
        go_end0
        exact ⟨rfl, L7, HA7.out, HS7.out⟩)

theorem ta_jump (p : Value) (w : World) : (Instr.typeAssert (.iface 228 p) 178 183 true).run Tryd.prog w = .ok (.tuple #[.agg #[.int .i64 0, .int .i64 0, .int .i64 0, .int .i64 0, .int .i64 0, .int .u32 0, .int .i64 0, .int .i64 0], .bool false]) w := by kernel_rfl
theorem ts_jump (p : Value) (w : World) : (Instr.typeAssert (.iface 228 p) 178 185 true).run Tryd.prog w = .ok (.tuple #[.agg #[.int .i64 0, .int .i64 0, .int .i64 0, .int .i64 0, .int .i64 0, .int .u32 0, .int .i64 0], .bool false]) w := by kernel_rfl
theorem md_jump (c : Cm) (w : World) : (method 379 228 (cmV c) "hart/machine.do").run Tryd.prog w = .ok (174, cmV c) w := by kernel_rfl
set_option maxHeartbeats 4000000 in
theorem m_doWorks_jump (w : World) (L : Lay) (ws : List Wk) (g : Nat) (S D : Nat → Mc) (h : At w L (S 0)) (ht : Tab w) (hz : Gl w) (hw : WorksAt w g ws) (hk : OfKind 228 ws) (hne : 0 < ws.length) (hlen : ws.length ≤ 2) (hn : sumN ws ≤ (S ws.length).par.length) (hnf : ¬ L.foot g)
    (hdo : ∀ k (hk : k < ws.length) w1 L1, At w1 L1 (S k) → Tab w1 → Gl w1 → Calls Tryd.prog 174 #[cmV (ws[k]).c, .pointer (some ⟨L1.b, 0, none⟩)] w1 fun e w' => e = .returned (.tuple #[]) ∧ ∃ L', At w' L' (D k) ∧ Steps L1 w1 L' w')
    (hS : ∀ k, k < ws.length → S (k + 1) = { D k with done := wrap64 ((D k).done + 1) }) :
    Calls Tryd.prog 81 #[.pointer (some ⟨L.b, 0, none⟩), .slice (some ⟨g, 0, none⟩) ws.length ws.length] w fun e w' => e = .returned (.tuple #[]) ∧ ∃ L', At w' L' ((S ws.length).clear false (ws[ws.length - 1]'(by omega)).c (sumN ws)) ∧ Steps L w L' w' := by
  have HA : Hid (At w L (S 0)) := h
  have HZ : Hid (Gl w) := hz
  have HT : Hid (Tab w) := ht
  have HW : Hid (WorksAt w g ws) := hw
  have HN : Hid (sumN ws ≤ (S ws.length).par.length) := hn
  have HD : Hid (∀ k (hk : k < ws.length) w1 L1, At w1 L1 (S k) → Tab w1 → Gl w1 → Calls Tryd.prog 174 #[cmV (ws[k]).c, .pointer (some ⟨L1.b, 0, none⟩)] w1 fun e w' => e = .returned (.tuple #[]) ∧ ∃ L', At w' L' (D k) ∧ Steps L1 w1 L' w') := hdo
  have HSS : Hid (∀ k, k < ws.length → S (k + 1) = { D k with done := wrap64 ((D k).done + 1) }) := hS
  have HK : Hid (OfKind 228 ws) := hk
  have hlt := h.cells.lt
  have hll : ws.length ≤ 9223372036854775807 := by omega
  clear h hz ht hw hn hdo hS hk
  go_enter Tryd.func81, Tryd.ntmps81
  go_wp2_with fail
  go_loopw [4, 9] (fun sv iv wr => ∃ (k : Nat) (L4 : Lay), k ≤ ws.length ∧ iv = .int .i64 k ∧ sv = .bool (decide (0 < k) && false) ∧ Hid (At wr L4 (S k) ∧ Steps L w L4 wr ∧ WorksAt wr g ws ∧ ¬ L4.foot g ∧ Tab wr ∧ Gl wr)) (fun _ iv _ => ws.length - (intOf iv).toNat)
  case atStart => exact ⟨0, L, Nat.zero_le _, rfl, rfl, HA.out, Steps.refl _ _, HW.out, hnf, HT.out, HZ.out⟩
  case round =>
    obtain ⟨k, L4, hk, rfl, rfl, hrel⟩ := hrel
    by_cases hkl : k < ws.length
    · obtain ⟨y, hy⟩ : ∃ y, y = ws[k] := ⟨_, rfl⟩
      have hmy : y ∈ ws := by rw [hy]; exact List.getElem_mem _
      obtain ⟨k1, k2⟩ := HK.out y hmy
      have hcy : wr.cell? ⟨g, k, none⟩ = some (.iface 228 (cmV y.c)) := by have h1 := hrel.out.2.2.1.cell k hkl; rw [← hy, k1, k2] at h1; exact h1
      have HBL : Hid (L.b = L4.b) := hrel.out.2.1.b.symm
      have hmd := md_jump y.c
      have hta := ta_jump (cmV y.c)
      have hts := ts_jump (cmV y.c)
      have hki : (0 : Int) ≤ (k : Int) ∧ (k : Int) < (ws.length : Int) := by omega
      have HREL : Hid (At wr L4 (S k) ∧ Steps L w L4 wr ∧ WorksAt wr g ws ∧ ¬ L4.foot g ∧ Tab wr ∧ Gl wr) := hrel.out
      have HY : Hid (y = ws[k]) := hy
      clear hrel hy hmy k1 k2
      generalize hcv : cmV y.c = pay at *
      have HCV : Hid (cmV y.c = pay) := hcv
      clear hcv
      go_wp2_with (go_at_call 174; have hcall := HD.out k hkl wr L4 HREL.out.1 HREL.out.2.2.2.2.1 HREL.out.2.2.2.2.2; rw [← HBL.out, ← HY.out, HCV.out] at hcall; refine hcall.mono ?_; clear hcall; rintro e w5 ⟨rfl, L5, hA5, hS5⟩; have HA5 : Hid (At w5 L5 (D k)) := hA5; have HS5 : Hid (Steps L4 wr L5 w5) := hS5; have HL5 : Hid (L.b = L5.b) := HBL.out.trans hS5.b.symm; have hdn : w5.cell? ⟨L.b, 40, none⟩ = some (.int .i64 (D k).done) := (by rw [HL5.out]; exact hA5.done); have hfn : w5.frozen? ⟨L.b, 40, none⟩ = false := (by rw [HL5.out]; exact hA5.free 40); clear hA5 hS5)
      go_roundw
      case rel =>
        have hw5 := HREL.out.2.2.1.steps HS5.out HREL.out.2.2.2.1
        have hs6 := Steps.set (L := L5) w5 40 (.int .i64 (wrap64 ((D k).done + 1)))
        have hnf5 : ¬ L5.foot g := fun hf => (HS5.out.foot g hf).elim HREL.out.2.2.2.1 (fun h => by have := HREL.out.2.2.1.lt; omega)
        have ht5 := HREL.out.2.2.2.2.1.steps HREL.out.1 HS5.out
        refine ⟨k + 1, L5, by omega, by go_num, by simp, ?_⟩
        rw [HL5.out]
        refine ⟨?_, HREL.out.2.1.trans (HS5.out.trans hs6), hw5.steps hs6 hnf5, hnf5, ht5.steps HA5.out hs6, HREL.out.2.2.2.2.2.le (HS5.out.trans hs6).size⟩
        rw [HSS.out k hkl]
        exact HA5.out.setDone _
      case measure => simp [intOf]; omega
    · obtain rfl : k = ws.length := by omega
      have hdk : decide (0 < ws.length) = true := by simp; omega
      obtain ⟨y, hy⟩ : ∃ y, y = ws[0] := ⟨_, rfl⟩
      have hmy : y ∈ ws := by rw [hy]; exact List.getElem_mem _
      have hcy : wr.cell? ⟨g, 0, none⟩ = some (.iface y.T y.pay) := by rw [hy]; exact hrel.out.2.2.1.cell 0 hne
      have hamy : ∀ w, (method 379 y.T y.pay "hart/machine.about").run Tryd.prog w = .ok (167, cmV y.c) w := hrel.out.2.2.1.work y hmy
      have HBL : Hid (L.b = L4.b) := hrel.out.2.1.b.symm
      have hlt4 : L4.b < wr.heap.size := hrel.out.1.cells.lt
      have hfp := fld_commonPc y.c
      unfold cmV at hamy hfp
      have hi0 : (0 : Int) < (ws.length : Int) := by omega
      have HREL : Hid (At wr L4 (S ws.length) ∧ Steps L w L4 wr ∧ WorksAt wr g ws ∧ ¬ L4.foot g ∧ Tab wr ∧ Gl wr) := hrel.out
      clear hrel hy hmy
      rw [hdk]
      go_wp2_with fail
      go_region_with (first
        | (go_at_call 167; refine (m_about_any wr.drew y.c).mono ?_; rintro e w5 ⟨rfl, hb5⟩; unfold cmV; have HB5 : Hid (Below wr.heap.size wr w5) := (Below.refl wr.heap.size wr).drew.trans hb5; clear hb5)
        | (go_at_call 110; have hcall := m_note_any w5 L4 (S ws.length) y.c.pc ws.length (HREL.out.1.below HB5.out (Nat.le_refl _)) (HREL.out.2.2.2.2.2.le HB5.out.size); rw [← HBL.out] at hcall; refine hcall.mono ?_; clear hcall; rintro e w6 ⟨rfl, L6, hA6, hS6⟩; have HA6 : Hid (At w6 L6 (S ws.length)) := hA6; have HS6 : Hid (Steps L4 wr L6 w6) := (Steps.below HB5.out).trans hS6; clear hA6 hS6))
      all_goals (
        go_wp2_with (go_at_call 111; have hcall := m_clearAway_any w6 L6 (S ws.length) ws g false HA6.out (HREL.out.2.2.2.2.2.le HS6.out.size) (HREL.out.2.2.1.steps HS6.out HREL.out.2.2.2.1) hne hlen HN.out (fun hf => (HS6.out.foot g hf).elim HREL.out.2.2.2.1 (fun h => by have := HREL.out.2.2.1.lt; omega)); rw [HS6.out.b, ← HBL.out] at hcall; refine hcall.mono ?_; clear hcall; rintro e w7 ⟨rfl, L7, hA7, hS7⟩; have HA7 : Hid (At w7 L7 ((S ws.length).clear false (ws[ws.length - 1]'(by omega)).c (sumN ws))) := hA7; have HS7 : Hid (Steps L w L7 w7) := HREL.out.2.1.trans (HS6.out.trans hS7); clear hA7 hS7)
        go_end0
        exact ⟨rfl, L7, HA7.out, HS7.out⟩)

theorem ta_branch (p : Value) (w : World) : (Instr.typeAssert (.iface 229 p) 178 183 true).run Tryd.prog w = .ok (.tuple #[.agg #[.int .i64 0, .int .i64 0, .int .i64 0, .int .i64 0, .int .i64 0, .int .u32 0, .int .i64 0, .int .i64 0], .bool false]) w := by kernel_rfl
theorem ts_branch (p : Value) (w : World) : (Instr.typeAssert (.iface 229 p) 178 185 true).run Tryd.prog w = .ok (.tuple #[.agg #[.int .i64 0, .int .i64 0, .int .i64 0, .int .i64 0, .int .i64 0, .int .u32 0, .int .i64 0], .bool false]) w := by kernel_rfl
theorem md_branch (c : Cm) (w : World) : (method 379 229 (cmV c) "hart/machine.do").run Tryd.prog w = .ok (177, cmV c) w := by kernel_rfl
set_option maxHeartbeats 4000000 in
theorem m_doWorks_branch (w : World) (L : Lay) (ws : List Wk) (g : Nat) (S D : Nat → Mc) (h : At w L (S 0)) (ht : Tab w) (hz : Gl w) (hw : WorksAt w g ws) (hk : OfKind 229 ws) (hne : 0 < ws.length) (hlen : ws.length ≤ 2) (hn : sumN ws ≤ (S ws.length).par.length) (hnf : ¬ L.foot g)
    (hdo : ∀ k (hk : k < ws.length) w1 L1, At w1 L1 (S k) → Tab w1 → Gl w1 → Calls Tryd.prog 177 #[cmV (ws[k]).c, .pointer (some ⟨L1.b, 0, none⟩)] w1 fun e w' => e = .returned (.tuple #[]) ∧ ∃ L', At w' L' (D k) ∧ Steps L1 w1 L' w')
    (hS : ∀ k, k < ws.length → S (k + 1) = { D k with done := wrap64 ((D k).done + 1) }) :
    Calls Tryd.prog 81 #[.pointer (some ⟨L.b, 0, none⟩), .slice (some ⟨g, 0, none⟩) ws.length ws.length] w fun e w' => e = .returned (.tuple #[]) ∧ ∃ L', At w' L' ((S ws.length).clear false (ws[ws.length - 1]'(by omega)).c (sumN ws)) ∧ Steps L w L' w' := by
  have HA : Hid (At w L (S 0)) := h
  have HZ : Hid (Gl w) := hz
  have HT : Hid (Tab w) := ht
  have HW : Hid (WorksAt w g ws) := hw
  have HN : Hid (sumN ws ≤ (S ws.length).par.length) := hn
  have HD : Hid (∀ k (hk : k < ws.length) w1 L1, At w1 L1 (S k) → Tab w1 → Gl w1 → Calls Tryd.prog 177 #[cmV (ws[k]).c, .pointer (some ⟨L1.b, 0, none⟩)] w1 fun e w' => e = .returned (.tuple #[]) ∧ ∃ L', At w' L' (D k) ∧ Steps L1 w1 L' w') := hdo
  have HSS : Hid (∀ k, k < ws.length → S (k + 1) = { D k with done := wrap64 ((D k).done + 1) }) := hS
  have HK : Hid (OfKind 229 ws) := hk
  have hlt := h.cells.lt
  have hll : ws.length ≤ 9223372036854775807 := by omega
  clear h hz ht hw hn hdo hS hk
  go_enter Tryd.func81, Tryd.ntmps81
  go_wp2_with fail
  go_loopw [4, 9] (fun sv iv wr => ∃ (k : Nat) (L4 : Lay), k ≤ ws.length ∧ iv = .int .i64 k ∧ sv = .bool (decide (0 < k) && false) ∧ Hid (At wr L4 (S k) ∧ Steps L w L4 wr ∧ WorksAt wr g ws ∧ ¬ L4.foot g ∧ Tab wr ∧ Gl wr)) (fun _ iv _ => ws.length - (intOf iv).toNat)
  case atStart => exact ⟨0, L, Nat.zero_le _, rfl, rfl, HA.out, Steps.refl _ _, HW.out, hnf, HT.out, HZ.out⟩
  case round =>
    obtain ⟨k, L4, hk, rfl, rfl, hrel⟩ := hrel
    by_cases hkl : k < ws.length
    · obtain ⟨y, hy⟩ : ∃ y, y = ws[k] := ⟨_, rfl⟩
      have hmy : y ∈ ws := by rw [hy]; exact List.getElem_mem _
      obtain ⟨k1, k2⟩ := HK.out y hmy
      have hcy : wr.cell? ⟨g, k, none⟩ = some (.iface 229 (cmV y.c)) := by have h1 := hrel.out.2.2.1.cell k hkl; rw [← hy, k1, k2] at h1; exact h1
      have HBL : Hid (L.b = L4.b) := hrel.out.2.1.b.symm
      have hmd := md_branch y.c
      have hta := ta_branch (cmV y.c)
      have hts := ts_branch (cmV y.c)
      have hki : (0 : Int) ≤ (k : Int) ∧ (k : Int) < (ws.length : Int) := by omega
      have HREL : Hid (At wr L4 (S k) ∧ Steps L w L4 wr ∧ WorksAt wr g ws ∧ ¬ L4.foot g ∧ Tab wr ∧ Gl wr) := hrel.out
      have HY : Hid (y = ws[k]) := hy
      clear hrel hy hmy k1 k2
      generalize hcv : cmV y.c = pay at *
      have HCV : Hid (cmV y.c = pay) := hcv
      clear hcv
      go_wp2_with (go_at_call 177; have hcall := HD.out k hkl wr L4 HREL.out.1 HREL.out.2.2.2.2.1 HREL.out.2.2.2.2.2; rw [← HBL.out, ← HY.out, HCV.out] at hcall; refine hcall.mono ?_; clear hcall; rintro e w5 ⟨rfl, L5, hA5, hS5⟩; have HA5 : Hid (At w5 L5 (D k)) := hA5; have HS5 : Hid (Steps L4 wr L5 w5) := hS5; have HL5 : Hid (L.b = L5.b) := HBL.out.trans hS5.b.symm; have hdn : w5.cell? ⟨L.b, 40, none⟩ = some (.int .i64 (D k).done) := (by rw [HL5.out]; exact hA5.done); have hfn : w5.frozen? ⟨L.b, 40, none⟩ = false := (by rw [HL5.out]; exact hA5.free 40); clear hA5 hS5)
      go_roundw
      case rel =>
        have hw5 := HREL.out.2.2.1.steps HS5.out HREL.out.2.2.2.1
        have hs6 := Steps.set (L := L5) w5 40 (.int .i64 (wrap64 ((D k).done + 1)))
        have hnf5 : ¬ L5.foot g := fun hf => (HS5.out.foot g hf).elim HREL.out.2.2.2.1 (fun h => by have := HREL.out.2.2.1.lt; omega)
        have ht5 := HREL.out.2.2.2.2.1.steps HREL.out.1 HS5.out
        refine ⟨k + 1, L5, by omega, by go_num, by simp, ?_⟩
        rw [HL5.out]
        refine ⟨?_, HREL.out.2.1.trans (HS5.out.trans hs6), hw5.steps hs6 hnf5, hnf5, ht5.steps HA5.out hs6, HREL.out.2.2.2.2.2.le (HS5.out.trans hs6).size⟩
        rw [HSS.out k hkl]
        exact HA5.out.setDone _
      case measure => simp [intOf]; omega
    · obtain rfl : k = ws.length := by omega
      have hdk : decide (0 < ws.length) = true := by simp; omega
      obtain ⟨y, hy⟩ : ∃ y, y = ws[0] := ⟨_, rfl⟩
      have hmy : y ∈ ws := by rw [hy]; exact List.getElem_mem _
      have hcy : wr.cell? ⟨g, 0, none⟩ = some (.iface y.T y.pay) := by rw [hy]; exact hrel.out.2.2.1.cell 0 hne
      have hamy : ∀ w, (method 379 y.T y.pay "hart/machine.about").run Tryd.prog w = .ok (167, cmV y.c) w := hrel.out.2.2.1.work y hmy
      have HBL : Hid (L.b = L4.b) := hrel.out.2.1.b.symm
      have hlt4 : L4.b < wr.heap.size := hrel.out.1.cells.lt
      have hfp := fld_commonPc y.c
      unfold cmV at hamy hfp
      have hi0 : (0 : Int) < (ws.length : Int) := by omega
      have HREL : Hid (At wr L4 (S ws.length) ∧ Steps L w L4 wr ∧ WorksAt wr g ws ∧ ¬ L4.foot g ∧ Tab wr ∧ Gl wr) := hrel.out
      clear hrel hy hmy
      rw [hdk]
      go_wp2_with fail
      go_region_with (first
        | (go_at_call 167; refine (m_about_any wr.drew y.c).mono ?_; rintro e w5 ⟨rfl, hb5⟩; unfold cmV; have HB5 : Hid (Below wr.heap.size wr w5) := (Below.refl wr.heap.size wr).drew.trans hb5; clear hb5)
        | (go_at_call 110; have hcall := m_note_any w5 L4 (S ws.length) y.c.pc ws.length (HREL.out.1.below HB5.out (Nat.le_refl _)) (HREL.out.2.2.2.2.2.le HB5.out.size); rw [← HBL.out] at hcall; refine hcall.mono ?_; clear hcall; rintro e w6 ⟨rfl, L6, hA6, hS6⟩; have HA6 : Hid (At w6 L6 (S ws.length)) := hA6; have HS6 : Hid (Steps L4 wr L6 w6) := (Steps.below HB5.out).trans hS6; clear hA6 hS6))
      all_goals (
        go_wp2_with (go_at_call 111; have hcall := m_clearAway_any w6 L6 (S ws.length) ws g false HA6.out (HREL.out.2.2.2.2.2.le HS6.out.size) (HREL.out.2.2.1.steps HS6.out HREL.out.2.2.2.1) hne hlen HN.out (fun hf => (HS6.out.foot g hf).elim HREL.out.2.2.2.1 (fun h => by have := HREL.out.2.2.1.lt; omega)); rw [HS6.out.b, ← HBL.out] at hcall; refine hcall.mono ?_; clear hcall; rintro e w7 ⟨rfl, L7, hA7, hS7⟩; have HA7 : Hid (At w7 L7 ((S ws.length).clear false (ws[ws.length - 1]'(by omega)).c (sumN ws))) := hA7; have HS7 : Hid (Steps L w L7 w7) := HREL.out.2.1.trans (HS6.out.trans hS7); clear hA7 hS7)
        go_end0
        exact ⟨rfl, L7, HA7.out, HS7.out⟩)

theorem ta_pause (p : Value) (w : World) : (Instr.typeAssert (.iface 231 p) 178 183 true).run Tryd.prog w = .ok (.tuple #[.agg #[.int .i64 0, .int .i64 0, .int .i64 0, .int .i64 0, .int .i64 0, .int .u32 0, .int .i64 0, .int .i64 0], .bool false]) w := by kernel_rfl
theorem ts_pause (p : Value) (w : World) : (Instr.typeAssert (.iface 231 p) 178 185 true).run Tryd.prog w = .ok (.tuple #[.agg #[.int .i64 0, .int .i64 0, .int .i64 0, .int .i64 0, .int .i64 0, .int .u32 0, .int .i64 0], .bool false]) w := by kernel_rfl
theorem md_pause (c : Cm) (w : World) : (method 379 231 (cmV c) "hart/machine.do").run Tryd.prog w = .ok (181, cmV c) w := by kernel_rfl
set_option maxHeartbeats 4000000 in
theorem m_doWorks_pause (w : World) (L : Lay) (ws : List Wk) (g : Nat) (S D : Nat → Mc) (h : At w L (S 0)) (ht : Tab w) (hz : Gl w) (hw : WorksAt w g ws) (hk : OfKind 231 ws) (hne : 0 < ws.length) (hlen : ws.length ≤ 2) (hn : sumN ws ≤ (S ws.length).par.length) (hnf : ¬ L.foot g)
    (hdo : ∀ k (hk : k < ws.length) w1 L1, At w1 L1 (S k) → Tab w1 → Gl w1 → Calls Tryd.prog 181 #[cmV (ws[k]).c, .pointer (some ⟨L1.b, 0, none⟩)] w1 fun e w' => e = .returned (.tuple #[]) ∧ ∃ L', At w' L' (D k) ∧ Steps L1 w1 L' w')
    (hS : ∀ k, k < ws.length → S (k + 1) = { D k with done := wrap64 ((D k).done + 1) }) :
    Calls Tryd.prog 81 #[.pointer (some ⟨L.b, 0, none⟩), .slice (some ⟨g, 0, none⟩) ws.length ws.length] w fun e w' => e = .returned (.tuple #[]) ∧ ∃ L', At w' L' ((S ws.length).clear false (ws[ws.length - 1]'(by omega)).c (sumN ws)) ∧ Steps L w L' w' := by
  have HA : Hid (At w L (S 0)) := h
  have HZ : Hid (Gl w) := hz
  have HT : Hid (Tab w) := ht
  have HW : Hid (WorksAt w g ws) := hw
  have HN : Hid (sumN ws ≤ (S ws.length).par.length) := hn
  have HD : Hid (∀ k (hk : k < ws.length) w1 L1, At w1 L1 (S k) → Tab w1 → Gl w1 → Calls Tryd.prog 181 #[cmV (ws[k]).c, .pointer (some ⟨L1.b, 0, none⟩)] w1 fun e w' => e = .returned (.tuple #[]) ∧ ∃ L', At w' L' (D k) ∧ Steps L1 w1 L' w') := hdo
  have HSS : Hid (∀ k, k < ws.length → S (k + 1) = { D k with done := wrap64 ((D k).done + 1) }) := hS
  have HK : Hid (OfKind 231 ws) := hk
  have hlt := h.cells.lt
  have hll : ws.length ≤ 9223372036854775807 := by omega
  clear h hz ht hw hn hdo hS hk
  go_enter Tryd.func81, Tryd.ntmps81
  go_wp2_with fail
  go_loopw [4, 9] (fun sv iv wr => ∃ (k : Nat) (L4 : Lay), k ≤ ws.length ∧ iv = .int .i64 k ∧ sv = .bool (decide (0 < k) && false) ∧ Hid (At wr L4 (S k) ∧ Steps L w L4 wr ∧ WorksAt wr g ws ∧ ¬ L4.foot g ∧ Tab wr ∧ Gl wr)) (fun _ iv _ => ws.length - (intOf iv).toNat)
  case atStart => exact ⟨0, L, Nat.zero_le _, rfl, rfl, HA.out, Steps.refl _ _, HW.out, hnf, HT.out, HZ.out⟩
  case round =>
    obtain ⟨k, L4, hk, rfl, rfl, hrel⟩ := hrel
    by_cases hkl : k < ws.length
    · obtain ⟨y, hy⟩ : ∃ y, y = ws[k] := ⟨_, rfl⟩
      have hmy : y ∈ ws := by rw [hy]; exact List.getElem_mem _
      obtain ⟨k1, k2⟩ := HK.out y hmy
      have hcy : wr.cell? ⟨g, k, none⟩ = some (.iface 231 (cmV y.c)) := by have h1 := hrel.out.2.2.1.cell k hkl; rw [← hy, k1, k2] at h1; exact h1
      have HBL : Hid (L.b = L4.b) := hrel.out.2.1.b.symm
      have hmd := md_pause y.c
      have hta := ta_pause (cmV y.c)
      have hts := ts_pause (cmV y.c)
      have hki : (0 : Int) ≤ (k : Int) ∧ (k : Int) < (ws.length : Int) := by omega
      have HREL : Hid (At wr L4 (S k) ∧ Steps L w L4 wr ∧ WorksAt wr g ws ∧ ¬ L4.foot g ∧ Tab wr ∧ Gl wr) := hrel.out
      have HY : Hid (y = ws[k]) := hy
      clear hrel hy hmy k1 k2
      generalize hcv : cmV y.c = pay at *
      have HCV : Hid (cmV y.c = pay) := hcv
      clear hcv
      go_wp2_with (go_at_call 181; have hcall := HD.out k hkl wr L4 HREL.out.1 HREL.out.2.2.2.2.1 HREL.out.2.2.2.2.2; rw [← HBL.out, ← HY.out, HCV.out] at hcall; refine hcall.mono ?_; clear hcall; rintro e w5 ⟨rfl, L5, hA5, hS5⟩; have HA5 : Hid (At w5 L5 (D k)) := hA5; have HS5 : Hid (Steps L4 wr L5 w5) := hS5; have HL5 : Hid (L.b = L5.b) := HBL.out.trans hS5.b.symm; have hdn : w5.cell? ⟨L.b, 40, none⟩ = some (.int .i64 (D k).done) := (by rw [HL5.out]; exact hA5.done); have hfn : w5.frozen? ⟨L.b, 40, none⟩ = false := (by rw [HL5.out]; exact hA5.free 40); clear hA5 hS5)
      go_roundw
      case rel =>
        have hw5 := HREL.out.2.2.1.steps HS5.out HREL.out.2.2.2.1
        have hs6 := Steps.set (L := L5) w5 40 (.int .i64 (wrap64 ((D k).done + 1)))
        have hnf5 : ¬ L5.foot g := fun hf => (HS5.out.foot g hf).elim HREL.out.2.2.2.1 (fun h => by have := HREL.out.2.2.1.lt; omega)
        have ht5 := HREL.out.2.2.2.2.1.steps HREL.out.1 HS5.out
        refine ⟨k + 1, L5, by omega, by go_num, by simp, ?_⟩
        rw [HL5.out]
        refine ⟨?_, HREL.out.2.1.trans (HS5.out.trans hs6), hw5.steps hs6 hnf5, hnf5, ht5.steps HA5.out hs6, HREL.out.2.2.2.2.2.le (HS5.out.trans hs6).size⟩
        rw [HSS.out k hkl]
        exact HA5.out.setDone _
      case measure => simp [intOf]; omega
    · obtain rfl : k = ws.length := by omega
      have hdk : decide (0 < ws.length) = true := by simp; omega
      obtain ⟨y, hy⟩ : ∃ y, y = ws[0] := ⟨_, rfl⟩
      have hmy : y ∈ ws := by rw [hy]; exact List.getElem_mem _
      have hcy : wr.cell? ⟨g, 0, none⟩ = some (.iface y.T y.pay) := by rw [hy]; exact hrel.out.2.2.1.cell 0 hne
      have hamy : ∀ w, (method 379 y.T y.pay "hart/machine.about").run Tryd.prog w = .ok (167, cmV y.c) w := hrel.out.2.2.1.work y hmy
      have HBL : Hid (L.b = L4.b) := hrel.out.2.1.b.symm
      have hlt4 : L4.b < wr.heap.size := hrel.out.1.cells.lt
      have hfp := fld_commonPc y.c
      unfold cmV at hamy hfp
      have hi0 : (0 : Int) < (ws.length : Int) := by omega
      have HREL : Hid (At wr L4 (S ws.length) ∧ Steps L w L4 wr ∧ WorksAt wr g ws ∧ ¬ L4.foot g ∧ Tab wr ∧ Gl wr) := hrel.out
      clear hrel hy hmy
      rw [hdk]
      go_wp2_with fail
      go_region_with (first
        | (go_at_call 167; refine (m_about_any wr.drew y.c).mono ?_; rintro e w5 ⟨rfl, hb5⟩; unfold cmV; have HB5 : Hid (Below wr.heap.size wr w5) := (Below.refl wr.heap.size wr).drew.trans hb5; clear hb5)
        | (go_at_call 110; have hcall := m_note_any w5 L4 (S ws.length) y.c.pc ws.length (HREL.out.1.below HB5.out (Nat.le_refl _)) (HREL.out.2.2.2.2.2.le HB5.out.size); rw [← HBL.out] at hcall; refine hcall.mono ?_; clear hcall; rintro e w6 ⟨rfl, L6, hA6, hS6⟩; have HA6 : Hid (At w6 L6 (S ws.length)) := hA6; have HS6 : Hid (Steps L4 wr L6 w6) := (Steps.below HB5.out).trans hS6; clear hA6 hS6))
      all_goals (
        go_wp2_with (go_at_call 111; have hcall := m_clearAway_any w6 L6 (S ws.length) ws g false HA6.out (HREL.out.2.2.2.2.2.le HS6.out.size) (HREL.out.2.2.1.steps HS6.out HREL.out.2.2.2.1) hne hlen HN.out (fun hf => (HS6.out.foot g hf).elim HREL.out.2.2.2.1 (fun h => by have := HREL.out.2.2.1.lt; omega)); rw [HS6.out.b, ← HBL.out] at hcall; refine hcall.mono ?_; clear hcall; rintro e w7 ⟨rfl, L7, hA7, hS7⟩; have HA7 : Hid (At w7 L7 ((S ws.length).clear false (ws[ws.length - 1]'(by omega)).c (sumN ws))) := hA7; have HS7 : Hid (Steps L w L7 w7) := HREL.out.2.1.trans (HS6.out.trans hS7); clear hA7 hS7)
        go_end0
        exact ⟨rfl, L7, HA7.out, HS7.out⟩)
end Go.Proofs.YtdcmdjeooklmjaaDoor
