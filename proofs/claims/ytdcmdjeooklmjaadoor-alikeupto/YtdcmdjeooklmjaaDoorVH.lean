/-
  NG NJ in one text.
-/
import Derived.Test.YtdcmdjeooklmjaaDoorVG
set_option linter.unusedVariables false
set_option linter.unusedSimpArgs false
/-
  Walks: doWorks over works of one kind (made by gen_NG.py).
-/
namespace Go.Proofs.YtdcmdjeooklmjaaDoor
open Go.RowKit Go.PageMap Go.Maps
set_option maxRecDepth 100000
/-- Works of one kind lie in the list. -/
def OfKind (T : TypeId) (ws : List Wk) : Prop := ∀ x ∈ ws, x.T = T ∧ x.pay = cmV x.c
theorem fld_commonPc (c : Cm) (w : World) : (Instr.field 181 (cmV c) 1).run Tryd.prog w = .ok (.int .u32 c.pc) w := by kernel_rfl

theorem ta_compute (p : Value) (w : World) : (Instr.typeAssert (.iface 232 p) 178 183 true).run Tryd.prog w = .ok (.tuple #[.agg #[.int .i64 0, .int .i64 0, .int .i64 0, .int .i64 0, .int .i64 0, .int .u32 0, .int .i64 0, .int .i64 0], .bool false]) w := by kernel_rfl
theorem ts_compute (p : Value) (w : World) : (Instr.typeAssert (.iface 232 p) 178 185 true).run Tryd.prog w = .ok (.tuple #[.agg #[.int .i64 0, .int .i64 0, .int .i64 0, .int .i64 0, .int .i64 0, .int .u32 0, .int .i64 0], .bool false]) w := by kernel_rfl
theorem md_compute (c : Cm) (w : World) : (method 379 232 (cmV c) "hart/machine.do").run Tryd.prog w = .ok (182, cmV c) w := by kernel_rfl
set_option maxHeartbeats 4000000 in
theorem m_doWorks_compute (w : World) (L : Lay) (ws : List Wk) (g : Nat) (S D : Nat → Mc) (h : At w L (S 0)) (ht : Tab w) (hz : Gl w) (hw : WorksAt w g ws) (hk : OfKind 232 ws) (hne : 0 < ws.length) (hlen : ws.length ≤ 2) (hn : sumN ws ≤ (S ws.length).par.length) (hnf : ¬ L.foot g)
    (hdo : ∀ k (hk : k < ws.length) w1 L1, At w1 L1 (S k) → Tab w1 → Gl w1 → Calls Tryd.prog 182 #[cmV (ws[k]).c, .pointer (some ⟨L1.b, 0, none⟩)] w1 fun e w' => e = .returned (.tuple #[]) ∧ ∃ L', At w' L' (D k) ∧ Steps L1 w1 L' w')
    (hS : ∀ k, k < ws.length → S (k + 1) = { D k with done := wrap64 ((D k).done + 1) }) :
    Calls Tryd.prog 81 #[.pointer (some ⟨L.b, 0, none⟩), .slice (some ⟨g, 0, none⟩) ws.length ws.length] w fun e w' => e = .returned (.tuple #[]) ∧ ∃ L', At w' L' ((S ws.length).clear false (ws[ws.length - 1]'(by omega)).c (sumN ws)) ∧ Steps L w L' w' := by
  have HA : Hid (At w L (S 0)) := h
  have HZ : Hid (Gl w) := hz
  have HT : Hid (Tab w) := ht
  have HW : Hid (WorksAt w g ws) := hw
  have HN : Hid (sumN ws ≤ (S ws.length).par.length) := hn
  have HD : Hid (∀ k (hk : k < ws.length) w1 L1, At w1 L1 (S k) → Tab w1 → Gl w1 → Calls Tryd.prog 182 #[cmV (ws[k]).c, .pointer (some ⟨L1.b, 0, none⟩)] w1 fun e w' => e = .returned (.tuple #[]) ∧ ∃ L', At w' L' (D k) ∧ Steps L1 w1 L' w') := hdo
  have HSS : Hid (∀ k, k < ws.length → S (k + 1) = { D k with done := wrap64 ((D k).done + 1) }) := hS
  have HK : Hid (OfKind 232 ws) := hk
  have hlt := h.cells.lt
  have hll : ws.length ≤ 9223372036854775807 := by omega
  clear h hz ht hw hn hdo hS hk
  go_enter Tryd.func81, Tryd.ntmps81
  go_wp2_with fail
  go_loopw [4, 9] (fun sv iv wr => ∃ (k : Nat) (L4 : Lay), k ≤ ws.length ∧ iv = .int .i64 k ∧ sv = .bool (decide (0 < k) && false) ∧ Hid (At wr L4 (S k) ∧ Steps L w L4 wr ∧ WorksAt wr g ws ∧ ¬ L4.foot g ∧ Tab wr ∧ Gl wr)) (fun _ iv _ => ws.length - (intOf iv).toNat)
  case atStart => exact ⟨0, L, Nat.zero_le _, rfl, rfl, HA.out, Steps.refl _ _, HW.out, hnf, HT.out, HZ.out⟩
  case round =>
    obtain ⟨k, L4, hk, rfl, rfl, hrel⟩ := hrel
    by_cases hkl : k < ws.length
    · obtain ⟨y, hy⟩ : ∃ y, y = ws[k] := ⟨_, rfl⟩
      have hmy : y ∈ ws := by rw [hy]; exact List.getElem_mem _
      obtain ⟨k1, k2⟩ := HK.out y hmy
      have hcy : wr.cell? ⟨g, k, none⟩ = some (.iface 232 (cmV y.c)) := by have h1 := hrel.out.2.2.1.cell k hkl; rw [← hy, k1, k2] at h1; exact h1
      have HBL : Hid (L.b = L4.b) := hrel.out.2.1.b.symm
      have hmd := md_compute y.c
      have hta := ta_compute (cmV y.c)
      have hts := ts_compute (cmV y.c)
      have hki : (0 : Int) ≤ (k : Int) ∧ (k : Int) < (ws.length : Int) := by omega
      have HREL : Hid (At wr L4 (S k) ∧ Steps L w L4 wr ∧ WorksAt wr g ws ∧ ¬ L4.foot g ∧ Tab wr ∧ Gl wr) := hrel.out
      have HY : Hid (y = ws[k]) := hy
      clear hrel hy hmy k1 k2
      generalize hcv : cmV y.c = pay at *
      have HCV : Hid (cmV y.c = pay) := hcv
      clear hcv
      go_wp2_with (go_at_call 182; have hcall := HD.out k hkl wr L4 HREL.out.1 HREL.out.2.2.2.2.1 HREL.out.2.2.2.2.2; rw [← HBL.out, ← HY.out, HCV.out] at hcall; refine hcall.mono ?_; clear hcall; rintro e w5 ⟨rfl, L5, hA5, hS5⟩; have HA5 : Hid (At w5 L5 (D k)) := hA5; have HS5 : Hid (Steps L4 wr L5 w5) := hS5; have HL5 : Hid (L.b = L5.b) := HBL.out.trans hS5.b.symm; have hdn : w5.cell? ⟨L.b, 40, none⟩ = some (.int .i64 (D k).done) := (by rw [HL5.out]; exact hA5.done); have hfn : w5.frozen? ⟨L.b, 40, none⟩ = false := (by rw [HL5.out]; exact hA5.free 40); clear hA5 hS5)
      go_roundw
      case rel =>
        have hw5 := HREL.out.2.2.1.steps HS5.out HREL.out.2.2.2.1
        have hs6 := Steps.set (L := L5) w5 40 (.int .i64 (wrap64 ((D k).done + 1)))
        have hnf5 : ¬ L5.foot g := fun hf => (HS5.out.foot g hf).elim HREL.out.2.2.2.1 (fun h => by have := HREL.out.2.2.1.lt; omega)
        have ht5 := HREL.out.2.2.2.2.1.steps HREL.out.1 HS5.out
        refine ⟨k + 1, L5, by omega, by go_num, by simp, ?_⟩
        rw [HL5.out]
        refine ⟨?_, HREL.out.2.1.trans (HS5.out.trans hs6), hw5.steps hs6 hnf5, hnf5, ht5.steps HA5.out hs6, HREL.out.2.2.2.2.2.le (HS5.out.trans hs6).size⟩
        rw [HSS.out k hkl]
        exact HA5.out.setDone _
      case measure => simp [intOf]; omega
    · obtain rfl : k = ws.length := by omega
      have hdk : decide (0 < ws.length) = true := by simp; omega
      obtain ⟨y, hy⟩ : ∃ y, y = ws[0] := ⟨_, rfl⟩
      have hmy : y ∈ ws := by rw [hy]; exact List.getElem_mem _
      have hcy : wr.cell? ⟨g, 0, none⟩ = some (.iface y.T y.pay) := by rw [hy]; exact hrel.out.2.2.1.cell 0 hne
      have hamy : ∀ w, (method 379 y.T y.pay "hart/machine.about").run Tryd.prog w = .ok (167, cmV y.c) w := hrel.out.2.2.1.work y hmy
      have HBL : Hid (L.b = L4.b) := hrel.out.2.1.b.symm
      have hlt4 : L4.b < wr.heap.size := hrel.out.1.cells.lt
      have hfp := fld_commonPc y.c
      unfold cmV at hamy hfp
      have hi0 : (0 : Int) < (ws.length : Int) := by omega
      have HREL : Hid (At wr L4 (S ws.length) ∧ Steps L w L4 wr ∧ WorksAt wr g ws ∧ ¬ L4.foot g ∧ Tab wr ∧ Gl wr) := hrel.out
      clear hrel hy hmy
      rw [hdk]
      go_wp2_with fail
      go_region_with (first
        | (go_at_call 167; refine (m_about_any wr.drew y.c).mono ?_; rintro e w5 ⟨rfl, hb5⟩; unfold cmV; have HB5 : Hid (Below wr.heap.size wr w5) := (Below.refl wr.heap.size wr).drew.trans hb5; clear hb5)
        | (go_at_call 110; have hcall := m_note_any w5 L4 (S ws.length) y.c.pc ws.length (HREL.out.1.below HB5.out (Nat.le_refl _)) (HREL.out.2.2.2.2.2.le HB5.out.size); rw [← HBL.out] at hcall; refine hcall.mono ?_; clear hcall; rintro e w6 ⟨rfl, L6, hA6, hS6⟩; have HA6 : Hid (At w6 L6 (S ws.length)) := hA6; have HS6 : Hid (Steps L4 wr L6 w6) := (Steps.below HB5.out).trans hS6; clear hA6 hS6))
      all_goals (
        go_wp2_with (go_at_call 111; have hcall := m_clearAway_any w6 L6 (S ws.length) ws g false HA6.out (HREL.out.2.2.2.2.2.le HS6.out.size) (HREL.out.2.2.1.steps HS6.out HREL.out.2.2.2.1) hne hlen HN.out (fun hf => (HS6.out.foot g hf).elim HREL.out.2.2.2.1 (fun h => by have := HREL.out.2.2.1.lt; omega)); rw [HS6.out.b, ← HBL.out] at hcall; refine hcall.mono ?_; clear hcall; rintro e w7 ⟨rfl, L7, hA7, hS7⟩; have HA7 : Hid (At w7 L7 ((S ws.length).clear false (ws[ws.length - 1]'(by omega)).c (sumN ws))) := hA7; have HS7 : Hid (Steps L w L7 w7) := HREL.out.2.1.trans (HS6.out.trans hS7); clear hA7 hS7)
        go_end0
        exact ⟨rfl, L7, HA7.out, HS7.out⟩)
end Go.Proofs.YtdcmdjeooklmjaaDoor

/-
  Walks: fetchLine.
-/
namespace Go.Proofs.YtdcmdjeooklmjaaDoor
open Go.RowKit Go.PageMap Go.Maps
def Mc.fetch1 (M : Mc) : Mc := { M with par := M.par ++ [(M.ahead, numAt M.mem M.ahead 2)], ahead := (M.ahead + 2) % 4294967296 }
def Mc.fetchN (M : Mc) : Nat → Mc
  | 0 => M
  | n + 1 => (M.fetchN n).fetch1
def Mc.left (M : Mc) : Nat := ((M.line - M.ahead % M.line) / 2).toNat
def Mc.fetch (M : Mc) : Mc := if M.par.length + M.left ≤ 48 then M.fetchN M.left else M
def LineOk (n : Int) : Prop := n = 4 ∨ n = 8 ∨ n = 16 ∨ n = 32 ∨ n = 64
theorem fetchN_facts (M : Mc) (n : Nat) : (M.fetchN n).mem = M.mem ∧ (M.fetchN n).par.length = M.par.length + n ∧ (M.fetchN n).line = M.line ∧ (0 ≤ M.ahead ∧ M.ahead < 4294967296 → 0 ≤ (M.fetchN n).ahead ∧ (M.fetchN n).ahead < 4294967296) := by
  induction n with
  | zero => exact ⟨rfl, rfl, rfl, id⟩
  | succ n ih =>
    obtain ⟨h1, h2, h3, h4⟩ := ih
    refine ⟨h1, ?_, h3, fun h => ?_⟩
    · simp only [Mc.fetchN, Mc.fetch1, List.length_append, List.length_cons, List.length_nil]; omega
    · simp only [Mc.fetchN, Mc.fetch1]; omega
theorem num2 {mem : Int → Int} (h : MemOk mem) (a : Int) : 0 ≤ numAt mem a 2 ∧ numAt mem a 2 < 65536 := by
  have h0 := h ((a + (0 : Nat)) % 4294967296)
  have h1 := h ((a + (1 : Nat)) % 4294967296)
  simp only [numAt, Nat.mul_zero, Nat.mul_one]
  generalize mem ((a + (0 : Nat)) % 4294967296) = x at *
  generalize mem ((a + (1 : Nat)) % 4294967296) = y at *
  have e : (2 : Int) ^ 8 = 256 := rfl
  have e0 : (2 : Int) ^ 0 = 1 := rfl
  rw [e, e0]; omega
theorem left_le (M : Mc) (hl : LineOk M.line) (ha : 0 ≤ M.ahead) : M.left ≤ 32 ∧ (M.line - M.ahead.tmod M.line) % 4294967296 / 2 = M.left := by
  rw [Int.tmod_eq_emod_of_nonneg ha]
  unfold Mc.left
  have h1 := Int.emod_nonneg M.ahead (show M.line ≠ 0 by rcases hl with h | h | h | h | h <;> omega)
  have h2 := Int.emod_lt_of_pos M.ahead (show 0 < M.line by rcases hl with h | h | h | h | h <;> omega)
  generalize M.ahead % M.line = r at *
  rcases hl with h | h | h | h | h <;> rw [h] at h2 ⊢ <;> omega
set_option maxRecDepth 100000
set_option maxHeartbeats 2000000 in
theorem m_fetchLine_any (w : World) (L : Lay) (M : Mc) (h : At w L M) (hz : Gl w) (hm : MemOk M.mem) (hl : LineOk M.line) (ha : 0 ≤ M.ahead ∧ M.ahead < 4294967296) (hp : M.par.length ≤ 48) :
    Calls Tryd.prog 80 #[.pointer (some ⟨L.b, 0, none⟩)] w fun e w' => e = .returned (.tuple #[]) ∧ ∃ L', At w' L' M.fetch ∧ Steps L w L' w' := by
  have hc1 := h.line
  have hc2 := h.ahead
  have hlt := h.cells.lt
  have hl0 : M.line ≠ 0 := by rcases hl with h | h | h | h | h <;> omega
  have HA : Hid (At w L M) := h
  have HZ : Hid (Gl w) := hz
  have HM : Hid (MemOk M.mem) := hm
  have HAH : Hid (0 ≤ M.ahead ∧ M.ahead < 4294967296) := ha
  have HL : Hid (LineOk M.line) := hl
  clear h hz hm hl ha
  go_enter Tryd.func80, Tryd.ntmps80
  go_wp2_with fail
  go_quiet (fail)
  go_wp2_with fail
  obtain ⟨hl32, hle⟩ := left_le M HL.out HAH.out.1
  rw [hle]
  clear hle hc1 hc2 hl0
  refine (m_hasRoom_any (w.drewN nq) L M M.left (HA.out.drewN _) (by omega) (by omega)).mono ?_
  rintro e w1 ⟨rfl, rfl⟩
  have HA1 : Hid (At (w.drewN nq) L M) := HA.out.drewN _
  have HS1 : Hid (Steps L w L (w.drewN nq)) := Steps.drewN _ _ _
  have HZ1 : Hid (Gl (w.drewN nq)) := HZ.out
  generalize w.drewN nq = w1 at *
  by_cases hroom : M.par.length + M.left ≤ 48
  · have HF : Hid (M.fetch = M.fetchN M.left) := by rw [Hid, Mc.fetch, if_pos hroom]
    have hd : decide (M.par.length + M.left ≤ 48) = true := by simp [hroom]
    rw [hd]
    go_wp2_with fail
    go_loopw [27] (fun iv wr => ∃ (k : Nat) (L4 : Lay), k ≤ M.left ∧ iv = .int .i64 k ∧ Hid (At wr L4 (M.fetchN k) ∧ Steps L w L4 wr)) (fun iv _ => M.left - (intOf iv).toNat)
    case atStart => exact ⟨0, L, Nat.zero_le _, rfl, HA1.out, HS1.out⟩
    case round =>
      obtain ⟨k, L4, hk, rfl, hrel⟩ := hrel
      by_cases hkl : k < M.left
      · obtain ⟨f1, f2, f3, f4⟩ := fetchN_facts M k
        obtain ⟨N, hN⟩ : ∃ N, N = M.fetchN k := ⟨_, rfl⟩
        have HN : Hid (N = M.fetchN k) := hN
        rw [← hN] at f1 f2 f3 f4
        have HREL : Hid (At wr L4 N ∧ Steps L w L4 wr) := by rw [hN]; exact hrel.out
        have HMN : Hid (MemOk N.mem) := by rw [Hid, f1]; exact HM.out
        have HAN : Hid (0 ≤ N.ahead ∧ N.ahead < 4294967296) := f4 HAH.out
        have hNl : N.par.length ≤ 100 := by omega
        have HB4 : Hid (L.b = L4.b) := HREL.out.2.b.symm
        have hah : wr.cell? ⟨L.b, 35, none⟩ = some (.int .u32 N.ahead) := by rw [HB4.out]; exact HREL.out.1.ahead
        have hlt4 : L.b < wr.heap.size := by rw [HB4.out]; exact HREL.out.1.cells.lt
        have HZ4 : Hid (Gl wr) := HZ.out.le HREL.out.2.size
        have hn2 := num2 HMN.out N.ahead
        have hcv : IntKind.u16.wrap (numAt N.mem N.ahead 2) = numAt N.mem N.ahead 2 := by rw [IntKind.wrap_u16]; omega
        have HCV : Hid _ := hcv
        clear hrel f1 f2 f3 f4 hN hn2 hcv
        go_wp2_with fail
        go_region_with (first
          | (go_at_call 109; have hcall := m_number_any wr.drew L4 N N.ahead 2 HREL.out.1.drew HAN.out.1 HAN.out.2 (by decide) HMN.out; rw [← HB4.out] at hcall; refine hcall.mono ?_; clear hcall; rintro e w5 ⟨rfl, hb5⟩; have HB5 : Hid (Below wr.heap.size wr w5) := (Below.refl wr.heap.size wr).drew.trans hb5; clear hb5)
          | (go_at_call 108; rw [HCV.out]; have hcall := m_put_any w5 L4 N (numAt N.mem N.ahead 2) (HREL.out.1.below HB5.out (Nat.le_refl _)) (HZ4.out.le HB5.out.size) hNl; rw [← HB4.out] at hcall; refine hcall.mono ?_; clear hcall; rintro e w6 ⟨rfl, L6, hA6, hS6⟩; have HA6 : Hid (At w6 L6 N.fetch1) := hA6; have HS6 : Hid (Steps L w L6 w6) := HREL.out.2.trans ((Steps.below HB5.out).trans hS6); clear hA6 hS6))
        all_goals (
          go_wp2
          go_roundw
          case rel => exact ⟨k + 1, L6, by omega, by go_num, by have h6 := HA6.out; rw [HN.out] at h6; exact h6, HS6.out⟩
          case measure => simp [intOf]; omega)
      · obtain rfl : k = M.left := by omega
        go_wp2
        go_end0
        refine ⟨rfl, L4, ?_, hrel.out.2⟩
        rw [HF.out]; exact hrel.out.1
  · have HF : Hid (M.fetch = M) := by rw [Hid, Mc.fetch, if_neg hroom]
    have hd : decide (M.par.length + M.left ≤ 48) = false := by simp [hroom]
    rw [hd]
    go_wp2
    refine bodyPost_ret (v := .tuple #[]) (by simp [results, Tryd.results80]) rfl ⟨rfl, L, ?_, HS1.out⟩
    rw [HF.out]; exact HA1.out
end Go.Proofs.YtdcmdjeooklmjaaDoor
