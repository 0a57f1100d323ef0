/-
  O6 in one text.
-/
import Derived.Test.YtdcmdjeooklmjaaDoorWE
import Derived.Test.YtdcmdjeooklmjaaDoorWN
import Derived.Test.YtdcmdjeooklmjaaDoorVK
set_option linter.unusedVariables false
set_option linter.unusedSimpArgs false
/-
  Walks: doWorks of any works; Tick (made by gen_O6.py).
-/
namespace Go.Proofs.YtdcmdjeooklmjaaDoor
open Go.RowKit Go.PageMap Go.Maps
set_option maxRecDepth 100000
/-- What a machine's walks ask of it. -/
structure McOk (M : Mc) : Prop where
  regs : RegsOk M
  mem : MemOk M.mem
  line : LineOk M.line
  ahead : 0 ≤ M.ahead ∧ M.ahead < 4294967296
  par : ParOk M.par
  len : M.par.length ≤ 48
theorem wkOf_jump {c : Cm} (h : c.op = 3 ∨ c.op = 4) : wkOf c = ⟨228, cmV c, c⟩ := by
  unfold wkOf
  rw [if_pos h]
theorem doK_jump (M : Mc) {c : Cm} (h : c.op = 3 ∨ c.op = 4) : M.doK c = { M.put c.rd c.next with pc := targetC M c } := by
  unfold Mc.doK
  rw [if_pos h]
theorem do_jump (w : World) (L : Lay) (N : Mc) (c : Cm) (g : Nat) (h : At w L N) (ht : Tabs w) (hW : WorksAt w g [wkOf c]) (hc : c.op = 3 ∨ c.op = 4) (hk : CmOk c) (hr : RegsOk N) (hm : MemOk N.mem) (hcn : c.n ≤ N.par.length) (hnf : ¬ L.foot g) :
    Calls Tryd.prog 81 #[.pointer (some ⟨L.b, 0, none⟩), .slice (some ⟨g, 0, none⟩) 1 1] w fun e w' => e = .returned (.tuple #[]) ∧ ∃ L', At w' L' ((N.one c).clear false c c.n) ∧ Steps L w L' w' := by
  have hwc : (wkOf c).c = c := wkOf_c c
  have hpar : (N.one c).par = N.par := (one_rest N c).1.par
  have hsum : sumN [wkOf c] = c.n := by simp [sumN, hwc]
  have key := m_doWorks_jump w L [wkOf c] g (fun k => if k = 0 then N else N.one c) (fun _ => N.doK c) h ht.tab ht.gl hW
    (fun x hx => by simp at hx; subst hx; rw [wkOf_jump hc]; exact ⟨rfl, rfl⟩) (by simp) (by simp) (by rw [hsum]; show c.n ≤ (N.one c).par.length; rw [hpar]; exact hcn) hnf
    (fun k hk' w1 L1 h1 ht1 hz1 => by
      obtain rfl : k = 0 := by simp at hk'; omega
      have := m_jump_do w1 L1 N c h1 hk
      rw [← doK_jump N hc] at this
      simp only [List.getElem_cons_zero, hwc]
      exact this.mono fun e w' ⟨e, ha, hs⟩ => ⟨e, L1, ha, hs⟩)
    (fun k hk' => by
      obtain rfl : k = 0 := by simp at hk'; omega
      rfl)
  refine key.mono fun e w' ⟨he, L', ha, hs⟩ => ⟨he, L', ?_, hs⟩
  have e1 : ([wkOf c][[wkOf c].length - 1]'(by simp)).c = c := hwc
  rw [hsum, e1] at ha
  exact ha
theorem wkOf_branch {c : Cm} (h : c.op = 5 ∨ c.op = 6 ∨ c.op = 7 ∨ c.op = 8 ∨ c.op = 9 ∨ c.op = 10) : wkOf c = ⟨229, cmV c, c⟩ := by
  unfold wkOf
  rw [if_neg (by omega), if_pos h]
theorem doK_branch (M : Mc) {c : Cm} (h : c.op = 5 ∨ c.op = 6 ∨ c.op = 7 ∨ c.op = 8 ∨ c.op = 9 ∨ c.op = 10) : M.doK c = { M with pc := if takenC c.op (M.regs c.rs1) (M.regs c.rs2) then (c.pc + c.imm % 4294967296) % 4294967296 else c.next } := by
  unfold Mc.doK
  rw [if_neg (by omega), if_pos h]
theorem do_branch (w : World) (L : Lay) (N : Mc) (c : Cm) (g : Nat) (h : At w L N) (ht : Tabs w) (hW : WorksAt w g [wkOf c]) (hc : c.op = 5 ∨ c.op = 6 ∨ c.op = 7 ∨ c.op = 8 ∨ c.op = 9 ∨ c.op = 10) (hk : CmOk c) (hr : RegsOk N) (hm : MemOk N.mem) (hcn : c.n ≤ N.par.length) (hnf : ¬ L.foot g) :
    Calls Tryd.prog 81 #[.pointer (some ⟨L.b, 0, none⟩), .slice (some ⟨g, 0, none⟩) 1 1] w fun e w' => e = .returned (.tuple #[]) ∧ ∃ L', At w' L' ((N.one c).clear false c c.n) ∧ Steps L w L' w' := by
  have hwc : (wkOf c).c = c := wkOf_c c
  have hpar : (N.one c).par = N.par := (one_rest N c).1.par
  have hsum : sumN [wkOf c] = c.n := by simp [sumN, hwc]
  have key := m_doWorks_branch w L [wkOf c] g (fun k => if k = 0 then N else N.one c) (fun _ => N.doK c) h ht.tab ht.gl hW
    (fun x hx => by simp at hx; subst hx; rw [wkOf_branch hc]; exact ⟨rfl, rfl⟩) (by simp) (by simp) (by rw [hsum]; show c.n ≤ (N.one c).par.length; rw [hpar]; exact hcn) hnf
    (fun k hk' w1 L1 h1 ht1 hz1 => by
      obtain rfl : k = 0 := by simp at hk'; omega
      have := m_branch_do w1 L1 N c h1 hk
      rw [← doK_branch N hc] at this
      simp only [List.getElem_cons_zero, hwc]
      exact this.mono fun e w' ⟨e, ha, hs⟩ => ⟨e, L1, ha, hs⟩)
    (fun k hk' => by
      obtain rfl : k = 0 := by simp at hk'; omega
      rfl)
  refine key.mono fun e w' ⟨he, L', ha, hs⟩ => ⟨he, L', ?_, hs⟩
  have e1 : ([wkOf c][[wkOf c].length - 1]'(by simp)).c = c := hwc
  rw [hsum, e1] at ha
  exact ha
theorem wkOf_load {c : Cm} (h : c.op = 11 ∨ c.op = 12 ∨ c.op = 13 ∨ c.op = 14 ∨ c.op = 15) : wkOf c = ⟨230, cmV c, c⟩ := by
  unfold wkOf
  rw [if_neg (by omega), if_neg (by omega), if_pos h]
theorem doK_load (M : Mc) {c : Cm} (h : c.op = 11 ∨ c.op = 12 ∨ c.op = 13 ∨ c.op = 14 ∨ c.op = 15) : M.doK c = { M.put c.rd (loadC c.op M.mem (addrC M c)) with pc := c.next } := by
  unfold Mc.doK
  rw [if_neg (by omega), if_neg (by omega), if_pos h]
theorem do_load (w : World) (L : Lay) (N : Mc) (c : Cm) (g : Nat) (h : At w L N) (ht : Tabs w) (hW : WorksAt w g [wkOf c]) (hc : c.op = 11 ∨ c.op = 12 ∨ c.op = 13 ∨ c.op = 14 ∨ c.op = 15) (hk : CmOk c) (hr : RegsOk N) (hm : MemOk N.mem) (hcn : c.n ≤ N.par.length) (hnf : ¬ L.foot g) :
    Calls Tryd.prog 81 #[.pointer (some ⟨L.b, 0, none⟩), .slice (some ⟨g, 0, none⟩) 1 1] w fun e w' => e = .returned (.tuple #[]) ∧ ∃ L', At w' L' ((N.one c).clear false c c.n) ∧ Steps L w L' w' := by
  have hwc : (wkOf c).c = c := wkOf_c c
  have hpar : (N.one c).par = N.par := (one_rest N c).1.par
  have hsum : sumN [wkOf c] = c.n := by simp [sumN, hwc]
  have key := m_doWorks_load w L [wkOf c] g (fun k => if k = 0 then N else N.one c) (fun _ => N.doK c) h ht.tab ht.gl hW
    (fun x hx => by simp at hx; subst hx; rw [wkOf_load hc]; exact ⟨rfl, rfl⟩) (by simp) (by simp) (by rw [hsum]; show c.n ≤ (N.one c).par.length; rw [hpar]; exact hcn) hnf
    (fun k hk' w1 L1 h1 ht1 hz1 => by
      obtain rfl : k = 0 := by simp at hk'; omega
      have := m_load_do w1 L1 N c h1 hk hm
      rw [← doK_load N hc] at this
      simp only [List.getElem_cons_zero, hwc]
      exact this.mono fun e w' ⟨e, ha, hs⟩ => ⟨e, L1, ha, hs⟩)
    (fun k hk' => by
      obtain rfl : k = 0 := by simp at hk'; omega
      rfl)
  refine key.mono fun e w' ⟨he, L', ha, hs⟩ => ⟨he, L', ?_, hs⟩
  have e1 : ([wkOf c][[wkOf c].length - 1]'(by simp)).c = c := hwc
  rw [hsum, e1] at ha
  exact ha
theorem wkOf_store {c : Cm} (h : c.op = 16 ∨ c.op = 17 ∨ c.op = 18) : wkOf c = ⟨185, cmV c, c⟩ := by
  unfold wkOf
  rw [if_neg (by omega), if_neg (by omega), if_neg (by omega), if_pos h]
theorem doK_store (M : Mc) {c : Cm} (h : c.op = 16 ∨ c.op = 17 ∨ c.op = 18) : M.doK c = { M with mem := wrL M.mem (addrC M c) ((leB (M.regs c.rs2)).take (sizeC c.op)), pc := c.next } := by
  unfold Mc.doK
  rw [if_neg (by omega), if_neg (by omega), if_neg (by omega), if_pos h]
theorem do_store (w : World) (L : Lay) (N : Mc) (c : Cm) (g : Nat) (h : At w L N) (ht : Tabs w) (hW : WorksAt w g [wkOf c]) (hc : c.op = 16 ∨ c.op = 17 ∨ c.op = 18) (hk : CmOk c) (hr : RegsOk N) (hm : MemOk N.mem) (hcn : c.n ≤ N.par.length) (hnf : ¬ L.foot g) :
    Calls Tryd.prog 81 #[.pointer (some ⟨L.b, 0, none⟩), .slice (some ⟨g, 0, none⟩) 1 1] w fun e w' => e = .returned (.tuple #[]) ∧ ∃ L', At w' L' ((N.one c).clear true c c.n) ∧ Steps L w L' w' := by
  have hwc : (wkOf c).c = c := wkOf_c c
  have hpar : (N.one c).par = N.par := (one_rest N c).1.par
  have hsum : sumN [wkOf c] = c.n := by simp [sumN, hwc]
  have key := m_doWorks_store w L [wkOf c] g (fun k => if k = 0 then N else N.one c) (fun _ => N.doK c) h ht.tab ht.gl hW
    (fun x hx => by simp at hx; subst hx; rw [wkOf_store hc]; exact ⟨rfl, rfl⟩) (by simp) (by simp) (by rw [hsum]; show c.n ≤ (N.one c).par.length; rw [hpar]; exact hcn) hnf
    (fun k hk' w1 L1 h1 ht1 hz1 => by
      obtain rfl : k = 0 := by simp at hk'; omega
      have := m_store_do w1 L1 N c h1 hz1 hk hr
      rw [← doK_store N hc] at this
      simp only [List.getElem_cons_zero, hwc]
      exact this.mono fun e w' ⟨e, L2, ha, hs⟩ => ⟨e, L2, ha, hs⟩)
    (fun k hk' => by
      obtain rfl : k = 0 := by simp at hk'; omega
      rfl)
  refine key.mono fun e w' ⟨he, L', ha, hs⟩ => ⟨he, L', ?_, hs⟩
  have e1 : ([wkOf c][[wkOf c].length - 1]'(by simp)).c = c := hwc
  rw [hsum, e1] at ha
  exact ha
theorem wkOf_pause {c : Cm} (h : c.op = 46) : wkOf c = ⟨231, cmV c, c⟩ := by
  unfold wkOf
  rw [if_neg (by omega), if_neg (by omega), if_neg (by omega), if_neg (by omega), if_pos h]
theorem doK_pause (M : Mc) {c : Cm} (h : c.op = 46) : M.doK c = { M with pc := c.next } := by
  unfold Mc.doK
  rw [if_neg (by omega), if_neg (by omega), if_neg (by omega), if_neg (by omega), if_pos h]
theorem do_pause (w : World) (L : Lay) (N : Mc) (c : Cm) (g : Nat) (h : At w L N) (ht : Tabs w) (hW : WorksAt w g [wkOf c]) (hc : c.op = 46) (hk : CmOk c) (hr : RegsOk N) (hm : MemOk N.mem) (hcn : c.n ≤ N.par.length) (hnf : ¬ L.foot g) :
    Calls Tryd.prog 81 #[.pointer (some ⟨L.b, 0, none⟩), .slice (some ⟨g, 0, none⟩) 1 1] w fun e w' => e = .returned (.tuple #[]) ∧ ∃ L', At w' L' ((N.one c).clear false c c.n) ∧ Steps L w L' w' := by
  have hwc : (wkOf c).c = c := wkOf_c c
  have hpar : (N.one c).par = N.par := (one_rest N c).1.par
  have hsum : sumN [wkOf c] = c.n := by simp [sumN, hwc]
  have key := m_doWorks_pause w L [wkOf c] g (fun k => if k = 0 then N else N.one c) (fun _ => N.doK c) h ht.tab ht.gl hW
    (fun x hx => by simp at hx; subst hx; rw [wkOf_pause hc]; exact ⟨rfl, rfl⟩) (by simp) (by simp) (by rw [hsum]; show c.n ≤ (N.one c).par.length; rw [hpar]; exact hcn) hnf
    (fun k hk' w1 L1 h1 ht1 hz1 => by
      obtain rfl : k = 0 := by simp at hk'; omega
      have := m_pause_do w1 L1 N c h1 hk
      rw [← doK_pause N hc] at this
      simp only [List.getElem_cons_zero, hwc]
      exact this.mono fun e w' ⟨e, ha, hs⟩ => ⟨e, L1, ha, hs⟩)
    (fun k hk' => by
      obtain rfl : k = 0 := by simp at hk'; omega
      rfl)
  refine key.mono fun e w' ⟨he, L', ha, hs⟩ => ⟨he, L', ?_, hs⟩
  have e1 : ([wkOf c][[wkOf c].length - 1]'(by simp)).c = c := hwc
  rw [hsum, e1] at ha
  exact ha
theorem doK_comp (M : Mc) {c : Cm} (h : IsComp c.op) : M.doK c = M.comp c := by
  unfold IsComp at h
  unfold Mc.doK
  rw [if_neg (by omega), if_neg (by omega), if_neg (by omega), if_neg (by omega), if_neg (by omega)]
theorem do_pair (w : World) (L : Lay) (N : Mc) (c d : Cm) (g : Nat) (h : At w L N) (ht : Tabs w) (hW : WorksAt w g [wkOf c, wkOf d]) (hc : IsComp c.op) (hd : IsComp d.op) (hk : CmOk c) (hkd : CmOk d) (hr : RegsOk N) (hm : MemOk N.mem) (hcn : c.n + d.n ≤ N.par.length) (hnf : ¬ L.foot g) :
    Calls Tryd.prog 81 #[.pointer (some ⟨L.b, 0, none⟩), .slice (some ⟨g, 0, none⟩) 2 2] w fun e w' => e = .returned (.tuple #[]) ∧ ∃ L', At w' L' (((N.one c).one d).clear false d (c.n + d.n)) ∧ Steps L w L' w' := by
  have hwc : (wkOf c).c = c := wkOf_c c
  have hwd : (wkOf d).c = d := wkOf_c d
  have hpar : ((N.one c).one d).par = N.par := by rw [(one_rest (N.one c) d).1.par, (one_rest N c).1.par]
  have hsum : sumN [wkOf c, wkOf d] = c.n + d.n := by simp [sumN, hwc, hwd]
  have hr1 : RegsOk (N.one c) := fun n => (doK_regs N c hr hm).1 n
  have key := m_doWorks_compute w L [wkOf c, wkOf d] g (fun k => if k = 0 then N else if k = 1 then N.one c else (N.one c).one d) (fun k => if k = 0 then N.doK c else (N.one c).doK d) h ht.tab ht.gl hW
    (fun x hx => by
      simp at hx
      rcases hx with rfl | rfl
      · rw [wkOf_comp hc]; exact ⟨rfl, rfl⟩
      · rw [wkOf_comp hd]; exact ⟨rfl, rfl⟩) (by simp) (by simp) (by rw [hsum]; show c.n + d.n ≤ ((N.one c).one d).par.length; rw [hpar]; exact hcn) hnf
    (fun k hk' w1 L1 h1 ht1 hz1 => by
      have hk2 : k = 0 ∨ k = 1 := by simp at hk'; omega
      rcases hk2 with rfl | rfl
      · have := m_compute_do w1 L1 N c h1 ht1 hk hr
        rw [show ({ N.put c.rd (resC c (N.regs c.rs1) (opdC N c)) with pc := c.next } : Mc) = N.doK c from (doK_comp N hc).symm] at this
        simp only [List.getElem_cons_zero, hwc]
        exact this.mono fun e w' ⟨he, ha, hs⟩ => ⟨he, L1, ha, hs⟩
      · have := m_compute_do w1 L1 (N.one c) d h1 ht1 hkd hr1
        rw [show ({ (N.one c).put d.rd (resC d ((N.one c).regs d.rs1) (opdC (N.one c) d)) with pc := d.next } : Mc) = (N.one c).doK d from (doK_comp (N.one c) hd).symm] at this
        simp only [List.getElem_cons_zero, List.getElem_cons_succ, hwd]
        exact this.mono fun e w' ⟨he, ha, hs⟩ => ⟨he, L1, ha, hs⟩)
    (fun k hk' => by
      have hk2 : k = 0 ∨ k = 1 := by simp at hk'; omega
      rcases hk2 with rfl | rfl
      · rfl
      · rfl)
  refine key.mono fun e w' ⟨he, L', ha, hs⟩ => ⟨he, L', ?_, hs⟩
  have e1 : ([wkOf c, wkOf d][[wkOf c, wkOf d].length - 1]'(by simp)).c = d := hwd
  rw [hsum, e1] at ha
  exact ha
theorem wkOf_halt {c : Cm} (h : c.op = 47 ∨ c.op = 48 ∨ c.op = 0) : (wkOf c).T = 183 ∧ (wkOf c).pay = haltV c (haltC c.op) := by
  unfold wkOf haltC
  rcases h with h | h | h <;> rw [h] <;> exact ⟨rfl, rfl⟩
theorem m_doWorks_any (w : World) (L : Lay) (N : Mc) (v : Value) (h : At w L N) (ht : Tabs w) (hv : WorksV w v (worksC N)) (hok : McOk N) (hnf : ∀ g, v.ownBlock = some g → ¬ L.foot g) :
    Calls Tryd.prog 81 #[.pointer (some ⟨L.b, 0, none⟩), v] w fun e w' => e = .returned (.tuple #[]) ∧ ∃ L', At w' L' (N.works (worksC N)) ∧ Steps L w L' w' := by
  have hw := wks N
  generalize worksC N = cs at *
  cases hw with
  | none h0 =>
    rcases hv with ⟨_, rfl⟩ | ⟨hne, _⟩
    · exact (m_doWorks_nil w L N h).mono fun e w' ⟨he, ha, hs⟩ => ⟨he, L, ha, hs⟩
    · exact absurd rfl hne
  | one c hc =>
    rcases hv with ⟨h1, _⟩ | ⟨_, g, rfl, hW⟩
    · cases h1
    have hf := cut_facts hc
    have hk := cut_ok hok.par hc
    have hng := hnf g rfl
    have hcn : c.n ≤ N.par.length := by have := hf.len; omega
    have hW' : WorksAt w g [wkOf c] := hW
    show Calls _ _ #[_, .slice (some ⟨g, 0, none⟩) 1 1] _ _
    by_cases hh : c.op = 47 ∨ c.op = 48 ∨ c.op = 0
    · obtain ⟨e1, e2⟩ := wkOf_halt hh
      have hcell := hW'.cell 0 (by simp)
      simp only [List.getElem_cons_zero] at hcell
      rw [e1, e2] at hcell
      have : N.works [c] = { N with cause := haltC c.op } := by
        show (if haltC c.op ≠ 0 then _ else _) = _
        rw [if_pos]
        unfold haltC
        rcases hh with h | h | h <;> rw [h] <;> decide
      rw [this]
      exact (m_doWorks_halt w L N c _ g h hcell).mono fun e w' ⟨he, ha, hs⟩ => ⟨he, L, ha, hs⟩
    · have hh0 : haltC c.op = 0 := by unfold haltC; rw [if_neg (by omega), if_neg (by omega), if_neg (by omega)]
      have e : N.works [c] = (N.one c).clear (isStC c.op) c c.n := by
        show (if haltC c.op ≠ 0 then _ else _) = _
        rw [if_neg (by simp [hh0])]
      rw [e]
      have h0 := hf.op0
      have h48 := hf.op1
      by_cases k_jump : c.op = 3 ∨ c.op = 4
      · have := do_jump w L N c g h ht hW' k_jump hk hok.regs hok.mem hcn hng
        rw [show isStC c.op = false by unfold isStC; simp; omega]
        exact this
      by_cases k_branch : c.op = 5 ∨ c.op = 6 ∨ c.op = 7 ∨ c.op = 8 ∨ c.op = 9 ∨ c.op = 10
      · have := do_branch w L N c g h ht hW' k_branch hk hok.regs hok.mem hcn hng
        rw [show isStC c.op = false by unfold isStC; simp; omega]
        exact this
      by_cases k_load : c.op = 11 ∨ c.op = 12 ∨ c.op = 13 ∨ c.op = 14 ∨ c.op = 15
      · have := do_load w L N c g h ht hW' k_load hk hok.regs hok.mem hcn hng
        rw [show isStC c.op = false by unfold isStC; simp; omega]
        exact this
      by_cases k_store : c.op = 16 ∨ c.op = 17 ∨ c.op = 18
      · have := do_store w L N c g h ht hW' k_store hk hok.regs hok.mem hcn hng
        rw [show isStC c.op = true by unfold isStC; simp; omega]
        exact this
      by_cases k_pause : c.op = 46
      · have := do_pause w L N c g h ht hW' k_pause hk hok.regs hok.mem hcn hng
        rw [show isStC c.op = false by unfold isStC; simp; omega]
        exact this
      have hc' : IsComp c.op := by unfold IsComp; omega
      have := doComp w L N c g h ht hW' hc' hk hok.regs hcn hng
      rw [show isStC c.op = false by unfold isStC; simp; omega, show N.one c = { N.comp c with done := wrap64 ((N.comp c).done + 1) } by unfold Mc.one; rw [doK_comp N hc']]
      exact this
  | two c d hc hd hfu hp =>
    rcases hv with ⟨h1, _⟩ | ⟨_, g, rfl, hW⟩
    · cases h1
    have hf := cut_facts hc
    have hg := cut_facts hd
    obtain ⟨hcc, hdd⟩ := pair_ops hg hp
    exact do_pair w L N c d g h ht hW hcc hdd (cut_ok hok.par hc) (cut_ok hok.par hd) hok.regs hok.mem hg.len (hnf g rfl)
theorem fetchN_ok (M : Mc) (h : McOk M) (n : Nat) : RegsOk (M.fetchN n) ∧ ParOk (M.fetchN n).par ∧ (M.fetchN n).cause = M.cause ∧ (M.fetchN n).fuse = M.fuse ∧ (M.fetchN n).done = M.done ∧ (M.fetchN n).pc = M.pc ∧ (M.fetchN n).regs = M.regs := by
  induction n with
  | zero => exact ⟨h.regs, h.par, rfl, rfl, rfl, rfl, rfl⟩
  | succ n ih =>
    obtain ⟨h1, h2, h3, h4, h5, h6, h7⟩ := ih
    refine ⟨h1, ?_, h3, h4, h5, h6, h7⟩
    obtain ⟨f1, _, _, f4⟩ := fetchN_facts M n
    intro p hp
    simp only [Mc.fetchN, Mc.fetch1, List.mem_append, List.mem_cons, List.not_mem_nil, or_false] at hp
    rcases hp with hp | rfl
    · exact h2 p hp
    · have := f4 h.ahead
      have hn := num2 (mem := (M.fetchN n).mem) (by rw [f1]; exact h.mem) (M.fetchN n).ahead
      exact ⟨this.1, this.2, hn.1, hn.2⟩
theorem fetch_ok (M : Mc) (h : McOk M) : McOk M.fetch ∧ M.fetch.cause = M.cause ∧ M.fetch.fuse = M.fuse ∧ M.fetch.done = M.done ∧ M.fetch.pc = M.pc ∧ M.fetch.regs = M.regs ∧ M.fetch.mem = M.mem ∧ M.fetch.line = M.line := by
  unfold Mc.fetch
  split
  · rename_i hl
    obtain ⟨h1, h2, h3, h4, h5, h6, h7⟩ := fetchN_ok M h M.left
    obtain ⟨f1, f2, f3, f4⟩ := fetchN_facts M M.left
    exact ⟨⟨h1, by rw [f1]; exact h.mem, by rw [f3]; exact h.line, f4 h.ahead, h2, by rw [f2]; exact hl⟩, h3, h4, h5, h6, h7, f1, f3⟩
  · exact ⟨h, rfl, rfl, rfl, rfl, rfl, rfl, rfl⟩
theorem fet_ok (M : Mc) (f : Bool) (h : McOk M) : McOk (M.fet f) ∧ (M.fet f).cause = M.cause ∧ (M.fet f).fuse = M.fuse ∧ (M.fet f).done = M.done ∧ (M.fet f).pc = M.pc ∧ (M.fet f).regs = M.regs ∧ (M.fet f).mem = M.mem ∧ (M.fet f).line = M.line := by
  cases f with
  | false => exact fetch_ok M h
  | true => exact ⟨h, rfl, rfl, rfl, rfl, rfl, rfl, rfl⟩
theorem m_cutWorks_any (w : World) (L : Lay) (M : Mc) (h : At w L M) (ht : Tabs w) (hok : McOk M) :
    Calls Tryd.prog 82 #[.pointer (some ⟨L.b, 0, none⟩)] w fun e w' => ∃ v, e = .returned v ∧ WorksV w' v (worksC M) ∧ Below w.heap.size w w' ∧ ∀ g, v.ownBlock = some g → w.heap.size ≤ g := by
  cases hf : M.fuse with
  | false => exact m_cutWorks_nofuse w L M h ht hok.par (by have := hok.len; omega) hf
  | true => exact m_cutWorks_fuse w L M h ht hok.par (by have := hok.len; omega) hf
/-- The rest of a tick. -/
def RestOf (L : Lay) (N : Mc) (w1 : World) : Prop := ∀ w2 v, WorksV w2 v (worksC N) → Below w1.heap.size w1 w2 → (∀ g, v.ownBlock = some g → w1.heap.size ≤ g) → Calls Tryd.prog 81 #[.pointer (some ⟨L.b, 0, none⟩), v] w2 fun e w' => e = .returned (.tuple #[]) ∧ ∃ L', At w' L' (N.works (worksC N)) ∧ Steps L w2 L' w'
theorem restOf (L : Lay) (N : Mc) (w1 : World) (h : At w1 L N) (ht : Tabs w1) (hok : McOk N) : RestOf L N w1 := fun w2 v hv hb hg =>
  m_doWorks_any w2 L N v (h.below hb (Nat.le_refl _)) (ht.below hb (Nat.le_refl _)) hv hok (fun g he hf => by have := h.foot_lt hf; have := hg g he; omega)
set_option maxHeartbeats 2000000 in
theorem m_Tick_any (w : World) (L : Lay) (M : Mc) (f r : Bool) (h : At w L M) (ht : Tabs w) (hok : McOk M) :
    Calls Tryd.prog 56 #[.pointer (some ⟨L.b, 0, none⟩), .bool f, .bool r] w fun e w' => e = .returned (.tuple #[]) ∧ ∃ L', At w' L' (M.tick f r) ∧ Steps L w L' w' := by
  have HA : Hid (At w L M) := h
  have HT : Hid (Tabs w) := ht
  have HOK : Hid (McOk M) := hok
  have HHA : Hid (Calls Tryd.prog 79 #[.pointer (some ⟨L.b, 0, none⟩)] w fun e w' => e = .returned (.bool (M.cause != 0)) ∧ w' = w) := m_halted_any w L M h
  clear h ht hok
  by_cases hca : M.cause = 0
  · have hcause : (M.cause != 0) = false := by simp [hca]
    have HCA : Hid (M.cause = 0) := hca
    have HTF : Hid (∀ f r, M.tick f r = if r then M.fet f else (M.fet f).works (worksC (M.fet f))) := by intro f r; unfold Mc.tick; rw [if_neg (by simp [HCA.out])]
    have HCW : Hid (∀ w1 L1 N, At w1 L1 N → Tabs w1 → McOk N → L1.b = L.b → Calls Tryd.prog 82 #[.pointer (some ⟨L.b, 0, none⟩)] w1 fun e w' => ∃ v, e = .returned v ∧ WorksV w' v (worksC N) ∧ Below w1.heap.size w1 w' ∧ ∀ g, v.ownBlock = some g → w1.heap.size ≤ g) := fun w1 L1 N h1 t1 o1 e => by rw [← e]; exact m_cutWorks_any w1 L1 N h1 t1 o1
    have HFE : Hid (Calls Tryd.prog 80 #[.pointer (some ⟨L.b, 0, none⟩)] w fun e w' => e = .returned (.tuple #[]) ∧ ∃ L', At w' L' M.fetch ∧ Steps L w L' w') := m_fetchLine_any w L M HA.out HT.out.gl HOK.out.mem HOK.out.line HOK.out.ahead HOK.out.len
    clear hca
    cases f with
    | true =>
      cases r with
      | true =>
        go_enter Tryd.func56, Tryd.ntmps56
        go_wp2_with (go_at_call 79; refine Calls.mono HHA.out ?_; rintro e w0 ⟨rfl, hw0⟩; rw [hw0]; clear hw0 w0)
        go_end0
        exact ⟨rfl, L, by rw [HTF.out]; exact HA.out, Steps.refl _ _⟩
      | false =>
        go_enter Tryd.func56, Tryd.ntmps56
        go_wp2_with (first
          | (go_at_call 79; refine Calls.mono HHA.out ?_; rintro e w0 ⟨rfl, hw0⟩; rw [hw0]; clear hw0 w0)
          | (go_at_call 82; refine Calls.mono (HCW.out w L M HA.out HT.out HOK.out rfl) ?_; rintro e w2 ⟨v, rfl, hv, hb2, hg2⟩; have HV : Hid (WorksV w2 v (worksC M) ∧ Below w.heap.size w w2 ∧ ∀ g, v.ownBlock = some g → w.heap.size ≤ g) := ⟨hv, hb2, hg2⟩; clear hv hb2 hg2)
          | (go_at_call 81; refine Calls.mono (restOf L M w HA.out HT.out HOK.out w2 v HV.out.1 HV.out.2.1 HV.out.2.2) ?_; rintro e w3 ⟨rfl, L3, hA3, hS3⟩; have HA3 : Hid (At w3 L3 (M.works (worksC M))) := hA3; have HS3 : Hid (Steps L w L3 w3) := (Steps.below HV.out.2.1).trans hS3; clear hA3 hS3))
        go_end0
        exact ⟨rfl, L3, by rw [HTF.out]; exact HA3.out, HS3.out⟩
    | false =>
      cases r with
      | true =>
        go_enter Tryd.func56, Tryd.ntmps56
        go_wp2_with (first
          | (go_at_call 79; refine Calls.mono HHA.out ?_; rintro e w0 ⟨rfl, hw0⟩; rw [hw0]; clear hw0 w0)
          | (go_at_call 80; refine Calls.mono HFE.out ?_; rintro e w1 ⟨rfl, L1, hA1, hS1⟩; have HA1 : Hid (At w1 L1 M.fetch) := hA1; have HS1 : Hid (Steps L w L1 w1) := hS1; clear hA1 hS1))
        go_end0
        exact ⟨rfl, L1, by rw [HTF.out]; exact HA1.out, HS1.out⟩
      | false =>
        go_enter Tryd.func56, Tryd.ntmps56
        go_wp2_with (first
          | (go_at_call 79; refine Calls.mono HHA.out ?_; rintro e w0 ⟨rfl, hw0⟩; rw [hw0]; clear hw0 w0)
          | (go_at_call 80; refine Calls.mono HFE.out ?_; rintro e w1 ⟨rfl, L1, hA1, hS1⟩; have HA1 : Hid (At w1 L1 M.fetch) := hA1; have HS1 : Hid (Steps L w L1 w1) := hS1; have HT1 : Hid (Tabs w1) := HT.out.steps HA.out hS1; clear hA1 hS1)
          | (go_at_call 82; refine Calls.mono (HCW.out w1 L1 M.fetch HA1.out HT1.out (fetch_ok M HOK.out).1 HS1.out.b) ?_; rintro e w2 ⟨v, rfl, hv, hb2, hg2⟩; have HV : Hid (WorksV w2 v (worksC M.fetch) ∧ Below w1.heap.size w1 w2 ∧ ∀ g, v.ownBlock = some g → w1.heap.size ≤ g) := ⟨hv, hb2, hg2⟩; clear hv hb2 hg2)
          | (go_at_call 81; have hcall := restOf L1 M.fetch w1 HA1.out HT1.out (fetch_ok M HOK.out).1 w2 v HV.out.1 HV.out.2.1 HV.out.2.2; rw [HS1.out.b] at hcall; refine Calls.mono hcall ?_; clear hcall; rintro e w3 ⟨rfl, L3, hA3, hS3⟩; have HA3 : Hid (At w3 L3 (M.fetch.works (worksC M.fetch))) := hA3; have HS3 : Hid (Steps L w L3 w3) := HS1.out.trans ((Steps.below HV.out.2.1).trans hS3); clear hA3 hS3))
        go_end0
        exact ⟨rfl, L3, by rw [HTF.out]; exact HA3.out, HS3.out⟩
  · have hcause : (M.cause != 0) = true := by simp [hca]
    have HTF : Hid (M.tick f r = M) := by rw [Hid, Mc.tick, if_pos hca]
    clear hca
    go_enter Tryd.func56, Tryd.ntmps56
    go_wp2_with (go_at_call 79; refine Calls.mono HHA.out ?_; rintro e w0 ⟨rfl, hw0⟩; rw [hw0]; clear hw0 w0)
    exact bodyPost_ret (v := .tuple #[]) (by simp [results, Tryd.results56]) rfl ⟨rfl, L, by rw [HTF.out]; exact HA.out, Steps.refl _ _⟩
theorem h_Tick_any (w : World) (p : Nat) (L : Lay) (M : Mc) (x y : Bool) (h : HAt w p L M) (ht : Tabs w) (hok : McOk M) :
    Calls Tryd.prog 27 #[.pointer (some ⟨p, 0, none⟩), .bool x, .bool y] w fun e w' => e = .returned (.tuple #[]) ∧ ∃ L', HAt w' p L' (M.tick x y) ∧ Steps L w L' w' :=
  h_Tick_of w p L M (M.tick x y) x y h (m_Tick_any w L M x y h.at' ht hok)
end Go.Proofs.YtdcmdjeooklmjaaDoor
