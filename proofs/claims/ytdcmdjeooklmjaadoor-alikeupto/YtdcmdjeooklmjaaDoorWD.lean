/-
  O3 in one text.
-/
import Derived.Test.YtdcmdjeooklmjaaDoorVI
import Derived.Test.YtdcmdjeooklmjaaDoorVH
import Derived.Test.YtdcmdjeooklmjaaDoorWB
set_option linter.unusedVariables false
set_option linter.unusedSimpArgs false
/-
  Walks: isPair; cutWorks where FUSES is yes; doWorks of nothing and of a halt.
-/
namespace Go.Proofs.YtdcmdjeooklmjaaDoor
open Go.RowKit Go.PageMap Go.Maps
set_option maxRecDepth 100000
set_option maxHeartbeats 2000000 in
theorem m_isPair_any (w : World) (c d : Cm) :
    Calls Tryd.prog 113 #[cmV c, cmV d] w fun e w' => e = .returned (.bool (pairC c d)) ∧ Below w.heap.size w w' := by
  obtain ⟨r, hr⟩ : ∃ r, r = pairC c d := ⟨_, rfl⟩
  rw [← hr]
  have HR : Hid (r = pairC c d) := hr
  clear hr
  unfold cmV
  go_enter Tryd.func113, Tryd.ntmps113
  go_wp2_with fail
  generalize hW : World.alloc _ _ = W0
  have HB0 : Hid (Below w.heap.size w W0) := by rw [Hid, ← hW]; exact ((Below.refl _ _).alloc (Nat.le_refl _) _).alloc (by simp) _
  have HX1 : Hid (BoxAt W0 w.heap.size 181 c) := by rw [Hid, ← hW]; exact BoxAt.below (BoxAt.new w _ c) ((Below.refl _ _).alloc (Nat.le_refl _) _) (by simp)
  have HX2 : Hid (BoxAt W0 (w.heap.size + 1) 181 d) := by
    rw [Hid, ← hW]
    have := BoxAt.new (w.alloc (.cells c.cells 181)) 181 d
    rw [World.size_alloc] at this
    exact this
  clear hW
  obtain ⟨e0, e1, e2, e3, e4, e5, e6⟩ := HX1.out.cell
  obtain ⟨f0, f1, f2, f3, f4, f5, f6⟩ := HX2.out.cell
  clear e2 e3 e4 e5 e6 f3 f4 f5 f6
  have HSC : Hid (∀ W, Calls Tryd.prog 132 #[.int .i64 c.op] W fun e w' => e = .returned (.int .i64 (secC c.op)) ∧ w' = W) := fun W => m_secondOf_any c.op W
  by_cases h1 : c.rd ≠ 0
  · have g1 : ((c.rd : Int) != 0) = true := by simp; omega
    by_cases h2 : d.rd = c.rd
    · have g2 : ((d.rd : Int) == (c.rd : Int)) = true := by simp; omega
      by_cases h3 : d.rs1 = c.rd
      · have g3 : ((d.rs1 : Int) == (c.rd : Int)) = true := by simp; omega
        have e : r = (d.op == secC c.op) := by rw [HR.out, pairC]; simp [h1, h2, h3]; rfl
        have HE : Hid (r = (d.op == secC c.op)) := e
        clear e h1 h2 h3
        go_quiet ((go_at_call 132; exact Calls.quiet_of_same (HSC.out _)))
        go_wp2
        go_ret
        exact ⟨congrArg (fun x => Ending.returned (.bool x)) HE.out.symm, Below.drewNw HB0.out _⟩
      · have g3 : ((d.rs1 : Int) == (c.rd : Int)) = false := by simp; omega
        have e : r = false := by rw [HR.out, pairC]; simp [h1, h2, h3]
        have HE : Hid (r = false) := e
        clear e h1 h2 h3
        go_quiet (fail)
        go_wp2
        go_ret
        exact ⟨congrArg (fun x => Ending.returned (.bool x)) HE.out.symm, Below.drewNw HB0.out _⟩
    · have g2 : ((d.rd : Int) == (c.rd : Int)) = false := by simp; omega
      have e : r = false := by rw [HR.out, pairC]; simp [h2]
      have HE : Hid (r = false) := e
      clear e h1 h2
      go_quiet (fail)
      go_wp2
      go_ret
      exact ⟨congrArg (fun x => Ending.returned (.bool x)) HE.out.symm, Below.drewNw HB0.out _⟩
  · have g1 : ((c.rd : Int) != 0) = false := by simp; omega
    have e : r = false := by rw [HR.out, pairC]; simp [h1]
    have HE : Hid (r = false) := e
    clear e h1
    go_quiet (fail)
    go_wp2
    go_ret
    exact ⟨congrArg (fun x => Ending.returned (.bool x)) HE.out.symm, Below.drewNw HB0.out _⟩
theorem nnil_iface (T : TypeId) (p : Value) (w : World) : (binOp .neq 178 (.iface T p) .nilIface).run Tryd.prog w = .ok (.bool true) w := by rfl
theorem nnil_nil (w : World) : (binOp .neq 178 .nilIface .nilIface).run Tryd.prog w = .ok (.bool false) w := by rfl
theorem worksAt_two (w : World) (c d : Cm) (hc : CmOk c) (hd : CmOk d) : WorksAt (w.alloc (.cells #[.iface (wkOf c).T (wkOf c).pay, .iface (wkOf d).T (wkOf d).pay] 178)) w.heap.size ([c, d].map wkOf) where
  lt := by simp
  cell := fun i hi => by
    have : i = 0 ∨ i = 1 := by simp at hi; omega
    rcases this with rfl | rfl <;> simp
  work := fun x hx => by
    simp at hx
    rcases hx with rfl | rfl
    · exact wkOf_is c
    · exact wkOf_is d
  ok := fun x hx => by
    simp at hx
    rcases hx with rfl | rfl
    · rw [wkOf_c]; exact hc
    · rw [wkOf_c]; exact hd
set_option maxHeartbeats 4000000 in
theorem m_cutWorks_fuse (w : World) (L : Lay) (M : Mc) (h : At w L M) (ht : Tabs w) (hp : ParOk M.par) (hl : M.par.length ≤ 100) (hf : M.fuse = true) :
    Calls Tryd.prog 82 #[.pointer (some ⟨L.b, 0, none⟩)] w fun e w' => ∃ v, e = .returned v ∧ WorksV w' v (worksC M) ∧ Below w.heap.size w w' ∧ ∀ g, v.ownBlock = some g → w.heap.size ≤ g := by
  have hlt := h.cells.lt
  have HA : Hid (At w L M) := h
  have HT : Hid (Tabs w) := ht
  have HPO : Hid (ParOk M.par) := hp
  clear h ht hp
  have hn1 := nil_iface
  have hn2 := nil_nil
  have hn3 := nnil_iface
  have hn4 := nnil_nil
  cases hc : cutC M.par 0 with
  | none =>
    have HW : Hid (worksC M = []) := by rw [Hid, worksC, hc]
    have HC : Hid (cutC M.par 0 = none) := hc
    clear hc
    go_enter Tryd.func82, Tryd.ntmps82
    go_wp2_with (go_at_call 112; refine (m_cut_any w L M 0 HA.out HT.out HPO.out hl (by decide)).mono ?_; rintro e w1 ⟨rfl, hb1⟩; rw [HC.out]; unfold cutV; have HB1 : Hid (Below w.heap.size w w1) := hb1; clear hb1; dsimp only)
    go_ret
    exact ⟨_, rfl, .inl ⟨HW.out, rfl⟩, HB1.out, fun g hg => by cases hg⟩
  | some c =>
    have HC : Hid (cutC M.par 0 = some c) := hc
    have HV : Hid (workV c = .iface (wkOf c).T (wkOf c).pay) := wkOf_v c
    have HK : Hid (CmOk c) := cut_ok HPO.out hc
    have hab : ∀ w, (method 379 (wkOf c).T (wkOf c).pay "hart/machine.about").run Tryd.prog w = .ok (167, cmV c) w := by
      have := wkOf_is c; rw [wkOf_c] at this; exact this
    have hfc := fld_common c
    have hn12 : c.n ≤ 2 := by have := HK.out.n; omega
    generalize hT : (wkOf c).T = Tc at *
    generalize hP : (wkOf c).pay = Pc at *
    have HTP : Hid ((wkOf c).T = Tc ∧ (wkOf c).pay = Pc) := ⟨hT, hP⟩
    clear hT hP
    cases hd : cutC M.par c.n with
    | none =>
      have HW : Hid (worksC M = [c]) := by rw [Hid, worksC, hc]; simp only [hf, if_true, hd]
      have HD : Hid (cutC M.par c.n = none) := hd
      clear hc hd
      generalize hcv : cmV c = V at *
      have HCV : Hid (cmV c = V) := hcv
      clear hcv
      go_enter Tryd.func82, Tryd.ntmps82
      go_wp2_with fail
      refine (m_cut_any w L M 0 HA.out HT.out HPO.out hl (by decide)).mono ?_
      rintro e w1 ⟨rfl, hb1⟩
      rw [HC.out]
      unfold cutV
      dsimp only
      rw [HV.out]
      have HB1 : Hid (Below w.heap.size w w1) := hb1
      have hfu : w1.cell? ⟨L.b, 38, none⟩ = some (.bool true) := by rw [← hf]; exact (HA.out.below hb1 (Nat.le_refl _)).fuse
      clear hb1
      go_wp2_with fail
      rw [← HCV.out]
      refine (m_about_any w1 c).mono ?_
      rw [HCV.out]
      rintro e w2 ⟨rfl, hb2⟩
      have HB2 : Hid (Below w.heap.size w w2) := HB1.out.trans (hb2.mono HB1.out.size)
      clear hb2
      go_wp2_with fail
      refine (m_cut_any w2 L M c.n (HA.out.below HB2.out (Nat.le_refl _)) (HT.out.below HB2.out (Nat.le_refl _)) HPO.out hl hn12).mono ?_
      rintro e w3 ⟨rfl, hb3⟩
      rw [HD.out]
      unfold cutV
      dsimp only
      have HB3 : Hid (Below w.heap.size w w3) := HB2.out.trans (hb3.mono HB2.out.size)
      clear hb3
      go_wp2
      go_ret
      refine ⟨_, rfl, .inr ⟨by rw [HW.out]; simp, w3.heap.size, by rw [HW.out]; rfl, by rw [HW.out, ← HTP.out.1, ← HTP.out.2]; exact worksAt_one w3 c HK.out⟩, HB3.out.alloc HB3.out.size _, fun g hg => ?_⟩
      have e : w3.heap.size = g := Option.some.inj hg
      rw [← e]; exact HB3.out.size
    | some d =>
      have HWP : Hid (worksC M = if pairC c d then [c, d] else [c]) := by rw [Hid, worksC, hc]; simp only [hf, if_true, hd]
      have HD : Hid (cutC M.par c.n = some d) := hd
      have HVd : Hid (workV d = .iface (wkOf d).T (wkOf d).pay) := wkOf_v d
      have HKd : Hid (CmOk d) := cut_ok HPO.out hd
      have habd : ∀ w, (method 379 (wkOf d).T (wkOf d).pay "hart/machine.about").run Tryd.prog w = .ok (167, cmV d) w := by
        have := wkOf_is d; rw [wkOf_c] at this; exact this
      have hab1 := m_about_any
      have HAB : Hid (∀ (w : World) (c : Cm), Calls Tryd.prog 167 #[cmV c] w fun e w' => e = .returned (cmV c) ∧ Below w.heap.size w w') := hab1
      have HIP : Hid (∀ w, Calls Tryd.prog 113 #[cmV c, cmV d] w fun e w' => e = .returned (.bool (pairC c d)) ∧ Below w.heap.size w w') := fun w => m_isPair_any w c d
      generalize hT' : (wkOf d).T = Td at *
      generalize hP' : (wkOf d).pay = Pd at *
      have HTPd : Hid ((wkOf d).T = Td ∧ (wkOf d).pay = Pd) := ⟨hT', hP'⟩
      clear hT' hP' hc hd hab1
      have HA1 : Hid (∀ w, Calls Tryd.prog 167 #[cmV c] w fun e w' => e = .returned (cmV c) ∧ Below w.heap.size w w') := fun w => m_about_any w c
      have HA2 : Hid (∀ w, Calls Tryd.prog 167 #[cmV d] w fun e w' => e = .returned (cmV d) ∧ Below w.heap.size w w') := fun w => m_about_any w d
      generalize hcv : cmV c = V at *
      generalize hcv' : cmV d = V' at *
      clear HAB
      have go1 : ∀ W1, Below w.heap.size w W1 → (r : Bool) → pairC c d = r → True := fun _ _ _ _ => trivial
      clear go1
      generalize hpr : pairC c d = r at *
      clear hcv hcv'
      go_enter Tryd.func82, Tryd.ntmps82
      go_wp2_with fail
      refine (m_cut_any w L M 0 HA.out HT.out HPO.out hl (by decide)).mono ?_
      rintro e w1 ⟨rfl, hb1⟩
      rw [HC.out]
      unfold cutV
      dsimp only
      rw [HV.out]
      have HB1 : Hid (Below w.heap.size w w1) := hb1
      have hfu : w1.cell? ⟨L.b, 38, none⟩ = some (.bool true) := by rw [← hf]; exact (HA.out.below hb1 (Nat.le_refl _)).fuse
      clear hb1
      go_wp2_with fail
      refine Calls.mono (HA1.out w1) ?_
      rintro e w2 ⟨rfl, hb2⟩
      have HB2 : Hid (Below w.heap.size w w2) := HB1.out.trans (hb2.mono HB1.out.size)
      clear hb2
      go_wp2_with fail
      refine (m_cut_any w2 L M c.n (HA.out.below HB2.out (Nat.le_refl _)) (HT.out.below HB2.out (Nat.le_refl _)) HPO.out hl hn12).mono ?_
      rintro e w3 ⟨rfl, hb3⟩
      rw [HD.out]
      unfold cutV
      dsimp only
      rw [HVd.out]
      have HB3 : Hid (Below w.heap.size w w3) := HB2.out.trans (hb3.mono HB2.out.size)
      clear hb3
      go_wp2_with fail
      refine Calls.mono (HA1.out w3) ?_
      rintro e w4 ⟨rfl, hb4⟩
      have HB4 : Hid (Below w.heap.size w w4) := HB3.out.trans (hb4.mono HB3.out.size)
      clear hb4
      go_wp2_with fail
      refine Calls.mono (HA2.out w4) ?_
      rintro e w5 ⟨rfl, hb5⟩
      have HB5 : Hid (Below w.heap.size w w5) := HB4.out.trans (hb5.mono HB4.out.size)
      clear hb5
      go_wp2_with fail
      refine Calls.mono (HIP.out w5) ?_
      rintro e w6 ⟨rfl, hb6⟩
      have HB6 : Hid (Below w.heap.size w w6) := HB5.out.trans (hb6.mono HB5.out.size)
      clear hb6
      cases r with
      | true =>
        have HW : Hid (worksC M = [c, d]) := by rw [Hid, HWP.out]; rfl
        go_wp2
        go_ret
        refine ⟨_, rfl, .inr ⟨by rw [HW.out]; simp, w6.heap.size, by rw [HW.out]; rfl, by rw [HW.out, ← HTP.out.1, ← HTP.out.2, ← HTPd.out.1, ← HTPd.out.2]; exact worksAt_two w6 c d HK.out HKd.out⟩, HB6.out.alloc HB6.out.size _, fun g hg => ?_⟩
        have e : w6.heap.size = g := Option.some.inj hg
        rw [← e]; exact HB6.out.size
      | false =>
        have HW : Hid (worksC M = [c]) := by rw [Hid, HWP.out]; rfl
        go_wp2
        go_ret
        refine ⟨_, rfl, .inr ⟨by rw [HW.out]; simp, w6.heap.size, by rw [HW.out]; rfl, by rw [HW.out, ← HTP.out.1, ← HTP.out.2]; exact worksAt_one w6 c HK.out⟩, HB6.out.alloc HB6.out.size _, fun g hg => ?_⟩
        have e : w6.heap.size = g := Option.some.inj hg
        rw [← e]; exact HB6.out.size
end Go.Proofs.YtdcmdjeooklmjaaDoor
