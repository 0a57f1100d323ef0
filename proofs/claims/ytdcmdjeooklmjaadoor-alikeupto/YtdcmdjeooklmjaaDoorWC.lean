/-
  O2 in one text.
-/
import Derived.Test.YtdcmdjeooklmjaaDoorWB
import Derived.Test.YtdcmdjeooklmjaaDoorVG
import Derived.Test.YtdcmdjeooklmjaaDoorVJ
set_option linter.unusedVariables false
set_option linter.unusedSimpArgs false
/-
  Walks: a work's do: store, branch, jump (made by gen_O2.py).
-/
namespace Go
section
variable {P : Program} {Q : Exit → Act → World → Prop} {md : Region.Mode} {S : World → Prop} {fuel : Nat} {listed : Array Bool} {a : Act} {w : World}
theorem runH_26 {o0 o1 o2 o3 o4 o5 o6 o7 o8 o9 o10 o11 o12 o13 o14 o15 o16 o17 o18 o19 o20 o21 o22 o23 o24 o25 o26 : Oper} {l : List Oper} (hr : Region.ready md (List.toArray (o0 :: o1 :: o2 :: o3 :: o4 :: o5 :: o6 :: o7 :: o8 :: o9 :: o10 :: o11 :: o12 :: o13 :: o14 :: o15 :: o16 :: o17 :: o18 :: o19 :: o20 :: o21 :: o22 :: o23 :: o24 :: o25 :: o26 :: l)) listed = [26])
    (h : ∀ K' : Act → World → Prop, Shut (∀ a w, S w → (S w → wpAnyH P md (List.toArray (o0 :: o1 :: o2 :: o3 :: o4 :: o5 :: o6 :: o7 :: o8 :: o9 :: o10 :: o11 :: o12 :: o13 :: o14 :: o15 :: o16 :: o17 :: o18 :: o19 :: o20 :: o21 :: o22 :: o23 :: o24 :: o25 :: o26 :: l)) Q S fuel (listed.setIfInBounds 26 true) a w) → K' a w) → if Region.wanted o26 (yielded (List.toArray (o0 :: o1 :: o2 :: o3 :: o4 :: o5 :: o6 :: o7 :: o8 :: o9 :: o10 :: o11 :: o12 :: o13 :: o14 :: o15 :: o16 :: o17 :: o18 :: o19 :: o20 :: o21 :: o22 :: o23 :: o24 :: o25 :: o26 :: l)) a.tmps) = true then Oper.wp P o26 a w K' Q else K' (a.put o26.dst undef) w) :
    wpAnyH P md (List.toArray (o0 :: o1 :: o2 :: o3 :: o4 :: o5 :: o6 :: o7 :: o8 :: o9 :: o10 :: o11 :: o12 :: o13 :: o14 :: o15 :: o16 :: o17 :: o18 :: o19 :: o20 :: o21 :: o22 :: o23 :: o24 :: o25 :: o26 :: l)) Q S (fuel + 1) listed a w :=
  wpAnyH_ready (rs := [26]) hr (by simp) (AllReadyH.cons (o := o26) rfl h AllReadyH.nil)
theorem runH_27 {o0 o1 o2 o3 o4 o5 o6 o7 o8 o9 o10 o11 o12 o13 o14 o15 o16 o17 o18 o19 o20 o21 o22 o23 o24 o25 o26 o27 : Oper} {l : List Oper} (hr : Region.ready md (List.toArray (o0 :: o1 :: o2 :: o3 :: o4 :: o5 :: o6 :: o7 :: o8 :: o9 :: o10 :: o11 :: o12 :: o13 :: o14 :: o15 :: o16 :: o17 :: o18 :: o19 :: o20 :: o21 :: o22 :: o23 :: o24 :: o25 :: o26 :: o27 :: l)) listed = [27])
    (h : ∀ K' : Act → World → Prop, Shut (∀ a w, S w → (S w → wpAnyH P md (List.toArray (o0 :: o1 :: o2 :: o3 :: o4 :: o5 :: o6 :: o7 :: o8 :: o9 :: o10 :: o11 :: o12 :: o13 :: o14 :: o15 :: o16 :: o17 :: o18 :: o19 :: o20 :: o21 :: o22 :: o23 :: o24 :: o25 :: o26 :: o27 :: l)) Q S fuel (listed.setIfInBounds 27 true) a w) → K' a w) → if Region.wanted o27 (yielded (List.toArray (o0 :: o1 :: o2 :: o3 :: o4 :: o5 :: o6 :: o7 :: o8 :: o9 :: o10 :: o11 :: o12 :: o13 :: o14 :: o15 :: o16 :: o17 :: o18 :: o19 :: o20 :: o21 :: o22 :: o23 :: o24 :: o25 :: o26 :: o27 :: l)) a.tmps) = true then Oper.wp P o27 a w K' Q else K' (a.put o27.dst undef) w) :
    wpAnyH P md (List.toArray (o0 :: o1 :: o2 :: o3 :: o4 :: o5 :: o6 :: o7 :: o8 :: o9 :: o10 :: o11 :: o12 :: o13 :: o14 :: o15 :: o16 :: o17 :: o18 :: o19 :: o20 :: o21 :: o22 :: o23 :: o24 :: o25 :: o26 :: o27 :: l)) Q S (fuel + 1) listed a w :=
  wpAnyH_ready (rs := [27]) hr (by simp) (AllReadyH.cons (o := o27) rfl h AllReadyH.nil)
end
end Go
namespace Go.Proofs.YtdcmdjeooklmjaaDoor
open Go.RowKit Go.PageMap Go.Maps
set_option maxRecDepth 100000
theorem sizeC_ok (op : Int) : sizeC op = 1 ∨ sizeC op = 2 ∨ sizeC op = 4 := by unfold sizeC; split; exact .inl rfl; split; exact .inr (.inl rfl); exact .inr (.inr rfl)
theorem BoxAt.range {W : World} {B : Nat} {T : TypeId} {c : Cm} (h : BoxAt W B T c) : W.rangeAt B 0 c.cells.toList := by
  have hb : W.heap[B]? = some (.cells c.cells T (0, 0)) := h
  intro j v hv
  have h0 : W.cell? ⟨B, 0 + j, none⟩ = c.cells[j]? := by rw [Nat.zero_add]; simp [World.cell?, hb]
  rw [h0, ← hv, Array.getElem?_toList]
set_option maxHeartbeats 2000000 in
theorem m_store_do (w : World) (L : Lay) (M : Mc) (c : Cm) (h : At w L M) (hz : Gl w) (hc : CmOk c) (hr : RegsOk M) :
    Calls Tryd.prog 169 #[cmV c, .pointer (some ⟨L.b, 0, none⟩)] w fun e w' => e = .returned (.tuple #[]) ∧ ∃ L', At w' L' { M with mem := wrL M.mem (addrC M c) ((leB (M.regs c.rs2)).take (sizeC c.op)), pc := c.next } ∧ Steps L w L' w' := by
  have hlt := h.cells.lt
  have hnf : ¬ L.foot w.heap.size := fun hf => Nat.lt_irrefl _ (h.foot_lt hf)
  have HA : Hid (At w L M) := h
  have HZ : Hid (Gl w) := hz
  have HC : Hid (CmOk c) := hc
  have HR : Hid (RegsOk M) := hr
  have ha0 : 0 ≤ addrC M c := by unfold addrC; omega
  have ha1 : addrC M c < 4294967296 := by unfold addrC; omega
  obtain ⟨ad, had⟩ : ∃ ad, ad = addrC M c := ⟨_, rfl⟩
  have HAD : Hid (ad = addrC M c) := had
  rw [← had] at ha0 ha1
  clear h hc hz hr had
  have HPN : Hid (∀ w2, At w2 L M → Gl w2 → Calls Tryd.prog 170 #[.pointer (some ⟨L.b, 33, none⟩), .int .u32 (IntKind.u32.wrap (M.regs c.rs1 + IntKind.u32.wrap c.imm)), .int .i64 (sizeC c.op), .int .u32 (M.regs c.rs2)] w2 fun e w' => e = .returned (.tuple #[]) ∧ ∃ L', At w' L' { M with mem := wrL M.mem ad ((leB (M.regs c.rs2)).take (sizeC c.op)) } ∧ Steps L w2 L' w') := fun w2 h2 z2 => by
    rw [show IntKind.u32.wrap (M.regs c.rs1 + IntKind.u32.wrap c.imm) = ad by rw [HAD.out, IntKind.wrap_u32, IntKind.wrap_u32]; rfl]
    exact m_putNumber_any w2 L M ad _ _ h2 z2 ha0 ha1 (HR.out _).1 (HR.out _).2 (sizeC_ok _)
  unfold cmV
  go_enter Tryd.func169, Tryd.ntmps169
  go_wp2_with fail
  generalize hW : w.alloc _ = W0
  have HS : Hid (BoxAt W0.drew w.heap.size 185 c) := by rw [Hid, ← hW]; exact BoxAt.new w _ c
  have HA0 : Hid (At W0.drew L M) := by rw [Hid, ← hW]; exact (HA.out.alloc _).drew
  have HS0 : Hid (Steps L w L W0.drew) := by rw [Hid, ← hW]; exact (Steps.alloc _ _ _).trans (Steps.drew _ _)
  clear hW
  refine wp_region_held_drew (S := fun W => BoxAt W w.heap.size 185 c) (by kernel_rfl) HS.out (fun hHeld => ?_)
  clear HS
  generalize W0.drew = w1 at *
  refine' takeH_0 _ (by kernel_rfl) (by kernel_rfl) (by kernel_rfl) (fun _ _ _ h => h) (by rfl) ?zy1 hHeld ?zr1
  case zy1 => (intro w' hSw; clear hSw; go_simp; try with_reducible rfl)
  (try simp only [Act.put, List.setIfInBounds_toArray, List.set_cons_zero, List.set_cons_succ])
  refine' takeH_1 _ (by kernel_rfl) (by kernel_rfl) (by kernel_rfl) (fun _ _ _ h => h) (by rfl) ?zy2 hHeld ?zr2
  case zy2 => (intro w' hSw; clear hSw; go_simp; try with_reducible rfl)
  (try simp only [Act.put, List.setIfInBounds_toArray, List.set_cons_zero, List.set_cons_succ])
  refine' takeH_2 _ (by kernel_rfl) (by kernel_rfl) (by kernel_rfl) (fun _ _ _ h => h) (by rfl) ?zy3 hHeld ?zr3
  case zy3 => (intro w' hSw; clear hSw; go_simp; try with_reducible rfl)
  (try simp only [Act.put, List.setIfInBounds_toArray, List.set_cons_zero, List.set_cons_succ])
  refine' takeH_3 _ (by kernel_rfl) (by kernel_rfl) (by kernel_rfl) (fun _ _ _ h => h) (by rfl) ?zy4 hHeld ?zr4
  case zy4 => (intro w' hSw; clear hSw; go_simp; try with_reducible rfl)
  (try simp only [Act.put, List.setIfInBounds_toArray, List.set_cons_zero, List.set_cons_succ])
  refine' takeH_4 _ (by kernel_rfl) (by kernel_rfl) (by kernel_rfl) (fun _ _ _ h => h) (by rfl) ?zy5 hHeld ?zr5
  case zy5 => (intro w' hSw; clear hSw; go_simp; try with_reducible rfl)
  (try simp only [Act.put, List.setIfInBounds_toArray, List.set_cons_zero, List.set_cons_succ])
  refine' takeH_5 _ (by kernel_rfl) (by kernel_rfl) (by kernel_rfl) (fun _ _ _ h => h) (by rfl) ?zy6 hHeld ?zr6
  case zy6 => (intro w' hSw; clear hSw; go_simp; try with_reducible rfl)
  (try simp only [Act.put, List.setIfInBounds_toArray, List.set_cons_zero, List.set_cons_succ])
  refine' takeH_6 _ (by kernel_rfl) (by kernel_rfl) (by kernel_rfl) (fun _ _ _ h => h) (by rfl) ?zy7 hHeld ?zr7
  case zy7 => (intro w' hSw; clear hSw; go_simp; try with_reducible rfl)
  (try simp only [Act.put, List.setIfInBounds_toArray, List.set_cons_zero, List.set_cons_succ])
  refine' takeH_7 _ (by kernel_rfl) (by kernel_rfl) (by kernel_rfl) (fun _ _ _ h => h) (by rfl) ?zy8 hHeld ?zr8
  case zy8 => (intro w' hSw; clear hSw; go_simp; try with_reducible rfl)
  (try simp only [Act.put, List.setIfInBounds_toArray, List.set_cons_zero, List.set_cons_succ])
  refine' takeH_8 _ (by kernel_rfl) (by kernel_rfl) (by kernel_rfl) (fun _ _ _ h => h) (by rfl) ?zy9 hHeld ?zr9
  case zy9 => (intro w' hSw; clear hSw; go_simp; try with_reducible rfl)
  (try simp only [Act.put, List.setIfInBounds_toArray, List.set_cons_zero, List.set_cons_succ])
  refine' takeH_9 _ (by kernel_rfl) (by kernel_rfl) (by kernel_rfl) (fun _ _ _ h => h) (by rfl) ?zy10 hHeld ?zr10
  case zy10 => (intro w' hSw; have c0 := (BoxAt.cell hSw).2.2.1; clear hSw; go_simp; try with_reducible rfl)
  (try simp only [Act.put, List.setIfInBounds_toArray, List.set_cons_zero, List.set_cons_succ])
  refine' takeH_11 _ (by kernel_rfl) (by kernel_rfl) (by kernel_rfl) (fun _ _ _ h => h) (by rfl) ?zy11 hHeld ?zr11
  case zy11 => (intro w' hSw; clear hSw; go_simp; try with_reducible rfl)
  (try simp only [Act.put, List.setIfInBounds_toArray, List.set_cons_zero, List.set_cons_succ])
  refine' takeH_12 _ (by kernel_rfl) (by kernel_rfl) (by kernel_rfl) (fun _ _ _ h => h) (by rfl) ?zy12 hHeld ?zr12
  case zy12 => (intro w' hSw; clear hSw; go_simp; try with_reducible rfl)
  (try simp only [Act.put, List.setIfInBounds_toArray, List.set_cons_zero, List.set_cons_succ])
  refine' takeH_13 _ (by kernel_rfl) (by kernel_rfl) (by kernel_rfl) (fun _ _ _ h => h) (by rfl) ?zy13 hHeld ?zr13
  case zy13 => (intro w' hSw; clear hSw; go_simp; try with_reducible rfl)
  (try simp only [Act.put, List.setIfInBounds_toArray, List.set_cons_zero, List.set_cons_succ])
  refine' takeH_14 _ (by kernel_rfl) (by kernel_rfl) (by kernel_rfl) (fun _ _ _ h => h) (by rfl) ?zy14 hHeld ?zr14
  case zy14 => (intro w' hSw; have c0 := (BoxAt.cell hSw).2.2.2.2.1; clear hSw; go_simp; try with_reducible rfl)
  (try simp only [Act.put, List.setIfInBounds_toArray, List.set_cons_zero, List.set_cons_succ])
  refine' takeH_15 _ (by kernel_rfl) (by kernel_rfl) (by kernel_rfl) (fun _ _ _ h => h) (by rfl) ?zy15 hHeld ?zr15
  case zy15 => (intro w' hSw; clear hSw; go_simp; try with_reducible rfl)
  (try simp only [Act.put, List.setIfInBounds_toArray, List.set_cons_zero, List.set_cons_succ])
  refine' takeH_17 (.agg #[.int .i64 c.op, .int .i64 c.rd, .int .i64 c.rs1, .int .i64 c.rs2, .int .i64 c.imm, .int .u32 c.pc, .int .i64 c.n]) (by kernel_rfl) (by kernel_rfl) (by kernel_rfl) (fun _ _ _ h => h) (by rfl) ?zy16 hHeld ?zr16
  case zy16 => (intro w' hSw; exact exec_load_part (cs := c.cells) rfl rfl (BoxAt.range hSw) Tryd.underlying185 rfl (by kernel_rfl))
  (try simp only [Act.put, List.setIfInBounds_toArray, List.set_cons_zero, List.set_cons_succ])
  refine' takeH_19 _ (by kernel_rfl) (by kernel_rfl) (by kernel_rfl) (fun _ _ _ h => h) (by rfl) ?zy17 hHeld ?zr17
  case zy17 => (intro w' hSw; clear hSw; go_simp; try with_reducible rfl)
  (try simp only [Act.put, List.setIfInBounds_toArray, List.set_cons_zero, List.set_cons_succ])
  refine' takeH_20 _ (by kernel_rfl) (by kernel_rfl) (by kernel_rfl) (fun _ _ _ h => h) (by rfl) ?zy18 hHeld ?zr18
  case zy18 => (intro w' hSw; clear hSw; go_simp; try with_reducible rfl)
  (try simp only [Act.put, List.setIfInBounds_toArray, List.set_cons_zero, List.set_cons_succ])
  refine' takeH_21 _ (by kernel_rfl) (by kernel_rfl) (by kernel_rfl) (fun _ _ _ h => h) (by rfl) ?zy19 hHeld ?zr19
  case zy19 => (intro w' hSw; clear hSw; go_simp; try with_reducible rfl)
  (try simp only [Act.put, List.setIfInBounds_toArray, List.set_cons_zero, List.set_cons_succ])
  refine' takeH_22 _ (by kernel_rfl) (by kernel_rfl) (by kernel_rfl) (fun _ _ _ h => h) (by rfl) ?zy20 hHeld ?zr20
  case zy20 => (intro w' hSw; clear hSw; go_simp; try with_reducible rfl)
  (try simp only [Act.put, List.setIfInBounds_toArray, List.set_cons_zero, List.set_cons_succ])
  refine' takeH_23 _ (by kernel_rfl) (by kernel_rfl) (by kernel_rfl) (fun _ _ _ h => h) (by rfl) ?zy21 hHeld ?zr21
  case zy21 => (intro w' hSw; clear hSw; go_simp; try with_reducible rfl)
  (try simp only [Act.put, List.setIfInBounds_toArray, List.set_cons_zero, List.set_cons_succ])
  refine' takeH_24 _ (by kernel_rfl) (by kernel_rfl) (by kernel_rfl) (fun _ _ _ h => h) (by rfl) ?zy22 hHeld ?zr22
  case zy22 => (intro w' hSw; clear hSw; go_simp; try with_reducible rfl)
  (try simp only [Act.put, List.setIfInBounds_toArray, List.set_cons_zero, List.set_cons_succ])
  refine' takeH_25 _ (by kernel_rfl) (by kernel_rfl) (by kernel_rfl) (fun _ _ _ h => h) (by rfl) ?zy23 hHeld ?zr23
  case zy23 => (intro w' hSw; have c0 := (BoxAt.cell hSw).2.2.2.1; clear hSw; go_simp; try with_reducible rfl)
  (try simp only [Act.put, List.setIfInBounds_toArray, List.set_cons_zero, List.set_cons_succ])
  refine runH_10 (by kernel_rfl) (fun K hK => ?_)
  go_simp
  go_at_call 171
  refine (m_register_any w1 L M c.rs1 HA0.out HC.out.rs1).mono ?_
  rintro e wx ⟨rfl, hwx⟩
  rw [hwx]; clear hwx wx
  go_wp2_with fail
  refine hK.out _ _ hHeld (fun hHeld2 => ?_)
  clear hK K
  (try simp only [Act.put, List.setIfInBounds_toArray, List.set_cons_zero, List.set_cons_succ])
  refine' takeH_16 _ (by kernel_rfl) (by kernel_rfl) (by kernel_rfl) (fun _ _ _ h => h) (by rfl) ?zy24 hHeld ?zr24
  case zy24 => (intro w' hSw; clear hSw; go_simp; try with_reducible rfl)
  (try simp only [Act.put, List.setIfInBounds_toArray, List.set_cons_zero, List.set_cons_succ])
  refine runH_18 (by kernel_rfl) (fun K hK => ?_)
  go_simp
  go_at_call 172
  refine Calls.mono (m_size_any w1 c) ?_
  rintro e w2 ⟨rfl, hb2⟩
  have HA2 : Hid (At w2 L M) := HA0.out.below hb2 (Nat.le_refl _)
  have HS2 : Hid (Steps L w L w2) := HS0.out.trans (Steps.below hb2)
  have HX2 : BoxAt w2 w.heap.size 185 c := BoxAt.below hHeld hb2 (Array.getElem?_eq_some_iff.1 hHeld).1
  clear hb2
  go_wp2_with fail
  refine hK.out _ _ HX2 (fun hHeld3 => ?_)
  clear hK K
  (try simp only [Act.put, List.setIfInBounds_toArray, List.set_cons_zero, List.set_cons_succ])
  refine runH_26 (by kernel_rfl) (fun K hK => ?_)
  go_simp
  go_at_call 171
  refine (m_register_any w2 L M c.rs2 HA2.out HC.out.rs2).mono ?_
  rintro e wx ⟨rfl, hwx⟩
  rw [hwx]; clear hwx wx
  go_wp2_with fail
  refine hK.out _ _ HX2 (fun hHeld4 => ?_)
  clear hK K
  (try simp only [Act.put, List.setIfInBounds_toArray, List.set_cons_zero, List.set_cons_succ])
  refine runH_27 (by kernel_rfl) (fun K hK => ?_)
  go_simp
  go_at_call 170
  refine Calls.mono (HPN.out w2 HA2.out (HZ.out.le HS2.out.size)) ?_
  rintro e w3 ⟨rfl, L3, hA3, hS3⟩
  have HA3 : Hid (At w3 L3 { M with mem := wrL M.mem ad ((leB (M.regs c.rs2)).take (sizeC c.op)) }) := hA3
  have HS3 : Hid (Steps L w L3 w3) := HS2.out.trans hS3
  have HX3 : BoxAt w3 w.heap.size 185 c := HX2.steps hS3 hnf
  have hbb : L3.b = L.b := hS3.b
  clear hA3 hS3
  go_wp2_with fail
  refine hK.out _ _ HX3 (fun hHeld5 => ?_)
  clear hK K
  (try simp only [Act.put, List.setIfInBounds_toArray, List.set_cons_zero, List.set_cons_succ])
  refine wpAnyH_done (by kernel_rfl) ?_ _
  clear hHeld hHeld2 hHeld3 hHeld4 hHeld5
  obtain ⟨g0, g1, g2, g3, g4, g5, g6⟩ := HX3.cell
  have HXX : Hid (BoxAt w3 w.heap.size 185 c) := HX3
  clear HX3 HX2
  go_wp2_with (go_at_call 129; refine (m_next_any w3 c HC.out).mono ?_; rintro e w4 ⟨rfl, hb4⟩; have HA4 : Hid (At w4 L3 { M with mem := wrL M.mem ad ((leB (M.regs c.rs2)).take (sizeC c.op)) }) := HA3.out.below hb4 (Nat.le_refl _); have HS4 : Hid (Steps L w L3 w4) := HS3.out.trans (Steps.below hb4); have hp4 : w4.cell? ⟨L.b, 0, none⟩ = some (.int .u32 M.pc) := (by rw [← hbb]; exact HA4.out.pc); have hf4 : w4.frozen? ⟨L.b, 0, none⟩ = false := (by rw [← hbb]; exact HA4.out.free 0); clear hb4)
  go_end0
  rw [← HAD.out]
  refine ⟨rfl, L3, ?_, ?_⟩
  · rw [← hbb]; exact HA4.out.setPc _
  · rw [← hbb]; exact HS4.out.trans (Steps.set _ _ _)
set_option maxHeartbeats 2000000 in
theorem m_branch_do (w : World) (L : Lay) (M : Mc) (c : Cm) (h : At w L M) (hc : CmOk c) :
    Calls Tryd.prog 177 #[cmV c, .pointer (some ⟨L.b, 0, none⟩)] w fun e w' => e = .returned (.tuple #[]) ∧ At w' L { M with pc := if takenC c.op (M.regs c.rs1) (M.regs c.rs2) then (c.pc + c.imm % 4294967296) % 4294967296 else c.next } ∧ Steps L w L w' := by
  have hlt := h.cells.lt
  have HA : Hid (At w L M) := h
  have HC : Hid (CmOk c) := hc
  clear h hc
  unfold cmV
  go_enter Tryd.func177, Tryd.ntmps177
  go_wp2_with fail
  generalize hW : w.alloc _ = W0
  have HB0 : Hid (Below w.heap.size w W0) := by rw [Hid, ← hW]; exact (Below.refl _ _).alloc (Nat.le_refl _) _
  have HBx : Hid (BoxAt W0 w.heap.size 229 c) := by rw [Hid, ← hW]; exact BoxAt.new w _ c
  have hsz : w.heap.size < W0.heap.size := by rw [← hW]; simp
  have hnf : ¬ L.foot w.heap.size := fun hf => Nat.lt_irrefl _ (HA.out.foot_lt hf)
  have HA0 : Hid (At W0 L M) := HA.out.below HB0.out (Nat.le_refl _)
  clear hW
  refine (m_next_any W0 c HC.out).mono ?_
  rintro e w1 ⟨rfl, hb1⟩
  have HA1 : Hid (At w1 L M) := HA0.out.below hb1 (Nat.le_refl _)
  have HS1 : Hid (Steps L w L w1) := (Steps.below HB0.out).trans (Steps.below hb1)
  have HX1 : Hid (BoxAt w1 w.heap.size 229 c) := HBx.out.below hb1 hsz
  have hp1 := HA1.out.pc
  have hf1 := HA1.out.free 0
  clear hb1
  go_wp2_with fail
  have HA2 : Hid (At (w1.setCell ⟨L.b, 0, none⟩ (.int .u32 c.next)).drew L { M with pc := c.next }) := (HA1.out.setPc _).drew
  have HS2 : Hid (Steps L w L (w1.setCell ⟨L.b, 0, none⟩ (.int .u32 c.next)).drew) := (HS1.out.trans (Steps.set _ _ _)).trans (Steps.drew _ _)
  have HX2 : Hid (BoxAt (w1.setCell ⟨L.b, 0, none⟩ (.int .u32 c.next)).drew w.heap.size 229 c) := BoxAt.steps (w' := (w1.setCell ⟨L.b, 0, none⟩ (.int .u32 c.next)).drew) HX1.out ((Steps.set _ _ _).trans (Steps.drew L _)) hnf
  clear hp1 hf1
  refine wp_region_held_drew (S := fun W => BoxAt W w.heap.size 229 c) (by kernel_rfl) HX2.out (fun hHeld => ?_)
  generalize (w1.setCell ⟨L.b, 0, none⟩ (.int .u32 c.next)).drew = W2 at *
  refine' takeH_0 (.agg #[.int .i64 c.op, .int .i64 c.rd, .int .i64 c.rs1, .int .i64 c.rs2, .int .i64 c.imm, .int .u32 c.pc, .int .i64 c.n]) (by kernel_rfl) (by kernel_rfl) (by kernel_rfl) (fun _ _ _ h => h) (by rfl) ?zy1 hHeld ?zr1
  case zy1 => (intro w' hSw; exact exec_load_part (cs := c.cells) rfl rfl (BoxAt.range hSw) Tryd.underlying229 rfl (by kernel_rfl))
  (try simp only [Act.put, List.setIfInBounds_toArray, List.set_cons_zero, List.set_cons_succ])
  refine' takeH_1 _ (by kernel_rfl) (by kernel_rfl) (by kernel_rfl) (fun _ _ _ h => h) (by rfl) ?zy2 hHeld ?zr2
  case zy2 => (intro w' hSw; clear hSw; go_simp; try with_reducible rfl)
  (try simp only [Act.put, List.setIfInBounds_toArray, List.set_cons_zero, List.set_cons_succ])
  refine' takeH_2 _ (by kernel_rfl) (by kernel_rfl) (by kernel_rfl) (fun _ _ _ h => h) (by rfl) ?zy3 hHeld ?zr3
  case zy3 => (intro w' hSw; clear hSw; go_simp; try with_reducible rfl)
  (try simp only [Act.put, List.setIfInBounds_toArray, List.set_cons_zero, List.set_cons_succ])
  refine' takeH_3 _ (by kernel_rfl) (by kernel_rfl) (by kernel_rfl) (fun _ _ _ h => h) (by rfl) ?zy4 hHeld ?zr4
  case zy4 => (intro w' hSw; clear hSw; go_simp; try with_reducible rfl)
  (try simp only [Act.put, List.setIfInBounds_toArray, List.set_cons_zero, List.set_cons_succ])
  refine' takeH_4 _ (by kernel_rfl) (by kernel_rfl) (by kernel_rfl) (fun _ _ _ h => h) (by rfl) ?zy5 hHeld ?zr5
  case zy5 => (intro w' hSw; clear hSw; go_simp; try with_reducible rfl)
  (try simp only [Act.put, List.setIfInBounds_toArray, List.set_cons_zero, List.set_cons_succ])
  refine' takeH_5 _ (by kernel_rfl) (by kernel_rfl) (by kernel_rfl) (fun _ _ _ h => h) (by rfl) ?zy6 hHeld ?zr6
  case zy6 => (intro w' hSw; clear hSw; go_simp; try with_reducible rfl)
  (try simp only [Act.put, List.setIfInBounds_toArray, List.set_cons_zero, List.set_cons_succ])
  refine' takeH_6 _ (by kernel_rfl) (by kernel_rfl) (by kernel_rfl) (fun _ _ _ h => h) (by rfl) ?zy7 hHeld ?zr7
  case zy7 => (intro w' hSw; clear hSw; go_simp; try with_reducible rfl)
  (try simp only [Act.put, List.setIfInBounds_toArray, List.set_cons_zero, List.set_cons_succ])
  refine' takeH_7 _ (by kernel_rfl) (by kernel_rfl) (by kernel_rfl) (fun _ _ _ h => h) (by rfl) ?zy8 hHeld ?zr8
  case zy8 => (intro w' hSw; have c0 := (BoxAt.cell hSw).2.2.1; clear hSw; go_simp; try with_reducible rfl)
  (try simp only [Act.put, List.setIfInBounds_toArray, List.set_cons_zero, List.set_cons_succ])
  refine' takeH_9 _ (by kernel_rfl) (by kernel_rfl) (by kernel_rfl) (fun _ _ _ h => h) (by rfl) ?zy9 hHeld ?zr9
  case zy9 => (intro w' hSw; clear hSw; go_simp; try with_reducible rfl)
  (try simp only [Act.put, List.setIfInBounds_toArray, List.set_cons_zero, List.set_cons_succ])
  refine' takeH_10 _ (by kernel_rfl) (by kernel_rfl) (by kernel_rfl) (fun _ _ _ h => h) (by rfl) ?zy10 hHeld ?zr10
  case zy10 => (intro w' hSw; clear hSw; go_simp; try with_reducible rfl)
  (try simp only [Act.put, List.setIfInBounds_toArray, List.set_cons_zero, List.set_cons_succ])
  refine' takeH_11 _ (by kernel_rfl) (by kernel_rfl) (by kernel_rfl) (fun _ _ _ h => h) (by rfl) ?zy11 hHeld ?zr11
  case zy11 => (intro w' hSw; clear hSw; go_simp; try with_reducible rfl)
  (try simp only [Act.put, List.setIfInBounds_toArray, List.set_cons_zero, List.set_cons_succ])
  refine' takeH_12 _ (by kernel_rfl) (by kernel_rfl) (by kernel_rfl) (fun _ _ _ h => h) (by rfl) ?zy12 hHeld ?zr12
  case zy12 => (intro w' hSw; clear hSw; go_simp; try with_reducible rfl)
  (try simp only [Act.put, List.setIfInBounds_toArray, List.set_cons_zero, List.set_cons_succ])
  refine' takeH_13 _ (by kernel_rfl) (by kernel_rfl) (by kernel_rfl) (fun _ _ _ h => h) (by rfl) ?zy13 hHeld ?zr13
  case zy13 => (intro w' hSw; clear hSw; go_simp; try with_reducible rfl)
  (try simp only [Act.put, List.setIfInBounds_toArray, List.set_cons_zero, List.set_cons_succ])
  refine' takeH_14 _ (by kernel_rfl) (by kernel_rfl) (by kernel_rfl) (fun _ _ _ h => h) (by rfl) ?zy14 hHeld ?zr14
  case zy14 => (intro w' hSw; clear hSw; go_simp; try with_reducible rfl)
  (try simp only [Act.put, List.setIfInBounds_toArray, List.set_cons_zero, List.set_cons_succ])
  refine' takeH_15 _ (by kernel_rfl) (by kernel_rfl) (by kernel_rfl) (fun _ _ _ h => h) (by rfl) ?zy15 hHeld ?zr15
  case zy15 => (intro w' hSw; have c0 := (BoxAt.cell hSw).2.2.2.1; clear hSw; go_simp; try with_reducible rfl)
  (try simp only [Act.put, List.setIfInBounds_toArray, List.set_cons_zero, List.set_cons_succ])
  refine runH_8 (by kernel_rfl) (fun K hK => ?_)
  go_simp
  go_at_call 171
  refine (m_register_any W2 L _ c.rs1 HA2.out HC.out.rs1).mono ?_
  rintro e wx ⟨rfl, hwx⟩
  rw [hwx]; clear hwx wx
  go_wp2_with fail
  refine hK.out _ _ hHeld (fun hHeld2 => ?_)
  clear hK K
  (try simp only [Act.put, List.setIfInBounds_toArray, List.set_cons_zero, List.set_cons_succ])
  refine runH_16 (by kernel_rfl) (fun K hK => ?_)
  go_simp
  go_at_call 171
  refine (m_register_any W2 L _ c.rs2 HA2.out HC.out.rs2).mono ?_
  rintro e wx ⟨rfl, hwx⟩
  rw [hwx]; clear hwx wx
  go_wp2_with fail
  refine hK.out _ _ hHeld (fun hHeld3 => ?_)
  clear hK K
  (try simp only [Act.put, List.setIfInBounds_toArray, List.set_cons_zero, List.set_cons_succ])
  refine runH_17 (by kernel_rfl) (fun K hK => ?_)
  go_simp
  go_at_call 178
  refine Calls.mono (m_taken_any W2 c _ _) ?_
  rintro e w4 ⟨rfl, hb4⟩
  have HA4 : Hid (At w4 L { M with pc := c.next }) := HA2.out.below hb4 (Nat.le_refl _)
  have HS4 : Hid (Steps L w L w4) := HS2.out.trans (Steps.below hb4)
  have HX4 : BoxAt w4 w.heap.size 229 c := BoxAt.below hHeld hb4 (Array.getElem?_eq_some_iff.1 hHeld).1
  clear hb4
  go_wp2_with fail
  refine hK.out _ _ HX4 (fun hHeld4 => ?_)
  clear hK K
  (try simp only [Act.put, List.setIfInBounds_toArray, List.set_cons_zero, List.set_cons_succ])
  refine wpAnyH_done (by kernel_rfl) ?_ _
  clear hHeld hHeld2 hHeld3 hHeld4
  obtain ⟨g0, g1, g2, g3, g4, g5, g6⟩ := HX4.cell
  have hp4 := HA4.out.pc
  have hf4 := HA4.out.free 0
  clear HX4 HX2
  generalize hpx : (if takenC c.op (M.regs c.rs1) (M.regs c.rs2) = true then (c.pc + c.imm % 4294967296) % 4294967296 else c.next) = PX
  have HPX : Hid ((if takenC c.op (M.regs c.rs1) (M.regs c.rs2) = true then (c.pc + c.imm % 4294967296) % 4294967296 else c.next) = PX) := hpx
  clear hpx
  cases htk : takenC c.op (M.regs c.rs1) (M.regs c.rs2) with
  | true =>
    have e : (c.pc + c.imm) % 4294967296 = PX := by have := HPX.out; rw [htk, if_pos rfl] at this; omega
    go_wp2
    go_end0
    exact ⟨rfl, HA4.out.setPc _, HS4.out.trans (Steps.set _ _ _)⟩
  | false =>
    have e : c.next = PX := by have := HPX.out; rw [htk, if_neg (by decide)] at this; exact this
    go_wp2
    go_end0
    rw [← e]
    exact ⟨rfl, HA4.out, HS4.out⟩
set_option maxHeartbeats 800000 in
theorem m_jump_do (w : World) (L : Lay) (M : Mc) (c : Cm) (h : At w L M) (hc : CmOk c) :
    Calls Tryd.prog 174 #[cmV c, .pointer (some ⟨L.b, 0, none⟩)] w fun e w' => e = .returned (.tuple #[]) ∧ At w' L { M.put c.rd c.next with pc := targetC M c } ∧ Steps L w L w' := by
  have hlt := h.cells.lt
  have HA : Hid (At w L M) := h
  have HC : Hid (CmOk c) := hc
  clear h hc
  unfold cmV
  go_enter Tryd.func174, Tryd.ntmps174
  go_wp2_with fail
  generalize hW : w.alloc _ = W0
  have HB0 : Hid (Below w.heap.size w W0) := by rw [Hid, ← hW]; exact (Below.refl _ _).alloc (Nat.le_refl _) _
  have HBx : Hid (BoxAt W0 w.heap.size 228 c) := by rw [Hid, ← hW]; exact BoxAt.new w _ c
  have hsz : w.heap.size < W0.heap.size := by rw [← hW]; simp
  have hnf : ¬ L.foot w.heap.size := fun hf => Nat.lt_irrefl _ (HA.out.foot_lt hf)
  have HA0 : Hid (At W0 L M) := HA.out.below HB0.out (Nat.le_refl _)
  clear hW
  refine (m_target_any W0 L M c HA0.out HC.out).mono ?_
  rintro e w1 ⟨rfl, hb1⟩
  have HA1 : Hid (At w1 L M) := HA0.out.below hb1 (Nat.le_refl _)
  have HS1 : Hid (Steps L w L w1) := (Steps.below HB0.out).trans (Steps.below hb1)
  have HX1 : Hid (BoxAt w1 w.heap.size 228 c) := HBx.out.below hb1 hsz
  have hsz1 : w.heap.size < w1.heap.size := Nat.lt_of_lt_of_le hsz hb1.size
  clear hb1
  obtain ⟨f0, f1, f2, f3, f4, f5, f6⟩ := HX1.out.cell
  have HNX : Hid (Calls Tryd.prog 129 #[.agg #[.int .i64 c.op, .int .i64 c.rd, .int .i64 c.rs1, .int .i64 c.rs2, .int .i64 c.imm, .int .u32 c.pc, .int .i64 c.n]] w1.drew fun e w' => e = .returned (.int .u32 c.next) ∧ Below w1.drew.heap.size w1.drew w') := m_next_any w1.drew c HC.out
  go_wp2_with fail
  go_region_with (first
    | (go_at_call 129; (with_reducible refine' Calls.mono HNX.out ?_); (rintro e w2 ⟨rfl, hb2⟩; have HA2 : Hid (At w2 L M) := HA1.out.drew.below hb2 (Nat.le_refl _); have HS2 : Hid (Steps L w L w2) := (HS1.out.trans (Steps.drew _ _)).trans (Steps.below hb2); have HX2 : Hid (BoxAt w2 w.heap.size 228 c) := BoxAt.below (W := w1.drew) HX1.out hb2 hsz1; obtain ⟨g0, g1, g2, g3, g4, g5, g6⟩ := HX2.out.cell; clear hb2))
    | (go_at_call 176; refine (m_setRegister_any w2 L M c.rd _ HA2.out HC.out.rd).mono ?_; rintro e w3 ⟨rfl, hA3, hS3⟩; have HA3 : Hid (At w3 L (M.put c.rd c.next)) := hA3; have HS3 : Hid (Steps L w L w3) := HS2.out.trans hS3; have hp3 := HA3.out.pc; have hf3 := HA3.out.free 0; clear hA3 hS3))
  all_goals clear f0 f1 f2 f3 f4 f5 f6 g0 g1 g2 g3 g4 g5 g6
  all_goals go_wp2
  all_goals go_end0
  all_goals exact ⟨rfl, HA3.out.setPc _, HS3.out.trans (Steps.set _ _ _)⟩
end Go.Proofs.YtdcmdjeooklmjaaDoor
