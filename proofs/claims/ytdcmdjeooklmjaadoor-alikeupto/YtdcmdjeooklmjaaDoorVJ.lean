/-
  HL NN NO in one text.
-/
import Derived.Test.YtdcmdjeooklmjaaDoorGH
import Derived.Deep.MidRow
import Derived.Deep.WholeRow
import Derived.Test.YtdcmdjeooklmjaaDoorVI
set_option linter.unusedVariables false
set_option linter.unusedSimpArgs false
/-
  The held walk, where two calls are ready at once (made by gen_NN.py).
-/
namespace Go
section
variable {P : Program} {Q : Exit → Act → World → Prop} {md : Region.Mode} {S : World → Prop} {fuel : Nat} {listed : Array Bool} {a : Act} {w : World}
theorem run2H_4_5 {o0 o1 o2 o3 o4 o5 : Oper} {l : List Oper} (hr : Region.ready md (List.toArray (o0 :: o1 :: o2 :: o3 :: o4 :: o5 :: l)) listed = [4, 5])
    (h1 : ∀ K' : Act → World → Prop, Shut (∀ a w, S w → (S w → wpAnyH P md (List.toArray (o0 :: o1 :: o2 :: o3 :: o4 :: o5 :: l)) Q S fuel (listed.setIfInBounds 4 true) a w) → K' a w) → if Region.wanted o4 (yielded (List.toArray (o0 :: o1 :: o2 :: o3 :: o4 :: o5 :: l)) a.tmps) = true then Oper.wp P o4 a w K' Q else K' (a.put o4.dst undef) w)
    (h2 : ∀ K' : Act → World → Prop, Shut (∀ a w, S w → (S w → wpAnyH P md (List.toArray (o0 :: o1 :: o2 :: o3 :: o4 :: o5 :: l)) Q S fuel (listed.setIfInBounds 5 true) a w) → K' a w) → if Region.wanted o5 (yielded (List.toArray (o0 :: o1 :: o2 :: o3 :: o4 :: o5 :: l)) a.tmps) = true then Oper.wp P o5 a w K' Q else K' (a.put o5.dst undef) w) :
    wpAnyH P md (List.toArray (o0 :: o1 :: o2 :: o3 :: o4 :: o5 :: l)) Q S (fuel + 1) listed a w :=
  wpAnyH_ready (rs := [4, 5]) hr (by simp) (AllReadyH.cons (o := o4) rfl h1 (AllReadyH.cons (o := o5) rfl h2 AllReadyH.nil))
end
theorem exec_load_part {P : Program} {op : Oper} {a : Act} {w : World} {ty : TypeId} {x : Operand} {b o : Nat} {cs : Array Value} {d : TypeDesc} (ho : op.op = .load ty x) (hx : a.eval x = .pointer (some ⟨b, o, none⟩)) (hc : w.rangeAt b o cs.toList)
    (hu : P.underlying ty = some d) (hd : d.isRow = true) (hi : (P.info? ty).map (·.size) = some cs.size) : (execOp a.eval op).run P w = .ok (.value (.agg cs)) w := by
  unfold execOp
  simp only [ho, hx, Instr.loadAt, Instr.sureAddr, Sem.run_bind, Sem.run_pure, Result.andThen_ok, run_loadVar_mid w b o ty cs.toList d hc hu hd (by rw [hi, Array.length_toList]), Array.toArray_toList]
end Go

/-
  Walks: Look (made by gen_NN.py).
-/
namespace Go.Proofs.YtdcmdjeooklmjaaDoor
open Go.RowKit Go.PageMap Go.Maps
set_option maxRecDepth 100000
def regsV (r : Nat → Int) : Array Value := #[.int .u32 (r 0), .int .u32 (r 1), .int .u32 (r 2), .int .u32 (r 3), .int .u32 (r 4), .int .u32 (r 5), .int .u32 (r 6), .int .u32 (r 7), .int .u32 (r 8), .int .u32 (r 9), .int .u32 (r 10), .int .u32 (r 11), .int .u32 (r 12), .int .u32 (r 13), .int .u32 (r 14), .int .u32 (r 15), .int .u32 (r 16), .int .u32 (r 17), .int .u32 (r 18), .int .u32 (r 19), .int .u32 (r 20), .int .u32 (r 21), .int .u32 (r 22), .int .u32 (r 23), .int .u32 (r 24), .int .u32 (r 25), .int .u32 (r 26), .int .u32 (r 27), .int .u32 (r 28), .int .u32 (r 29), .int .u32 (r 30), .int .u32 (r 31)]
def lookCells (M : Mc) : Array Value := #[.int .u32 M.pc, .bool (M.cause != 0), .int .i64 M.cause, .int .i64 M.done, .int .i64 M.par.length, .int .u32 (M.regs 0), .int .u32 (M.regs 1), .int .u32 (M.regs 2), .int .u32 (M.regs 3), .int .u32 (M.regs 4), .int .u32 (M.regs 5), .int .u32 (M.regs 6), .int .u32 (M.regs 7), .int .u32 (M.regs 8), .int .u32 (M.regs 9), .int .u32 (M.regs 10), .int .u32 (M.regs 11), .int .u32 (M.regs 12), .int .u32 (M.regs 13), .int .u32 (M.regs 14), .int .u32 (M.regs 15), .int .u32 (M.regs 16), .int .u32 (M.regs 17), .int .u32 (M.regs 18), .int .u32 (M.regs 19), .int .u32 (M.regs 20), .int .u32 (M.regs 21), .int .u32 (M.regs 22), .int .u32 (M.regs 23), .int .u32 (M.regs 24), .int .u32 (M.regs 25), .int .u32 (M.regs 26), .int .u32 (M.regs 27), .int .u32 (M.regs 28), .int .u32 (M.regs 29), .int .u32 (M.regs 30), .int .u32 (M.regs 31)]
/-- The state that Look tells. -/
def lookV (M : Mc) : Value := .agg (lookCells M)
theorem regsV_get (r : Nat → Int) (j : Nat) (v : Value) (h : (regsV r).toList[j]? = some v) : j < 32 ∧ v = .int .u32 (r j) := by
  have e : (regsV r).toList = (List.range 32).map fun j => Value.int .u32 (r j) := rfl
  rw [e, List.getElem?_map] at h
  cases hj : (List.range 32)[j]? with
  | none => rw [hj] at h; cases h
  | some k =>
    rw [hj] at h
    have hlt : j < 32 := by have := (List.getElem?_eq_some_iff.1 hj).1; simpa using this
    rw [List.getElem?_range hlt] at hj
    injection hj with hj
    subst hj
    simp at h
    exact ⟨hlt, h.symm⟩
theorem At.regsRange {W : World} {L : Lay} {M : Mc} (h : At W L M) : W.rangeAt L.b 1 (regsV M.regs).toList := by
  intro j v hv
  obtain ⟨hj, rfl⟩ := regsV_get M.regs j v hv
  exact h.reg hj
structure LookS (w : World) (L : Lay) (M : Mc) (W : World) : Prop where
  at_ : At W L M
  blk : ∃ cs : Array Value, W.heap[w.heap.size]? = some (.cells cs 61 (0, 0)) ∧ cs.size = 37
  below : Below w.heap.size w W
theorem LookS.setRow {w W : World} {L : Lay} {M : Mc} (h : LookS w L M W) (cs : Array Value) (hc : cs.size = 37) : LookS w L M (W.setRow w.heap.size cs) where
  at_ := h.at_.blocks fun k hk => setRow_other _ _ _ _ (fun e => by
    obtain ⟨c0, h1, _⟩ := h.blk
    rcases hk with hk | hk | ⟨q, hk⟩ | hk | hk
    · obtain ⟨c, h2, _⟩ := h.at_.cells
      rw [← hk, e, h1] at h2; injection h2 with e2; injection e2 with _ e2; revert e2; decide
    · obtain ⟨D, ⟨es, cl, h2, _⟩, _⟩ := h.at_.mem.map
      rw [← hk, e, h1] at h2; cases h2
    · obtain ⟨_, c, h2, _⟩ := h.at_.mem.page q k hk
      rw [e, h1] at h2; injection h2 with e2; injection e2 with _ e2; revert e2; decide
    · obtain ⟨c, h2⟩ := ownsRow_blk h.at_.par hk
      rw [e, h1] at h2; injection h2 with e2; injection e2 with _ e2; revert e2; decide
    · obtain ⟨_, _, _, _, hg⟩ := h.at_.grp
      obtain ⟨c, h2⟩ := ownsRow_blk hg hk
      rw [e, h1] at h2; injection h2 with e2; injection e2 with _ e2; revert e2; decide)
  blk := by
    obtain ⟨c0, h1, _⟩ := h.blk
    exact ⟨cs, setRow_heap _ _ _ _ _ _ h1, hc⟩
  below := h.below.trans ⟨rfl, rfl, rfl, by simp, fun k hk => setRow_other _ _ _ _ (by omega)⟩
set_option maxHeartbeats 4000000 in
theorem m_Look_any (w : World) (L : Lay) (M : Mc) (h : At w L M) :
    Calls Tryd.prog 57 #[.pointer (some ⟨L.b, 0, none⟩)] w fun e w' => e = .returned (lookV M) ∧ Below w.heap.size w w' := by
  have HA : Hid (At w L M) := h
  clear h
  go_enter Tryd.func57, Tryd.ntmps57
  go_wp2_with fail
  generalize hW : w.alloc _ = W0
  have HS : Hid (LookS w L M W0.drew) := by
    rw [Hid, ← hW]
    exact ⟨(HA.out.alloc _).drew, ⟨_, heap_alloc_new _ _, by kernel_rfl⟩, ((Below.refl _ _).alloc (Nat.le_refl _) _).drew⟩
  clear hW
  refine wp_region_held_drew (S := LookS w L M) (by kernel_rfl) HS.out (fun hHeld => ?_)
  clear HS
  generalize W0.drew = w2 at *
  refine' takeH_0 _ (by kernel_rfl) (by kernel_rfl) (by kernel_rfl) (fun _ _ _ h => h) (by rfl) ?zy1 hHeld ?zr1
  case zy1 => (intro w' hSw; clear hSw; go_simp; try with_reducible rfl)
  (try simp only [Act.put, List.setIfInBounds_toArray, List.set_cons_zero, List.set_cons_succ])
  refine' takeH_1 _ (by kernel_rfl) (by kernel_rfl) (by kernel_rfl) (fun _ _ _ h => h) (by rfl) ?zy2 hHeld ?zr2
  case zy2 => (intro w' hSw; clear hSw; go_simp; try with_reducible rfl)
  (try simp only [Act.put, List.setIfInBounds_toArray, List.set_cons_zero, List.set_cons_succ])
  refine' takeH_2 _ (by kernel_rfl) (by kernel_rfl) (by kernel_rfl) (fun _ _ _ h => h) (by rfl) ?zy3 hHeld ?zr3
  case zy3 => (intro w' hSw; clear hSw; go_simp; try with_reducible rfl)
  (try simp only [Act.put, List.setIfInBounds_toArray, List.set_cons_zero, List.set_cons_succ])
  refine' takeH_3 _ (by kernel_rfl) (by kernel_rfl) (by kernel_rfl) (fun _ _ _ h => h) (by rfl) ?zy4 hHeld ?zr4
  case zy4 => (intro w' hSw; clear hSw; go_simp; try with_reducible rfl)
  (try simp only [Act.put, List.setIfInBounds_toArray, List.set_cons_zero, List.set_cons_succ])
  refine' takeH_4 _ (by kernel_rfl) (by kernel_rfl) (by kernel_rfl) (fun _ _ _ h => h) (by rfl) ?zy5 hHeld ?zr5
  case zy5 => (intro w' hSw; have c0 := hSw.at_.pc; clear hSw; go_simp; try with_reducible rfl)
  (try simp only [Act.put, List.setIfInBounds_toArray, List.set_cons_zero, List.set_cons_succ])
  refine' takeH_5 _ (by kernel_rfl) (by kernel_rfl) (by kernel_rfl) (fun _ _ _ h => h) (by rfl) ?zy6 hHeld ?zr6
  case zy6 => (intro w' hSw; clear hSw; go_simp; try with_reducible rfl)
  (try simp only [Act.put, List.setIfInBounds_toArray, List.set_cons_zero, List.set_cons_succ])
  refine' takeH_7 _ (by kernel_rfl) (by kernel_rfl) (by kernel_rfl) (fun _ _ _ h => h) (by rfl) ?zy7 hHeld ?zr7
  case zy7 => (intro w' hSw; clear hSw; go_simp; try with_reducible rfl)
  (try simp only [Act.put, List.setIfInBounds_toArray, List.set_cons_zero, List.set_cons_succ])
  refine' takeH_8 _ (by kernel_rfl) (by kernel_rfl) (by kernel_rfl) (fun _ _ _ h => h) (by rfl) ?zy8 hHeld ?zr8
  case zy8 => (intro w' hSw; clear hSw; go_simp; try with_reducible rfl)
  (try simp only [Act.put, List.setIfInBounds_toArray, List.set_cons_zero, List.set_cons_succ])
  refine' takeH_9 _ (by kernel_rfl) (by kernel_rfl) (by kernel_rfl) (fun _ _ _ h => h) (by rfl) ?zy9 hHeld ?zr9
  case zy9 => (intro w' hSw; clear hSw; go_simp; try with_reducible rfl)
  (try simp only [Act.put, List.setIfInBounds_toArray, List.set_cons_zero, List.set_cons_succ])
  refine' takeH_10 _ (by kernel_rfl) (by kernel_rfl) (by kernel_rfl) (fun _ _ _ h => h) (by rfl) ?zy10 hHeld ?zr10
  case zy10 => (intro w' hSw; have c0 := hSw.at_.cause; clear hSw; go_simp; try with_reducible rfl)
  (try simp only [Act.put, List.setIfInBounds_toArray, List.set_cons_zero, List.set_cons_succ])
  refine' takeH_11 _ (by kernel_rfl) (by kernel_rfl) (by kernel_rfl) (fun _ _ _ h => h) (by rfl) ?zy11 hHeld ?zr11
  case zy11 => (intro w' hSw; clear hSw; go_simp; try with_reducible rfl)
  (try simp only [Act.put, List.setIfInBounds_toArray, List.set_cons_zero, List.set_cons_succ])
  refine' takeH_12 _ (by kernel_rfl) (by kernel_rfl) (by kernel_rfl) (fun _ _ _ h => h) (by rfl) ?zy12 hHeld ?zr12
  case zy12 => (intro w' hSw; clear hSw; go_simp; try with_reducible rfl)
  (try simp only [Act.put, List.setIfInBounds_toArray, List.set_cons_zero, List.set_cons_succ])
  refine' takeH_13 _ (by kernel_rfl) (by kernel_rfl) (by kernel_rfl) (fun _ _ _ h => h) (by rfl) ?zy13 hHeld ?zr13
  case zy13 => (intro w' hSw; clear hSw; go_simp; try with_reducible rfl)
  (try simp only [Act.put, List.setIfInBounds_toArray, List.set_cons_zero, List.set_cons_succ])
  refine' takeH_14 _ (by kernel_rfl) (by kernel_rfl) (by kernel_rfl) (fun _ _ _ h => h) (by rfl) ?zy14 hHeld ?zr14
  case zy14 => (intro w' hSw; have c0 := hSw.at_.done; clear hSw; go_simp; try with_reducible rfl)
  (try simp only [Act.put, List.setIfInBounds_toArray, List.set_cons_zero, List.set_cons_succ])
  refine' takeH_15 _ (by kernel_rfl) (by kernel_rfl) (by kernel_rfl) (fun _ _ _ h => h) (by rfl) ?zy15 hHeld ?zr15
  case zy15 => (intro w' hSw; clear hSw; go_simp; try with_reducible rfl)
  (try simp only [Act.put, List.setIfInBounds_toArray, List.set_cons_zero, List.set_cons_succ])
  refine' takeH_16 _ (by kernel_rfl) (by kernel_rfl) (by kernel_rfl) (fun _ _ _ h => h) (by rfl) ?zy16 hHeld ?zr16
  case zy16 => (intro w' hSw; clear hSw; go_simp; try with_reducible rfl)
  (try simp only [Act.put, List.setIfInBounds_toArray, List.set_cons_zero, List.set_cons_succ])
  refine' takeH_17 _ (by kernel_rfl) (by kernel_rfl) (by kernel_rfl) (fun _ _ _ h => h) (by rfl) ?zy17 hHeld ?zr17
  case zy17 => (intro w' hSw; clear hSw; go_simp; try with_reducible rfl)
  (try simp only [Act.put, List.setIfInBounds_toArray, List.set_cons_zero, List.set_cons_succ])
  refine' takeH_19 _ (by kernel_rfl) (by kernel_rfl) (by kernel_rfl) (fun _ _ _ h => h) (by rfl) ?zy18 hHeld ?zr18
  case zy18 => (intro w' hSw; clear hSw; go_simp; try with_reducible rfl)
  (try simp only [Act.put, List.setIfInBounds_toArray, List.set_cons_zero, List.set_cons_succ])
  refine' takeH_20 _ (by kernel_rfl) (by kernel_rfl) (by kernel_rfl) (fun _ _ _ h => h) (by rfl) ?zy19 hHeld ?zr19
  case zy19 => (intro w' hSw; clear hSw; go_simp; try with_reducible rfl)
  (try simp only [Act.put, List.setIfInBounds_toArray, List.set_cons_zero, List.set_cons_succ])
  refine' takeH_21 _ (by kernel_rfl) (by kernel_rfl) (by kernel_rfl) (fun _ _ _ h => h) (by rfl) ?zy20 hHeld ?zr20
  case zy20 => (intro w' hSw; clear hSw; go_simp; try with_reducible rfl)
  (try simp only [Act.put, List.setIfInBounds_toArray, List.set_cons_zero, List.set_cons_succ])
  refine' takeH_22 _ (by kernel_rfl) (by kernel_rfl) (by kernel_rfl) (fun _ _ _ h => h) (by rfl) ?zy21 hHeld ?zr21
  case zy21 => (intro w' hSw; clear hSw; go_simp; try with_reducible rfl)
  (try simp only [Act.put, List.setIfInBounds_toArray, List.set_cons_zero, List.set_cons_succ])
  refine' takeH_23 (.agg (regsV M.regs)) (by kernel_rfl) (by kernel_rfl) (by kernel_rfl) (fun _ _ _ h => h) (by rfl) ?zy22 hHeld ?zr22
  case zy22 => (intro w' hSw; exact exec_load_part rfl rfl (hSw.at_.regsRange) Tryd.underlying59 rfl (by kernel_rfl))
  (try simp only [Act.put, List.setIfInBounds_toArray, List.set_cons_zero, List.set_cons_succ])
  refine runH_6 (by kernel_rfl) (fun K hK => ?_)
  go_simp
  go_at_call 79
  refine (m_halted_any _ L M hHeld.at_).mono ?_
  rintro e w0 ⟨rfl, hw0⟩
  rw [hw0]; clear hw0 w0
  go_wp2_with fail
  refine hK.out _ _ hHeld (fun hHeld2 => ?_)
  clear hK K
  (try simp only [Act.put, List.setIfInBounds_toArray, List.set_cons_zero, List.set_cons_succ])
  refine runH_18 (by kernel_rfl) (fun K hK => ?_)
  go_simp
  go_at_call 83
  refine (m_queued_any _ L M hHeld.at_).mono ?_
  rintro e w0 ⟨rfl, hw0⟩
  rw [hw0]; clear hw0 w0
  go_wp2_with fail
  refine hK.out _ _ hHeld (fun hHeld2 => ?_)
  clear hK K
  (try simp only [Act.put, List.setIfInBounds_toArray, List.set_cons_zero, List.set_cons_succ])
  refine' takeH_24 (lookV M) (by kernel_rfl) (by kernel_rfl) (by kernel_rfl) (fun _ _ _ h => h) (by rfl) ?zyN hHeld ?zrN
  case zyN => (intro w' hSw; clear hSw; kernel_rfl)
  (try simp only [Act.put, List.setIfInBounds_toArray, List.set_cons_zero, List.set_cons_succ])
  refine runH_25 (by kernel_rfl) (fun K hK => ?_)
  rw [if_pos (by kernel_rfl)]
  obtain ⟨cs0, hb1, hb2⟩ := hHeld.blk
  refine wp_store_row _ _ _ rfl w.heap.size (lookCells M) rfl rfl _ _ hb1 (by kernel_rfl) (by rw [hb2]; rfl) (by kernel_rfl) ?_
  refine hK.out _ _ (hHeld.setRow (lookCells M) rfl) (fun hHeld3 => ?_)
  clear hK K
  (try simp only [Act.put, List.setIfInBounds_toArray, List.set_cons_zero, List.set_cons_succ])
  refine wpAnyH_done (by kernel_rfl) ?_ _
  have HFIN : Hid (LookS w L M (w2.setRow w.heap.size (lookCells M)) ∧ (w2.setRow w.heap.size (lookCells M)).heap[w.heap.size]? = some (.cells (lookCells M) 61 (0, 0))) := ⟨hHeld3, setRow_heap _ _ _ _ _ _ hb1⟩
  generalize w2.setRow w.heap.size (lookCells M) = w9 at *
  clear hHeld3 hb1 hb2 hHeld
  go_wp2
  refine bodyPost_ret (v := lookV M) ?_ rfl ⟨rfl, HFIN.out.1.below⟩
  rw [results_cell_one Tryd.results57]
  exact run_loadVar_row _ _ 61 _ _ (0, 0) _ HFIN.out.2 Tryd.underlying61 rfl (by kernel_rfl)
end Go.Proofs.YtdcmdjeooklmjaaDoor

/-
  Walks: newRegisters, newMemory, isLineSize.
-/
namespace Go.Proofs.YtdcmdjeooklmjaaDoor
open Go.RowKit Go.PageMap Go.Maps
set_option maxRecDepth 100000
def zreg (r : Nat → Int) : Nat → Int := fun j => if j = 0 then 0 else r j
def regCells (pc : Int) (r : Nat → Int) : Array Value := #[.int .u32 pc] ++ regsV r
/-- The walk stops at a store of type t. -/
theorem stop_store {P : Program} {ops : Array Oper} {rest : List Oper} {Q : Exit → Act → World → Prop} {a : Act} {w : World} {dst : Option Tmp} {t ty : TypeId} {pos : String} {after : Array Edge} {x y : Operand} {g : Option (Nat × Bool)}
    (h : Hid (wpList P ops Q (⟨dst, .store t x y, ty, pos, after, g⟩ :: rest) a w)) : wpList P ops Q (⟨dst, .store t x y, ty, pos, after, g⟩ :: rest) a w := h
theorem stop_load {P : Program} {ops : Array Oper} {rest : List Oper} {Q : Exit → Act → World → Prop} {a : Act} {w : World} {dst : Option Tmp} {t ty : TypeId} {pos : String} {after : Array Edge} {x : Operand} {g : Option (Nat × Bool)}
    (h : Hid (wpList P ops Q (⟨dst, .load t x, ty, pos, after, g⟩ :: rest) a w)) : wpList P ops Q (⟨dst, .load t x, ty, pos, after, g⟩ :: rest) a w := h
theorem stop_build {P : Program} {ops : Array Oper} {rest : List Oper} {Q : Exit → Act → World → Prop} {a : Act} {w : World} {dst : Option Tmp} {t ty : TypeId} {pos : String} {after : Array Edge} {x : Array (Nat × Operand)} {g : Option (Nat × Bool)}
    (h : Hid (wpList P ops Q (⟨dst, .build t x, ty, pos, after, g⟩ :: rest) a w)) : wpList P ops Q (⟨dst, .build t x, ty, pos, after, g⟩ :: rest) a w := h
theorem go_on {p : Prop} (h : p) : Hid p := h
theorem wl_build {P : Program} {ops : Array Oper} {rest : List Oper} {Q : Exit → Act → World → Prop} {a : Act} {w : World} {dst : Option Tmp} {t ty : TypeId} {pos : String} {after : Array Edge} {parts : Array (Nat × Operand)} {cells : Array Value}
    (hf : P.built t (parts.map fun (i, x) => (i, a.eval x)).toList = some cells) (h : wpList P ops Q rest (a.put dst (.agg cells)) w) : wpList P ops Q (⟨dst, .build t parts, ty, pos, after, none⟩ :: rest) a w :=
  wpList_build rfl t parts rfl (by rw [hf]; rfl) (by rw [hf]; exact h)
theorem wl_store_row {P : Program} {ops : Array Oper} {rest : List Oper} {Q : Exit → Act → World → Prop} {a : Act} {w : World} {dst : Option Tmp} {ty : TypeId} {pos : String} {after : Array Edge} {x y : Operand} {t t' : TypeId} {old cells : Array Value} {g : Nat}
    (hx : a.eval x = .pointer (some ⟨g, 0, none⟩)) (hy : a.eval y = .agg cells) (hg : w.heap[g]? = some (.cells old t' (0, 0))) (hi : (P.info? t).map (·.size) = some cells.size) (ho : old.size = cells.size) (h1 : cells.all (·.oneCell') = true)
    (h : ∀ W1, Hid (W1 = w.setRow g cells) → wpList P ops Q rest (a.put dst undef) W1) : wpList P ops Q (⟨dst, .store t x y, ty, pos, after, none⟩ :: rest) a w :=
  wpList_store_row rfl t x y rfl g cells hx hy t' old hg hi ho h1 (h _ rfl)
theorem regsV_all (r : Nat → Int) : ∀ j, j < 32 → (regsV r)[j]? = some (.int .u32 (r j)) := by
  intro j hj
  have e : (regsV r).toList = (List.range 32).map fun j => Value.int .u32 (r j) := rfl
  have h2 : (regsV r).toList[j]? = some (.int .u32 (r j)) := by rw [e, List.getElem?_map, List.getElem?_range hj]; rfl
  rw [Array.getElem?_toList] at h2; exact h2
theorem mk_map (W : World) : (Instr.makeMap 142 none).run Tryd.prog W = .ok (.map (some W.heap.size)) (W.alloc (.map #[] 0)) := by rfl
theorem m_newMemory_any (w : World) : Calls Tryd.prog 104 #[] w fun e w' => ∃ bm, e = .returned (.agg #[.map (some bm)]) ∧ w'.heap[bm]? = some (.map #[] 0) ∧ Below w.heap.size w w' ∧ w.heap.size ≤ bm := by
  have hmk := mk_map
  go_enter Tryd.func104, Tryd.ntmps104
  go_wp2
  refine bodyPost_ret (v := .agg #[.map (some (w.heap.size + 1))]) ?_ rfl ⟨w.heap.size + 1, rfl, ?_, ((Below.refl _ _).alloc (Nat.le_refl _) _).alloc (by simp) _, by omega⟩
  · rw [results_cell_one Tryd.results104]
    go_simp
  · have := heap_alloc_new (w.alloc (.cells #[.map (some (w.heap.size + 1))] 144)) (.map #[] 0)
    simpa using this
theorem m_isLine_any (n : Int) (w : World) (h : LineOk n) : Calls Tryd.prog 102 #[.int .i64 n] w fun e w' => e = .returned (.bool true) ∧ w' = w := by
  rcases h with rfl | rfl | rfl | rfl | rfl
  all_goals (
    go_enter Tryd.func102, Tryd.ntmps102
    go_wp2
    go_ret
    exact ⟨rfl, rfl⟩)
set_option maxHeartbeats 1000000 in
theorem m_newRegisters_any (w : World) (pc : Int) (r : Nat → Int) : Calls Tryd.prog 103 #[.int .u32 pc, .agg (regsV r)] w fun e w' => e = .returned (.agg (regCells pc (zreg r))) ∧ Below w.heap.size w w' := by
  generalize hR : regsV r = R
  have hsz : R.size = 32 := by rw [← hR]; rfl
  have HR : Hid (regsV r = R) := hR
  clear hR
  go_enter Tryd.func103, Tryd.ntmps103
  go_wp2_with (with_reducible refine' stop_store (t := 24) ?_)
  generalize hW : (w.alloc (.cells R 59)).alloc _ = W1
  have hF : W1.heap[w.heap.size]? = some (.cells R 59 (0, 0)) ∧ (∃ Z : Array Value, W1.heap[w.heap.size + 1]? = some (.cells Z 141 (0, 0)) ∧ Z.size = 33) ∧ Below w.heap.size w W1 := by
    rw [← hW]
    refine ⟨?_, ⟨_, by simpa using heap_alloc_new (w.alloc (.cells R 59)) _, by kernel_rfl⟩, ((Below.refl _ _).alloc (Nat.le_refl _) _).alloc (by simp) _⟩
    rw [Below.heap_alloc _ _ _ (by simp)]; exact heap_alloc_new _ _
  clear hW
  obtain ⟨f1, ⟨Z, f2, f3⟩, f4⟩ := hF
  have hc0 : W1.cell? ⟨w.heap.size, 0, none⟩ = some (.int .u32 (r 0)) := by simp [World.cell?, f1, ← HR.out, regsV_all r 0 (by decide)]
  have hf0 : W1.frozen? ⟨w.heap.size, 0, none⟩ = false := by simp [World.frozen?, f1]
  obtain ⟨W2, hW2⟩ : ∃ W2, W2 = W1.setCell ⟨w.heap.size, 0, none⟩ (.int .u32 0) := ⟨_, rfl⟩
  have HRng : Hid ((W1.setCell ⟨w.heap.size, 0, none⟩ (.int .u32 0)).rangeAt w.heap.size 0 (regsV (zreg r)).toList) := by
    intro j v hv
    obtain ⟨hj, rfl⟩ := regsV_get _ j v hv
    have h1 := heap_setCell_same W1 w.heap.size 0 R 59 (.int .u32 0) f1
    rw [Nat.zero_add]
    simp only [World.cell?, h1]
    by_cases e : j = 0
    · subst e; simp [hsz, zreg]
    · simp only [zreg, if_neg e]
      have h2 := regsV_all r j hj
      rw [HR.out] at h2
      simp [Array.getElem?_setIfInBounds_ne (fun h : 0 = j => e h.symm), h2]
  have HZ : Hid ((W1.setCell ⟨w.heap.size, 0, none⟩ (.int .u32 0)).heap[w.heap.size + 1]? = some (.cells Z 141 (0, 0)) ∧ Z.size = 33) := ⟨by rw [heap_setCell_other _ _ _ _ (by simp)]; exact f2, f3⟩
  have HBB : Hid (Below w.heap.size w (W1.setCell ⟨w.heap.size, 0, none⟩ (.int .u32 0))) := f4.setCell (Nat.le_refl _) _
  clear f1 f2 f3 f4 hW2
  refine go_on ?_
  go_wp2_with (with_reducible refine' stop_load (t := 59) ?_)
  refine go_on ?_
  refine wl_load_at (cs := regsV (zreg r)) (b := w.heap.size) (o := 0) HRng.out rfl Tryd.underlying59 rfl (by kernel_rfl) ?_
  generalize hR2 : regsV (zreg r) = R2
  have HBU : Hid (Tryd.prog.built 141 [(0, .int .u32 pc), (1, .agg R2)] = some (regCells pc (zreg r))) := by rw [Hid, ← hR2]; kernel_rfl
  have hcs : (regCells pc (zreg r)).size = 33 := by kernel_rfl
  have hca : (regCells pc (zreg r)).all (·.oneCell') = true := by kernel_rfl
  generalize hC : regCells pc (zreg r) = C at *
  have HCe : Hid (C = regCells pc (zreg r)) := hC.symm
  clear hC hR2 HRng hsz HR
  go_wp2_with (with_reducible refine' stop_build (t := 141) ?_)
  refine go_on ?_
  refine wl_build (cells := C) ((congrArg (Tryd.prog.built 141) (by simp [Act.eval, Act.put])).trans HBU.out) ?_
  go_wp2_with (with_reducible refine' stop_store (t := 141) ?_)
  refine go_on ?_
  refine wl_store_row (cells := C) (g := w.heap.size + 1) (old := Z) (t' := 141) rfl rfl HZ.out.1 (by rw [hcs]; kernel_rfl) (by rw [hcs]; exact HZ.out.2) hca (fun W3 hW3 => ?_)
  have H3 : Hid (Below w.heap.size w W3 ∧ W3.heap[w.heap.size + 1]? = some (.cells C 141 (0, 0))) := by
    rw [Hid, hW3.out]
    exact ⟨HBB.out.trans ⟨rfl, rfl, rfl, by simp, fun k hk => setRow_other _ _ _ _ (by omega)⟩, setRow_heap _ _ _ _ _ _ HZ.out.1⟩
  clear hW3 HBB HZ hc0 hf0
  go_wp2
  refine bodyPost_ret (v := .agg C) ?_ rfl ⟨congrArg (fun x => Ending.returned (.agg x)) HCe.out, H3.out.1⟩
  rw [results_cell_one Tryd.results103]
  exact run_loadVar_row _ _ 141 _ _ (0, 0) _ H3.out.2 Tryd.underlying141 rfl (by rw [hcs]; kernel_rfl)
end Go.Proofs.YtdcmdjeooklmjaaDoor
