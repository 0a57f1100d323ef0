/-
  BD BE in one text.
-/
import Derived.Test.YtdcmdjeooklmjaaDoorJX
import Derived.Test.YtdcmdjeooklmjaaDoorGO
import Derived.Test.YtdcmdjeooklmjaaDoorGS
set_option linter.unusedVariables false
set_option linter.unusedSimpArgs false
/-
  Walks: package code's Compress (made by gen_BD.py).
-/
namespace Go.Proofs.YtdcmdjeooklmjaaDoor
open Go.RowKit

theorem exec_load_mid {P : Program} {op : Oper} {a : Act} {w : World} {ty : TypeId} {x : Operand} {b o : Nat} {cs : Array Value} {d : TypeDesc} (ho : op.op = .load ty x) (hx : a.eval x = .pointer (some ⟨b, o, none⟩)) (hc : w.rangeAt b o cs.toList)
    (hu : P.underlying ty = some d) (hd : d.isRow = true) (hi : (P.info? ty).map (·.size) = some cs.size) : (execOp a.eval op).run P w = .ok (.value (.agg cs)) w := by
  unfold execOp
  simp only [ho, hx, Instr.loadAt, Instr.sureAddr, Sem.run_bind, Sem.run_pure, Result.andThen_ok, run_loadVar_mid w b o ty cs.toList d hc hu hd (by rw [hi, Array.length_toList]), Array.toArray_toList]
theorem swrite_any (r : Hm.RowC) (o d s t i : Int) (w : World) (ht : Tab w) (hr : Hm.RowOk r) (hnt : r.not' = 0 ∨ r.not' = 1 ∨ r.not' = 2 ∨ r.not' = 5 ∨ r.not' = 8 ∨ r.not' = 16) :
    Calls Tryd.prog 72 #[rowRV r, .agg #[.int .i64 o, .int .i64 d, .int .i64 s, .int .i64 t, .int .i64 i]] w fun e w' => e = .returned (wrV (Hm.wrP r o d s t i) (Hm.okC r o d s t i)) ∧ Below w.heap.size w w' := by
  by_cases h : o = r.op
  · exact swrite_yes r o d s t i w h ht hr hnt
  · exact swrite_no r o d s t i w h hr
/-- What stands at each round's head. -/
structure CpAt (op d s t i : Int) (w wr : World) : Prop where
  below : Below w.heap.size w wr
  size : w.heap.size < wr.heap.size
  c0 : wr.cell? ⟨w.heap.size, 0, none⟩ = some (.int .i64 op)
  c1 : wr.cell? ⟨w.heap.size, 1, none⟩ = some (.int .i64 d)
  c2 : wr.cell? ⟨w.heap.size, 2, none⟩ = some (.int .i64 s)
  c3 : wr.cell? ⟨w.heap.size, 3, none⟩ = some (.int .i64 t)
  c4 : wr.cell? ⟨w.heap.size, 4, none⟩ = some (.int .i64 i)
  tabs : Tabs wr
theorem CpAt.step {op d s t i : Int} {w wr w' : World} {B : Nat} (h : CpAt op d s t i w wr) (hb : Below B wr w') (hB : wr.heap.size ≤ B) : CpAt op d s t i w w' where
  below := h.below.trans (hb.mono (by have := h.size; omega))
  size := by have := hb.size; have := h.size; omega
  c0 := by rw [bcell hb _ _ (by have := h.size; omega)]; exact h.c0
  c1 := by rw [bcell hb _ _ (by have := h.size; omega)]; exact h.c1
  c2 := by rw [bcell hb _ _ (by have := h.size; omega)]; exact h.c2
  c3 := by rw [bcell hb _ _ (by have := h.size; omega)]; exact h.c3
  c4 := by rw [bcell hb _ _ (by have := h.size; omega)]; exact h.c4
  tabs := h.tabs.below hb hB
theorem CpAt.start (op d s t i : Int) (w : World) (ht : Tabs w) : CpAt op d s t i w (w.alloc (.cells #[.int .i64 op, .int .i64 d, .int .i64 s, .int .i64 t, .int .i64 i] 23)) where
  below := (Below.refl _ _).alloc (Nat.le_refl _) _
  size := by simp
  c0 := by simp
  c1 := by simp
  c2 := by simp
  c3 := by simp
  c4 := by simp
  tabs := ht.alloc _

set_option maxRecDepth 100000 in
set_option maxHeartbeats 4000000 in
theorem ccompress_no (op d s t i : Int) (w : World) (ht : Tabs w) (hl : Hm.legalC op d s t i = false) :
    Calls Tryd.prog 48 #[.agg #[.int .i64 op, .int .i64 d, .int .i64 s, .int .i64 t, .int .i64 i]] w fun e w' => e = .returned (.tuple #[.int .u16 (Hm.compC op d s t i), .int .i64 (Hm.compCE op d s t i)]) ∧ Below w.heap.size w w' := by
  have HE : Hid (Hm.compC op d s t i = 0) := by simp [Hid, Hm.compC, hl]
  have HR : Hid (Hm.compCE op d s t i = 1) := by simp [Hid, Hm.compCE, hl]
  have HT : Hid (Tabs w) := ht
  clear ht
  go_enter Tryd.func48, Tryd.ntmps48
  go_wp2_with fail
  refine (legal_any hlay _ _ _ _ _ _ (HT.out.tab.alloc _)).mono ?_
  rintro e w1 ⟨rfl, hb⟩
  have HB : Hid (Below w.heap.size w w1) := ((Below.refl _ _).alloc (Nat.le_refl _) _).trans (hb.mono (by simp))
  clear hb
  go_wp2
  go_ret2
  exact ⟨ret_ints2 HE.out.symm HR.out.symm, HB.out⟩

set_option maxRecDepth 100000 in
set_option maxHeartbeats 8000000 in
theorem ccompress_yes (op d s t i : Int) (w : World) (ht : Tabs w) (hl : Hm.legalC op d s t i = true) :
    Calls Tryd.prog 48 #[.agg #[.int .i64 op, .int .i64 d, .int .i64 s, .int .i64 t, .int .i64 i]] w fun e w' => e = .returned (.tuple #[.int .u16 (Hm.compC op d s t i), .int .i64 (Hm.compCE op d s t i)]) ∧ Below w.heap.size w w' := by
  have HE : Hid (Hm.compC op d s t i = (Hm.lstC op d s t i 26).1) := by simp [Hid, Hm.compC, hl]
  have HR : Hid (Hm.compCE op d s t i = (Hm.lstC op d s t i 26).2) := by simp [Hid, Hm.compCE, hl]
  have hst := CpAt.start op d s t i w ht
  have HT : Hid (Tabs w) := ht
  clear ht
  go_enter Tryd.func48, Tryd.ntmps48
  go_wp2_with fail
  refine (legal_any hlay _ _ _ _ _ _ (HT.out.tab.alloc _)).mono ?_
  rintro e w1 ⟨rfl, hb⟩
  have hat0 := hst.step hb (Nat.le_refl _)
  clear hb hst
  go_wp2
  go_loopw [4, 5, 12] (fun a b c wr => ∃ k : Nat, k ≤ 26 ∧ c = .int .i64 k ∧ a = .int .u16 (Hm.lstC op d s t i k).1 ∧ b = .int .i64 (Hm.lstC op d s t i k).2 ∧ CpAt op d s t i w wr) (fun _ _ c _ => 26 - (intOf c).toNat)
  case atStart => exact ⟨0, by omega, rfl, rfl, rfl, hat0⟩
  case round =>
    clear hat0
    obtain ⟨k, hk, rfl, rfl, rfl, hat⟩ := hrel
    by_cases hlt : k < 26
    · have hN : Hm.lstC op d s t i (k + 1) = if Hm.okC (Hm.rowC k) op d s t i = true ∧ ((Hm.lstC op d s t i k).2 ≠ 0 ∨ Hm.parC (Hm.rowC k) d s t i < (Hm.lstC op d s t i k).1) then (Hm.parC (Hm.rowC k) d s t i, 0) else Hm.lstC op d s t i k := rfl
      have hP : Hm.okC (Hm.rowC k) op d s t i = true → Hm.wrP (Hm.rowC k) op d s t i = Hm.parC (Hm.rowC k) d s t i := by
        intro h
        have : op = (Hm.rowC k).op := by simp only [Hm.okC, Bool.and_eq_true, beq_iff_eq] at h; exact h.1
        simp [Hm.wrP, ← this]
      have HN : Hid _ := hN
      have HP : Hid _ := hP
      clear hN hP
      go_wp2
      refine wp_region_held_drew (S := CpAt op d s t i w) (by kernel_rfl) (hat.step (Below.refl _ _).drew (Nat.le_refl _)) (fun hHeld => ?_)
      generalize wr.drew = w2 at *
      clear hat
      refine' takeH_0 _ (by kernel_rfl) (by kernel_rfl) (by kernel_rfl) (fun _ _ _ h => h) (by rfl) ?zy1 hHeld ?zr1
      case zy1 => (intro w hSw; have c0 := hSw.c0; have c1 := hSw.c1; have c2 := hSw.c2; have c3 := hSw.c3; have c4 := hSw.c4; clear hSw; go_simp; try with_reducible rfl)
      (try simp only [Act.put, List.setIfInBounds_toArray, List.set_cons_zero, List.set_cons_succ])
      refine' takeH_1 _ (by kernel_rfl) (by kernel_rfl) (by kernel_rfl) (fun _ _ _ h => h) (by rfl) ?zy2 hHeld ?zr2
      case zy2 => (intro w hSw; have c0 := hSw.c0; have c1 := hSw.c1; have c2 := hSw.c2; have c3 := hSw.c3; have c4 := hSw.c4; clear hSw; go_simp; try with_reducible rfl)
      (try simp only [Act.put, List.setIfInBounds_toArray, List.set_cons_zero, List.set_cons_succ])
      refine' takeH_2 (.agg (rowRL (Hm.rowC k))) (by kernel_rfl) (by kernel_rfl) (by kernel_rfl) (fun _ _ _ h => h) (by rfl) ?zy3 hHeld ?zr3
      case zy3 => (intro w hSw; exact exec_load_mid rfl rfl (hSw.tabs.row k hlt) Tryd.underlying121 rfl (by kernel_rfl))
      (try simp only [Act.put, List.setIfInBounds_toArray, List.set_cons_zero, List.set_cons_succ])
      refine' takeH_3 _ (by kernel_rfl) (by kernel_rfl) (by kernel_rfl) (fun _ _ _ h => h) (by rfl) ?zy4 hHeld ?zr4
      case zy4 => (intro w hSw; have c0 := hSw.c0; have c1 := hSw.c1; have c2 := hSw.c2; have c3 := hSw.c3; have c4 := hSw.c4; clear hSw; go_simp; try with_reducible rfl)
      (try simp only [Act.put, List.setIfInBounds_toArray, List.set_cons_zero, List.set_cons_succ])
      refine runH_4 (by kernel_rfl) (fun K hK => ?_)
      go_simp
      go_at_call 72
      refine (swrite_any (Hm.rowC k) _ _ _ _ _ _ hHeld.tabs.tab (Hm.row_ok hlt) (Hm.not_all hlt)).mono ?_
      rintro e w3 ⟨rfl, hb⟩
      unfold wrV
      go_wp2_with fail
      refine hK.out _ _ ?zs1 (fun hHeld => ?zs2)
      case zs1 => exact hHeld.step hb (Nat.le_refl _)
      clear hb hK K
      (try simp only [Act.put, List.setIfInBounds_toArray, List.set_cons_zero, List.set_cons_succ])
      refine' takeH_5 _ (by kernel_rfl) (by kernel_rfl) (by kernel_rfl) (fun _ _ _ h => h) (by rfl) ?zy5 hHeld ?zr5
      case zy5 => (intro w hSw; have c0 := hSw.c0; have c1 := hSw.c1; have c2 := hSw.c2; have c3 := hSw.c3; have c4 := hSw.c4; clear hSw; go_simp; try with_reducible rfl)
      (try simp only [Act.put, List.setIfInBounds_toArray, List.set_cons_zero, List.set_cons_succ])
      refine' takeH_6 _ (by kernel_rfl) (by kernel_rfl) (by kernel_rfl) (fun _ _ _ h => h) (by rfl) ?zy6 hHeld ?zr6
      case zy6 => (intro w hSw; have c0 := hSw.c0; have c1 := hSw.c1; have c2 := hSw.c2; have c3 := hSw.c3; have c4 := hSw.c4; clear hSw; go_simp; try with_reducible rfl)
      (try simp only [Act.put, List.setIfInBounds_toArray, List.set_cons_zero, List.set_cons_succ])
      refine' takeH_7 _ (by kernel_rfl) (by kernel_rfl) (by kernel_rfl) (fun _ _ _ h => h) (by rfl) ?zy7 hHeld ?zr7
      case zy7 => (intro w hSw; have c0 := hSw.c0; have c1 := hSw.c1; have c2 := hSw.c2; have c3 := hSw.c3; have c4 := hSw.c4; clear hSw; go_simp; try with_reducible rfl)
      (try simp only [Act.put, List.setIfInBounds_toArray, List.set_cons_zero, List.set_cons_succ])
      refine' takeH_8 _ (by kernel_rfl) (by kernel_rfl) (by kernel_rfl) (fun _ _ _ h => h) (by rfl) ?zy8 hHeld ?zr8
      case zy8 => (intro w hSw; have c0 := hSw.c0; have c1 := hSw.c1; have c2 := hSw.c2; have c3 := hSw.c3; have c4 := hSw.c4; clear hSw; go_simp; try with_reducible rfl)
      (try simp only [Act.put, List.setIfInBounds_toArray, List.set_cons_zero, List.set_cons_succ])
      refine' takeH_9 _ (by kernel_rfl) (by kernel_rfl) (by kernel_rfl) (fun _ _ _ h => h) (by rfl) ?zy9 hHeld ?zr9
      case zy9 => (intro w hSw; have c0 := hSw.c0; have c1 := hSw.c1; have c2 := hSw.c2; have c3 := hSw.c3; have c4 := hSw.c4; clear hSw; go_simp; try with_reducible rfl)
      (try simp only [Act.put, List.setIfInBounds_toArray, List.set_cons_zero, List.set_cons_succ])
      refine wpAnyH_done (by kernel_rfl) ?_ _
      have HH : Hid _ := hHeld
      clear hHeld
      cases hok : Hm.okC (Hm.rowC k) op d s t i with
      | false =>
        have HN2 : Hid (Hm.lstC op d s t i (k + 1) = Hm.lstC op d s t i k) := by show _ = _; rw [HN.out, if_neg (by rw [hok]; simp)]
        clear hok HN HP
        go_wp2
        go_roundw
        case rel => exact ⟨k + 1, by omega, by go_num, by rw [HN2.out], by rw [HN2.out], HH.out⟩
        case measure => simp [intOf]; omega
      | true =>
        rw [HP.out hok]
        by_cases he : (Hm.lstC op d s t i k).2 = 0
        · by_cases hq : Hm.parC (Hm.rowC k) d s t i < (Hm.lstC op d s t i k).1
          · have HN2 : Hid (Hm.lstC op d s t i (k + 1) = (Hm.parC (Hm.rowC k) d s t i, 0)) := by show _ = _; rw [HN.out, if_pos ⟨hok, Or.inr hq⟩]
            clear hok HN HP
            go_wp2
            go_roundw
            case rel => exact ⟨k + 1, by omega, by go_num, by rw [HN2.out], by rw [HN2.out], HH.out⟩
            case measure => simp [intOf]; omega
          · have HN2 : Hid (Hm.lstC op d s t i (k + 1) = Hm.lstC op d s t i k) := by show _ = _; rw [HN.out, if_neg (fun h => h.2.elim (fun h => h he) hq)]
            clear hok HN HP
            go_wp2
            go_roundw
            case rel => exact ⟨k + 1, by omega, by go_num, by rw [HN2.out], by rw [HN2.out], HH.out⟩
            case measure => simp [intOf]; omega
        · have HN2 : Hid (Hm.lstC op d s t i (k + 1) = (Hm.parC (Hm.rowC k) d s t i, 0)) := by show _ = _; rw [HN.out, if_pos ⟨hok, Or.inl he⟩]
          clear hok HN HP
          go_wp2
          go_roundw
          case rel => exact ⟨k + 1, by omega, by go_num, by rw [HN2.out], by rw [HN2.out], HH.out⟩
          case measure => simp [intOf]; omega
    · have HB : Hid (Below w.heap.size w wr) := hat.below
      have hk26 : k = 26 := by omega
      subst hk26
      clear hat
      go_wp2
      go_ret2
      exact ⟨ret_ints2 HE.out.symm HR.out.symm, HB.out⟩

theorem ccompress_any (op d s t i : Int) (w : World) (ht : Tabs w) :
    Calls Tryd.prog 48 #[.agg #[.int .i64 op, .int .i64 d, .int .i64 s, .int .i64 t, .int .i64 i]] w fun e w' => e = .returned (.tuple #[.int .u16 (Hm.compC op d s t i), .int .i64 (Hm.compCE op d s t i)]) ∧ Below w.heap.size w w' := by
  cases hl : Hm.legalC op d s t i with
  | false => exact ccompress_no op d s t i w ht hl
  | true => exact ccompress_yes op d s t i w ht hl
end Go.Proofs.YtdcmdjeooklmjaaDoor

/-
  Walks: package hart's Expand, Compress; the law Shorts.
-/
namespace Go.Proofs.YtdcmdjeooklmjaaDoor
open Go.RowKit

set_option maxRecDepth 100000 in
set_option maxHeartbeats 1000000 in
theorem hExpand (x : Int) (w : World) (ht : Tabs w) (x0 : 0 ≤ x) (x1 : x < 65536) :
    Calls Tryd.prog 19 #[.int .u16 x] w fun e w' => e = .returned (decVal (Hm.expC x)) ∧ Below w.heap.size w w' := by
  have HT : Hid (Tabs w) := ht
  clear ht
  go_enter Tryd.func19, Tryd.ntmps19
  go_wp2_with fail
  refine (cexpand_any _ _ (HT.out.alloc _) x0 x1).mono ?_
  rintro e w1 ⟨rfl, hb⟩
  have hat := (DecAt.start w).step hb (by simp)
  have r0 := hat.out 0 (by omega)
  have r1 := hat.out 1 (by omega)
  have r2 := hat.out 2 (by omega)
  have r3 := hat.out 3 (by omega)
  have r4 := hat.out 4 (by omega)
  have hfr := hat.free
  have HB : Hid (Below w.heap.size w w1) := hat.below
  clear hb hat
  unfold decVal
  go_wp2
  exact bodyPost_ret (v := decVal (Hm.expC x)) (by simp [results, Tryd.results19, go_sem, decVal, r0, r1, r2, r3, r4]) rfl ⟨rfl, below_five HB.out _ _ _ _ _⟩

set_option maxRecDepth 100000 in
set_option maxHeartbeats 1000000 in
theorem hCompress (op d s t i : Int) (w : World) (ht : Tabs w) :
    Calls Tryd.prog 21 #[.agg #[.int .i64 op, .int .i64 d, .int .i64 s, .int .i64 t, .int .i64 i]] w fun e w' => e = .returned (.tuple #[.int .u16 (Hm.compC op d s t i), .int .i64 (Hm.compCE op d s t i)]) ∧ Below w.heap.size w w' := by
  have HT : Hid (Tabs w) := ht
  clear ht
  go_enter Tryd.func21, Tryd.ntmps21
  go_wp2_with fail
  refine (ccompress_any _ _ _ _ _ _ (HT.out.alloc _)).mono ?_
  rintro e w1 ⟨rfl, hb⟩
  have HB : Hid (Below w.heap.size w w1) := ((Below.refl _ _).alloc (Nat.le_refl _) _).trans (hb.mono (by simp))
  clear hb
  go_wp2
  go_ret2
  exact ⟨rfl, HB.out⟩

/-- Five ints in a block. -/
structure At5 (b : Nat) (v0 v1 v2 v3 v4 : Int) (W : World) : Prop where
  lt : b < W.heap.size
  c0 : W.cell? ⟨b, 0, none⟩ = some (.int .i64 v0)
  c1 : W.cell? ⟨b, 1, none⟩ = some (.int .i64 v1)
  c2 : W.cell? ⟨b, 2, none⟩ = some (.int .i64 v2)
  c3 : W.cell? ⟨b, 3, none⟩ = some (.int .i64 v3)
  c4 : W.cell? ⟨b, 4, none⟩ = some (.int .i64 v4)
theorem At5.step {b B : Nat} {v0 v1 v2 v3 v4 : Int} {W W' : World} (h : At5 b v0 v1 v2 v3 v4 W) (hb : Below B W W') (hB : W.heap.size ≤ B) : At5 b v0 v1 v2 v3 v4 W' where
  lt := Nat.lt_of_lt_of_le h.lt hb.size
  c0 := by rw [bcell hb _ _ (Nat.lt_of_lt_of_le h.lt hB)]; exact h.c0
  c1 := by rw [bcell hb _ _ (Nat.lt_of_lt_of_le h.lt hB)]; exact h.c1
  c2 := by rw [bcell hb _ _ (Nat.lt_of_lt_of_le h.lt hB)]; exact h.c2
  c3 := by rw [bcell hb _ _ (Nat.lt_of_lt_of_le h.lt hB)]; exact h.c3
  c4 := by rw [bcell hb _ _ (Nat.lt_of_lt_of_le h.lt hB)]; exact h.c4
theorem At5.start (v0 v1 v2 v3 v4 : Int) (W : World) : At5 W.heap.size v0 v1 v2 v3 v4 (W.alloc (.cells #[.int .i64 v0, .int .i64 v1, .int .i64 v2, .int .i64 v3, .int .i64 v4] 23)) where
  lt := by simp
  c0 := by simp
  c1 := by simp
  c2 := by simp
  c3 := by simp
  c4 := by simp
theorem al5 (v0 v1 v2 v3 v4 : Int) (W : World) : Below W.heap.size W (W.alloc (.cells #[.int .i64 v0, .int .i64 v1, .int .i64 v2, .int .i64 v3, .int .i64 v4] 23)) := (Below.refl _ _).alloc (Nat.le_refl _) _

set_option maxRecDepth 100000 in
set_option maxHeartbeats 4000000 in
theorem shorts_walk (x op d s t i : Int) (w : World) (ht : Tabs w) (x0 : 0 ≤ x) (x1 : x < 65536)
    (hd : I64 d) (hs : I64 s) (hi : I64 t) (hi2 : I64 i)
    (g1 : Hm.expR x = Hm.expC x) (g2 : Hm.compR op d s t i = Hm.compC op d s t i) (g3 : Hm.compE op d s t i = Hm.compCE op d s t i) (g4 : 0 ≤ Hm.compC op d s t i) (g5 : Hm.compC op d s t i < 65536) :
    Calls Tryd.prog 5 #[.int .u16 x, .agg #[.int .i64 op, .int .i64 d, .int .i64 s, .int .i64 t, .int .i64 i]] w fun e w' => e = .returned (.bool true) ∧ Below w.heap.size w w' := by
  have G1 : Hid (Hm.expR x = Hm.expC x) := g1
  have G2 : Hid (Hm.compR op d s t i = Hm.compC op d s t i) := g2
  have G3 : Hid (Hm.compE op d s t i = Hm.compCE op d s t i) := g3
  have HT : Hid (Tabs w) := ht
  have HI : Hid (I64 d ∧ I64 s ∧ I64 t ∧ I64 i) := ⟨hd, hs, hi, hi2⟩
  have ha := At5.start op d s t i w
  have hb0 := al5 op d s t i w
  clear ht g1 g2 g3 hd hs hi hi2
  go_enter Tryd.func5, Tryd.ntmps5
  go_wp2_with fail
  refine (hExpand _ _ (HT.out.alloc _) x0 x1).mono ?_
  rintro e w1 ⟨rfl, hb⟩
  have ha1 := ha.step hb (Nat.le_refl _)
  have HB1 : Hid (Below w.heap.size w w1) := hb0.trans (hb.mono hb0.size)
  clear hb hb0 ha
  unfold decVal
  generalize Hm.expC x = D at *
  have he := At5.start D.op D.f.d D.f.r D.f.t D.f.imm w1
  have ha2 := ha1.step (al5 D.op D.f.d D.f.r D.f.t D.f.imm w1) (Nat.le_refl _)
  have HB2 : Hid (Below w.heap.size w _) := HB1.out.trans ((al5 D.op D.f.d D.f.r D.f.t D.f.imm w1).mono HB1.out.size)
  have HE : Hid _ := he
  have HA : Hid _ := ha2
  have hz1 := ha1.lt
  clear he ha2 ha1
  go_wp2_with fail
  refine (refExpand_any _ _ x0 x1).mono ?_
  rintro e w3 ⟨rfl, hb⟩
  rw [G1.out]
  have he3 := HE.out.step hb (Nat.le_refl _)
  have ha3 := HA.out.step hb (Nat.le_refl _)
  have HB3 : Hid (Below w.heap.size w w3) := HB2.out.trans (hb.mono HB2.out.size)
  clear hb HE HA HB2
  have hk := At5.start D.op D.f.d D.f.r D.f.t D.f.imm w3
  have he4 := he3.step (al5 D.op D.f.d D.f.r D.f.t D.f.imm w3) (Nat.le_refl _)
  have ha4 := ha3.step (al5 D.op D.f.d D.f.r D.f.t D.f.imm w3) (Nat.le_refl _)
  have HB4 : Hid (Below w.heap.size w _) := HB3.out.trans ((al5 D.op D.f.d D.f.r D.f.t D.f.imm w3).mono HB3.out.size)
  have HK : Hid _ := hk
  have HE : Hid _ := he4
  have HA : Hid _ := ha4
  clear hk he4 ha4 he3
  have a0 := ha3.c0
  have a1 := ha3.c1
  have a2 := ha3.c2
  have a3 := ha3.c3
  have a4 := ha3.c4
  have hz3 := ha3.lt
  clear ha3
  unfold expVal
  go_wp2_with fail
  refine (hCompress _ _ _ _ _ _ (HT.out.below HB4.out (Nat.le_refl _))).mono ?_
  rintro e w5 ⟨rfl, hb⟩
  have hk5 := HK.out.step hb (Nat.le_refl _)
  have he5 := HE.out.step hb (Nat.le_refl _)
  have ha5 := HA.out.step hb (Nat.le_refl _)
  have HB5 : Hid (Below w.heap.size w w5) := HB4.out.trans (hb.mono HB4.out.size)
  clear hb HK HE HA HB4 a0 a1 a2 a3 a4
  have a0 := ha5.c0
  have a1 := ha5.c1
  have a2 := ha5.c2
  have a3 := ha5.c3
  have a4 := ha5.c4
  have HK : Hid _ := hk5
  have HE : Hid _ := he5
  clear ha5 hk5 he5
  go_wp2_with fail
  refine (refCompress_any _ _ _ _ _ _ HI.out.1 HI.out.2.1 HI.out.2.2.1 HI.out.2.2.2).mono ?_
  rintro e w6 ⟨rfl, hb⟩
  rw [G2.out, G3.out]
  have hk6 := HK.out.step hb (Nat.le_refl _)
  have he6 := HE.out.step hb (Nat.le_refl _)
  have HB6 : Hid (Below w.heap.size w w6) := HB5.out.trans (hb.mono HB5.out.size)
  clear hb HK HE a0 a1 a2 a3 a4 HB5 HB3 HB1
  obtain ⟨_, k0, k1, k2, k3, k4⟩ := hk6
  obtain ⟨_, e0, e1, e2, e3, e4⟩ := he6
  generalize Hm.compC op d s t i = C at *
  generalize Hm.compCE op d s t i = C' at *
  obtain ⟨o1, ⟨o2, o3, o4, o5⟩, o6⟩ := D
  dsimp only at *
  go_wp2_with (go_at_call 17; refine (num_any _ _).mono ?_; rintro e w' ⟨rfl, rfl⟩)
  go_ret
  exact ⟨rfl, HB6.out⟩
end Go.Proofs.YtdcmdjeooklmjaaDoor
