/-
  S6 S7 in one text.
-/
import Derived.Test.YtdcmdjeooklmjaaDoorGQ
import Derived.Test.YtdcmdjeooklmjaaDoorGR
set_option linter.unusedVariables false
set_option linter.unusedSimpArgs false
/-
  Walks: hartref's Short.inst of each row of the table; Expand.
-/
namespace Go.Proofs.YtdcmdjeooklmjaaDoor
open Go.RowKit

def comboB (r : Hm.ShortR) : Bool :=
  r.bits.length == 16 && (!r.sign || decide (0 ≤ Hm.hi r.bits)) && ((r.not' == 4 && r.sign && r.some' && r.op == 1) || (r.op != 1 && ((!r.sign && !r.some' && (r.not' == 1 || r.not' == 2 || r.not' == 3)) || r.not' == 0)))
theorem combo_all {k : Nat} (hk : k < 26) : comboB (Hm.shortR k) = true := by
  have : ∀ j : Fin 26, comboB (Hm.shortR j.val) = true := by decide +kernel
  exact this ⟨k, hk⟩
theorem sgn_low (n : Int) (l : List UInt8) (h : 0 ≤ n) : -4194304 ≤ Hm.sgn n (Hm.hi l).toNat := by
  have hb := Hm.hi_bd l
  have hp : Hm.pw (Hm.hi l).toNat ≤ Hm.pw 20 := Hm.pw_mono _ _ (by omega)
  have e : Hm.pw 20 = 1048576 := by decide
  unfold Hm.sgn
  split <;> omega
theorem sinst_any (r : Hm.ShortR) (p : Int) (w : World) (hc : comboB r = true) (p0 : 0 ≤ p) (p1 : p < 65536) : SInst r p w := by
  obtain ⟨bits, op, D, S, T, sg, so, no⟩ := r
  unfold comboB at hc
  simp only [Bool.and_eq_true, Bool.or_eq_true, beq_iff_eq, Bool.not_eq_true', decide_eq_true_eq, bne_iff_ne, ne_eq] at hc
  obtain ⟨⟨hs, hh⟩, hk⟩ := hc
  cases hr : Hm.rd p bits ⟨0, 0, 0, 0⟩ with
  | none => exact sinst_none _ p w hs p0 p1 hr
  | some f =>
    rcases hk with ⟨⟨⟨hn, hsg⟩, hso⟩, hop⟩ | ⟨hop, ⟨⟨hsg, hso⟩, hn⟩ | hn⟩
    · subst hn hsg hso
      have hh' : 0 ≤ Hm.hi bits := by simpa using hh
      by_cases hm : f.imm = 0
      · exact sbad_tt4a bits op D S T p w hs p0 p1 f hr hm
      by_cases hd : f.d = 2
      · exact sbad_tt4b bits op D S T p w hs p0 p1 f hr ⟨hm, hd⟩
      have hb := rd_bds hs hr
      by_cases hs0 : Hm.sgn f.imm (Hm.hi bits).toNat < 0
      · exact sgood_tt4n bits op D S T p w hs p0 p1 f hr hop hh' hm hd hs0 (sgn_low _ _ hb.i.1)
      · exact sgood_tt4p bits op D S T p w hs p0 p1 f hr hop hh' hm hd hs0
    · subst hsg hso
      rcases hn with (hn | hn) | hn
      · subst hn
        by_cases hm : f.d = 0
        · exact sbad_ff1 bits op D S T p w hs p0 p1 f hr hm
        · exact sgood_ff1 bits op D S T p w hs p0 p1 f hr hop hm
      · subst hn
        by_cases hm : f.r = 0
        · exact sbad_ff2 bits op D S T p w hs p0 p1 f hr hm
        · exact sgood_ff2 bits op D S T p w hs p0 p1 f hr hop hm
      · subst hn
        by_cases hm : f.t = 0
        · exact sbad_ff3 bits op D S T p w hs p0 p1 f hr hm
        · exact sgood_ff3 bits op D S T p w hs p0 p1 f hr hop hm
    · subst hn
      cases sg with
      | false =>
        cases so with
        | false => exact sgood_ff0 bits op D S T p w hs p0 p1 f hr hop
        | true =>
          by_cases hm : f.imm = 0
          · exact sbad_ft0 bits op D S T p w hs p0 p1 f hr hm
          · exact sgood_ft0 bits op D S T p w hs p0 p1 f hr hop hm
      | true =>
        have hh' : 0 ≤ Hm.hi bits := by simpa using hh
        cases so with
        | false => exact sgood_tf0 bits op D S T p w hs p0 p1 f hr hop hh'
        | true =>
          by_cases hm : f.imm = 0
          · exact sbad_tt0 bits op D S T p w hs p0 p1 f hr hm
          · exact sgood_tt0 bits op D S T p w hs p0 p1 f hr hop hh' hm

/-- What stands at each round's head of a search: the block of the result is as it was made; the table lies behind it. -/
structure ResAt (w wr : World) : Prop where
  below : Below w.heap.size w wr
  size : w.heap.size + 1 < wr.heap.size
  out : ∀ i, i < 5 → wr.cell? ⟨w.heap.size, i, none⟩ = some (.int .i64 0)
  free : ∀ i, wr.frozen? ⟨w.heap.size, i, none⟩ = false
  row : ∀ k, k < 26 → RowAt wr (w.heap.size + 1) k
theorem ResAt.step {w wr w' : World} {B : Nat} (h : ResAt w wr) (hb : Below B wr w') (hB : w.heap.size + 1 < B) : ResAt w w' where
  below := h.below.trans (hb.mono (by omega))
  size := by have := hb.size; have := h.size; omega
  out := fun i hi => by rw [bcell hb _ _ (by omega)]; exact h.out i hi
  free := fun i => by rw [hb.frozen (p := ⟨w.heap.size, i, none⟩) (show w.heap.size < B by omega)]; exact h.free i
  row := fun k hk => (h.row k hk).below hb hB
theorem ResAt.start {w w1 : World} (hz : w1.heap.size = (w.alloc (.cells #[.int .i64 0, .int .i64 0, .int .i64 0, .int .i64 0, .int .i64 0] 23)).heap.size + 1)
    (hb : Below (w.alloc (.cells #[.int .i64 0, .int .i64 0, .int .i64 0, .int .i64 0, .int .i64 0] 23)).heap.size (w.alloc (.cells #[.int .i64 0, .int .i64 0, .int .i64 0, .int .i64 0, .int .i64 0] 23)) w1)
    (hc : ∀ i v, shortCells[i]? = some v → w1.cell? ⟨(w.alloc (.cells #[.int .i64 0, .int .i64 0, .int .i64 0, .int .i64 0, .int .i64 0] 23)).heap.size, i, none⟩ = some v) : ResAt w w1 where
  below := ((Below.refl _ _).alloc (Nat.le_refl _) _).trans (hb.mono (by simp))
  size := by rw [hz]; simp
  out := by
    intro i hi
    rw [bcell hb _ _ (by simp)]
    have hi' : i = 0 ∨ i = 1 ∨ i = 2 ∨ i = 3 ∨ i = 4 := by omega
    rcases hi' with rfl | rfl | rfl | rfl | rfl <;> simp
  free := by intro i; rw [hb.frozen (p := ⟨w.heap.size, i, none⟩) (by simp)]; simp
  row := fun k hk => by
    have := rowAt_of hc hk
    simpa using this

def expVal (d : Hm.Dec) : Value := .tuple #[.agg #[.int .i64 d.op, .int .i64 d.f.d, .int .i64 d.f.r, .int .i64 d.f.t, .int .i64 d.f.imm], .int .i64 d.err]
theorem ret_exp {a b : Hm.Dec} (h : a = b) : Ending.returned (expVal a) = .returned (expVal b) := by rw [h]
theorem below_5 {B : Nat} {w w' : World} (h : Below B w w') (v0 v1 v2 v3 v4 : Value) :
    Below B w (((((w'.setCell ⟨B, 0, none⟩ v0).setCell ⟨B, 1, none⟩ v1).setCell ⟨B, 2, none⟩ v2).setCell ⟨B, 3, none⟩ v3).setCell ⟨B, 4, none⟩ v4) :=
  ((((h.setCell (Nat.le_refl _) _).setCell (Nat.le_refl _) _).setCell (Nat.le_refl _) _).setCell (Nat.le_refl _) _).setCell (Nat.le_refl _) _

set_option maxRecDepth 100000 in
set_option maxHeartbeats 1000000 in
theorem expand_wide (p : Int) (w : World) (p0 : 0 ≤ p) (p1 : p < 65536) (h : p % 4 = 3) :
    Calls Tryd.prog 20 #[.int .i64 p] w fun e w' => e = .returned (expVal (Hm.expR p)) ∧ Below w.heap.size w w' := by
  have HE : Hid (Hm.expR p = ⟨0, ⟨0, 0, 0, 0⟩, 3⟩) := by simp [Hid, Hm.expR, h]
  have h' : (p % 4 == 3) = true := by simpa using h
  clear h
  go_enter Tryd.func20, Tryd.ntmps20
  go_wp2
  exact bodyPost_ret (v := expVal ⟨0, ⟨0, 0, 0, 0⟩, 3⟩) (by simp [results, Tryd.results20, go_sem, expVal]) rfl ⟨ret_exp HE.out.symm, (Below.refl _ _).alloc (Nat.le_refl _) _⟩

set_option maxRecDepth 100000 in
set_option maxHeartbeats 4000000 in
theorem expand_else (p : Int) (w : World) (p0 : 0 ≤ p) (p1 : p < 65536) (h : ¬ p % 4 = 3) :
    Calls Tryd.prog 20 #[.int .i64 p] w fun e w' => e = .returned (expVal (Hm.expR p)) ∧ Below w.heap.size w w' := by
  have HE : Hid (Hm.expR p = Hm.expFrom p 26 0) := by simp [Hid, Hm.expR, h]
  have h' : (p % 4 == 3) = false := by simpa using h
  clear h
  go_enter Tryd.func20, Tryd.ntmps20
  go_wp2_with fail
  refine (shorts_any _).mono ?_
  rintro e w2 ⟨rfl, hz2, hb2, hc⟩
  have hat := ResAt.start hz2 hb2 hc
  clear hz2 hb2 hc
  go_wp2
  go_loopw [5] (fun o wr => ∃ k : Nat, k ≤ 26 ∧ o = .int .i64 k ∧ Hm.expFrom p (26 - k) k = Hm.expR p ∧ ResAt w wr) (fun o _ => 26 - (intOf o).toNat)
  case atStart => exact ⟨0, by omega, rfl, HE.out.symm, hat⟩
  case round =>
    clear hat
    obtain ⟨k, hk, rfl, hd0, hat⟩ := hrel
    have HD : Hid (Hm.expFrom p (26 - k) k = Hm.expR p) := hd0
    clear hd0
    by_cases hlt : k < 26
    · have hrow := hat.row k hlt
      have h4 : (k : Int) < 26 := by omega
      obtain ⟨c0, c1, c2, c3, c4, c5, c6, c7⟩ := hrow
      have hcb := combo_all hlt
      cases hi : Hm.instS (Hm.shortR k) p with
      | none =>
        have HI : Hid (sinstVal (Hm.shortR k).op (Hm.instS (Hm.shortR k) p) = .tuple #[.agg #[.int .i64 0, .int .i64 0, .int .i64 0, .int .i64 0, .int .i64 0], .bool false]) := by rw [hi]; rfl
        have HD2 : Hid (Hm.expFrom p (26 - (k + 1)) (k + 1) = Hm.expR p) := by
          have := HD.out
          rw [show 26 - k = (26 - (k + 1)) + 1 from by omega, Hm.expFrom_none hi] at this
          exact this
        clear hi
        go_wp2_with fail
        refine Calls.mono (sinst_any (Hm.shortR k) p _ hcb p0 p1) ?_
        rintro e w3 ⟨rfl, hb3⟩
        rw [HI.out]
        have hat3 := hat.step hb3 hat.size
        clear hb3 hat c0 c1 c2 c3 c4 c5 c6 c7
        go_wp2
        go_roundw
        case rel => exact ⟨k + 1, by omega, by go_num, HD2.out, hat3.step ((Below.refl _ _).alloc (Nat.le_refl _) _) hat3.size⟩
        case measure => simp [intOf]; omega
      | some fl =>
        have HI : Hid (sinstVal (Hm.shortR k).op (Hm.instS (Hm.shortR k) p) = .tuple #[.agg #[.int .i64 (Hm.shortR k).op, .int .i64 fl.d, .int .i64 fl.r, .int .i64 fl.t, .int .i64 fl.imm], .bool true]) := by rw [hi]; rfl
        have HD2 : Hid (Hm.expR p = ⟨(Hm.shortR k).op, fl, 0⟩) := by
          have := HD.out
          rw [show 26 - k = (26 - (k + 1)) + 1 from by omega, Hm.expFrom_some hi] at this
          exact this.symm
        clear hi
        go_wp2_with fail
        refine Calls.mono (sinst_any (Hm.shortR k) p _ hcb p0 p1) ?_
        rintro e w3 ⟨rfl, hb3⟩
        rw [HI.out]
        have hat3 := hat.step hb3 hat.size
        have hsz3 := hat3.size
        have r0 := hat3.out 0 (by omega)
        have r1 := hat3.out 1 (by omega)
        have r2 := hat3.out 2 (by omega)
        have r3 := hat3.out 3 (by omega)
        have r4 := hat3.out 4 (by omega)
        have hfr := hat3.free
        have HB3 : Hid (Below w.heap.size w w3) := hat3.below
        have hle : w.heap.size < w3.heap.size := by omega
        clear hb3 hat c0 c1 c2 c3 c4 c5 c6 c7 hat3
        go_wp2
        exact bodyPost_ret (v := expVal ⟨(Hm.shortR k).op, fl, 0⟩) (by simp [results, Tryd.results20, go_sem, expVal, r0, r1, r2, r3, r4, hle]) rfl ⟨ret_exp (by rw [HD2.out]), (below_5 HB3.out _ _ _ _ _).alloc (by simp [World.setCell]; omega) _⟩
    · have HD2 : Hid (Hm.expR p = ⟨0, ⟨0, 0, 0, 0⟩, 2⟩) := by
        have := HD.out
        rw [show 26 - k = 0 from by omega] at this
        exact this.symm
      have r0 := hat.out 0 (by omega)
      have r1 := hat.out 1 (by omega)
      have r2 := hat.out 2 (by omega)
      have r3 := hat.out 3 (by omega)
      have r4 := hat.out 4 (by omega)
      have hfr := hat.free
      have HB4 : Hid (Below w.heap.size w wr) := hat.below
      clear hat HD
      go_wp2
      exact bodyPost_ret (v := expVal ⟨0, ⟨0, 0, 0, 0⟩, 2⟩) (by simp [results, Tryd.results20, go_sem, expVal, r0, r1, r2, r3, r4]) rfl ⟨ret_exp (by rw [HD2.out]), below_5 HB4.out _ _ _ _ _⟩

theorem refExpand_any (p : Int) (w : World) (p0 : 0 ≤ p) (p1 : p < 65536) :
    Calls Tryd.prog 20 #[.int .i64 p] w fun e w' => e = .returned (expVal (Hm.expR p)) ∧ Below w.heap.size w w' := by
  by_cases h : p % 4 = 3
  · exact expand_wide p w p0 p1 h
  · exact expand_else p w p0 p1 h
end Go.Proofs.YtdcmdjeooklmjaaDoor

/-
  Walks: hartref's Compress.
-/
namespace Go.Proofs.YtdcmdjeooklmjaaDoor
open Go.RowKit

/-- What stands at each round's head of Compress: the argument's box, the table. -/
structure CompAt (op rd rs1 rs2 imm : Int) (w : World) (tb : Nat) (wr : World) : Prop where
  below : Below w.heap.size w wr
  size : tb < wr.heap.size
  lt : w.heap.size < tb
  c0 : wr.cell? ⟨w.heap.size, 0, none⟩ = some (.int .i64 op)
  c1 : wr.cell? ⟨w.heap.size, 1, none⟩ = some (.int .i64 rd)
  c2 : wr.cell? ⟨w.heap.size, 2, none⟩ = some (.int .i64 rs1)
  c3 : wr.cell? ⟨w.heap.size, 3, none⟩ = some (.int .i64 rs2)
  c4 : wr.cell? ⟨w.heap.size, 4, none⟩ = some (.int .i64 imm)
  row : ∀ k, k < 26 → RowAt wr tb k
theorem CompAt.step {op rd rs1 rs2 imm : Int} {w wr w' : World} {tb B : Nat} (h : CompAt op rd rs1 rs2 imm w tb wr) (hb : Below B wr w') (hB : tb < B) : CompAt op rd rs1 rs2 imm w tb w' where
  below := h.below.trans (hb.mono (by have := h.lt; omega))
  size := by have := hb.size; have := h.size; omega
  lt := h.lt
  c0 := by rw [bcell hb _ _ (by have := h.lt; omega)]; exact h.c0
  c1 := by rw [bcell hb _ _ (by have := h.lt; omega)]; exact h.c1
  c2 := by rw [bcell hb _ _ (by have := h.lt; omega)]; exact h.c2
  c3 := by rw [bcell hb _ _ (by have := h.lt; omega)]; exact h.c3
  c4 := by rw [bcell hb _ _ (by have := h.lt; omega)]; exact h.c4
  row := fun k hk => (h.row k hk).below hb hB

set_option maxRecDepth 100000 in
set_option maxHeartbeats 1000000 in
theorem compress_no (op rd rs1 rs2 imm : Int) (w : World) (hl : Hm.legalR op rd rs1 rs2 imm = false) :
    Calls Tryd.prog 22 #[.agg #[.int .i64 op, .int .i64 rd, .int .i64 rs1, .int .i64 rs2, .int .i64 imm]] w fun e w' => e = .returned (.tuple #[.int .i64 (Hm.compR op rd rs1 rs2 imm), .int .i64 (Hm.compE op rd rs1 rs2 imm)]) ∧ Below w.heap.size w w' := by
  have HE : Hid (Hm.compR op rd rs1 rs2 imm = 0) := by simp [Hid, Hm.compR, hl]
  have HR : Hid (Hm.compE op rd rs1 rs2 imm = 1) := by simp [Hid, Hm.compE, hl]
  go_enter Tryd.func22, Tryd.ntmps22
  go_wp2_with fail
  refine (refLegal_any _ _ _ _ _ _).mono ?_
  rintro e w1 ⟨rfl, hb⟩
  have HB : Hid (Below w.heap.size w w1) := ((Below.refl _ _).alloc (Nat.le_refl _) _).trans (hb.mono (by simp))
  clear hb
  go_wp2
  go_ret2
  exact ⟨ret_ints2 HE.out.symm HR.out.symm, HB.out⟩

set_option maxRecDepth 100000 in
set_option maxHeartbeats 8000000 in
theorem compress_yes (op rd rs1 rs2 imm : Int) (w : World) (hrd : I64 rd) (hrs1 : I64 rs1) (hrs2 : I64 rs2) (himm : I64 imm) (hl : Hm.legalR op rd rs1 rs2 imm = true) :
    Calls Tryd.prog 22 #[.agg #[.int .i64 op, .int .i64 rd, .int .i64 rs1, .int .i64 rs2, .int .i64 imm]] w fun e w' => e = .returned (.tuple #[.int .i64 (Hm.compR op rd rs1 rs2 imm), .int .i64 (Hm.compE op rd rs1 rs2 imm)]) ∧ Below w.heap.size w w' := by
  have HL : Hid (Hm.legalR op rd rs1 rs2 imm = true) := hl
  go_enter Tryd.func22, Tryd.ntmps22
  go_wp2_with fail
  refine (refLegal_any _ _ _ _ _ _).mono ?_
  rintro e w1 ⟨rfl, hb⟩
  have HB : Hid (Below w.heap.size w w1) := ((Below.refl _ _).alloc (Nat.le_refl _) _).trans (hb.mono (by simp))
  have hz : w.heap.size < w1.heap.size := by have := hb.size; simp at this; omega
  have c0 : w1.cell? ⟨w.heap.size, 0, none⟩ = some (.int .i64 op) := by rw [bcell hb _ _ (by simp)]; simp
  have c1 : w1.cell? ⟨w.heap.size, 1, none⟩ = some (.int .i64 rd) := by rw [bcell hb _ _ (by simp)]; simp
  have c2 : w1.cell? ⟨w.heap.size, 2, none⟩ = some (.int .i64 rs1) := by rw [bcell hb _ _ (by simp)]; simp
  have c3 : w1.cell? ⟨w.heap.size, 3, none⟩ = some (.int .i64 rs2) := by rw [bcell hb _ _ (by simp)]; simp
  have c4 : w1.cell? ⟨w.heap.size, 4, none⟩ = some (.int .i64 imm) := by rw [bcell hb _ _ (by simp)]; simp
  clear hb
  go_wp2_with fail
  refine (shorts_any _).mono ?_
  rintro e w2 ⟨rfl, hz2, hb2, hc⟩
  have hat : CompAt op rd rs1 rs2 imm w w1.heap.size w2 :=
    ⟨HB.out.trans (hb2.mono (by omega)), by omega, hz, by rw [bcell hb2 _ _ hz]; exact c0, by rw [bcell hb2 _ _ hz]; exact c1, by rw [bcell hb2 _ _ hz]; exact c2, by rw [bcell hb2 _ _ hz]; exact c3, by rw [bcell hb2 _ _ hz]; exact c4, fun k hk => rowAt_of hc hk⟩
  clear hz2 hb2 hc HB c0 c1 c2 c3 c4 hl
  generalize w1.heap.size = tb at *
  go_wp2
  go_loopw [5, 7] (fun v o wr => ∃ k : Nat, k ≤ 26 ∧ o = .int .i64 k ∧ v = .int .i64 (Hm.leastTo op rd rs1 rs2 imm k) ∧ CompAt op rd rs1 rs2 imm w tb wr) (fun _ o _ => 26 - (intOf o).toNat)
  case atStart => exact ⟨0, by omega, rfl, rfl, hat⟩
  case round =>
    clear hat
    obtain ⟨k, hk, rfl, rfl, hat⟩ := hrel
    have hlb := Hm.least_bd op rd rs1 rs2 imm hk
    by_cases hlt : k < 26
    · have hrow := hat.row k hlt
      have h4 : (k : Int) < 26 := by omega
      have d0 := hat.c0
      have r0 := hrow.c0
      have r1 := hrow.c1
      by_cases ho : (Hm.shortR k).op = op
      · have hsz : (Hm.shortR k).str.size ≤ 32 := by
          show (Hm.shortR k).bits.toArray.size ≤ 32
          simp [Hm.short_len hlt]
        have hpb : 0 ≤ Hm.fill rd rs1 rs2 imm (Hm.shortR k).str.data.toList 0 ∧ Hm.fill rd rs1 rs2 imm (Hm.shortR k).str.data.toList 0 < 65536 := Hm.par_bd hlt rd rs1 rs2 imm
        have HP : Hid (Hm.fill rd rs1 rs2 imm (Hm.shortR k).str.data.toList 0 = Hm.parS k rd rs1 rs2 imm) := rfl
        have HO : Hid ((Hm.shortR k).op = op) := ho
        have ho' : ((Hm.shortR k).op != op) = false := by simpa using ho
        clear ho
        by_cases hE : (Hm.expR (Hm.parS k rd rs1 rs2 imm)).err = 0
        · by_cases hS : Hm.sameD (Hm.expR (Hm.parS k rd rs1 rs2 imm)) op rd rs1 rs2 imm = true
          · have hok : Hm.okS k op rd rs1 rs2 imm = true := by simp [Hm.okS, HO.out, hE, hS]
            have HDV : Hid (expVal (Hm.expR (Hm.fill rd rs1 rs2 imm (Hm.shortR k).str.data.toList 0)) = .tuple #[.agg #[.int .i64 op, .int .i64 rd, .int .i64 rs1, .int .i64 rs2, .int .i64 imm], .int .i64 0]) := by
              show expVal (Hm.expR (Hm.parS k rd rs1 rs2 imm)) = _
              generalize Hm.expR (Hm.parS k rd rs1 rs2 imm) = Dx at *
              obtain ⟨o1, ⟨o2, o3, o4, o5⟩, o6⟩ := Dx
              simp [Hm.sameD] at hS
              simp only at hE
              obtain ⟨⟨⟨⟨rfl, rfl⟩, rfl⟩, rfl⟩, rfl⟩ := hS
              subst hE
              rfl
            clear hE hS
            by_cases hm : Hm.leastTo op rd rs1 rs2 imm k < 0
            · have HN : Hid (Hm.leastTo op rd rs1 rs2 imm (k + 1) = Hm.parS k rd rs1 rs2 imm) := by
                show _ = _
                rw [Hm.leastTo, if_pos ⟨hok, Or.inl hm⟩]
              clear hok
              go_wp2
              go_quiet (fail)
              have hat2 := hat.step (below_drewN (Below.refl wr.heap.size wr) nq) hat.size
              generalize wr.drewN nq = wa at *
              have hrow2 := hat2.row k hlt
              have s0 := hrow2.c0
              have b1 := hat2.c1
              have b2 := hat2.c2
              have b3 := hat2.c3
              have b4 := hat2.c4
              have hz2 := hat2.size
              clear hat hrow d0 r0 r1 hrow2
              go_wp2
              go_quiet ((go_at_call 39; exact Calls.quiet_of_same (fill_any _ _ _ _ _ _ hsz hrd.1 hrd.2 hrs1.1 hrs1.2 hrs2.1 hrs2.2 himm.1 himm.2)))
              have hat3 := hat2.step (below_drewN (Below.refl wa.heap.size wa) nq) hat2.size
              generalize wa.drewN nq = wb at *
              clear hat2 s0 b1 b2 b3 b4 hz2
              go_wp2_with fail
              refine (refExpand_any _ _ hpb.1 hpb.2).mono ?_
              rintro e wc ⟨rfl, hbc⟩
              rw [HDV.out]
              have hat4 := hat3.step hbc hat3.size
              have b0 := hat4.c0
              have b1 := hat4.c1
              have b2 := hat4.c2
              have b3 := hat4.c3
              have b4 := hat4.c4
              have hz4 := hat4.size
              have hlt4 := hat4.lt
              have hbz : w.heap.size < wc.heap.size := by omega
              clear hat3 hbc
              go_wp2
              go_roundw
              case rel => exact ⟨k + 1, by omega, by go_num, by rw [HN.out, ← HP.out], hat4.step ((Below.refl _ _).alloc (Nat.le_refl _) _) hat4.size⟩
              case measure => simp [intOf]; omega
            · by_cases hq : Hm.parS k rd rs1 rs2 imm < Hm.leastTo op rd rs1 rs2 imm k
              · have HN : Hid (Hm.leastTo op rd rs1 rs2 imm (k + 1) = Hm.parS k rd rs1 rs2 imm) := by
                  show _ = _
                  rw [Hm.leastTo, if_pos ⟨hok, Or.inr hq⟩]
                have hq' : Hm.fill rd rs1 rs2 imm (Hm.shortR k).str.data.toList 0 < Hm.leastTo op rd rs1 rs2 imm k := hq
                clear hok hq
                go_wp2
                go_quiet (fail)
                have hat2 := hat.step (below_drewN (Below.refl wr.heap.size wr) nq) hat.size
                generalize wr.drewN nq = wa at *
                have hrow2 := hat2.row k hlt
                have s0 := hrow2.c0
                have b1 := hat2.c1
                have b2 := hat2.c2
                have b3 := hat2.c3
                have b4 := hat2.c4
                have hz2 := hat2.size
                clear hat hrow d0 r0 r1 hrow2
                go_wp2
                go_quiet ((go_at_call 39; exact Calls.quiet_of_same (fill_any _ _ _ _ _ _ hsz hrd.1 hrd.2 hrs1.1 hrs1.2 hrs2.1 hrs2.2 himm.1 himm.2)))
                have hat3 := hat2.step (below_drewN (Below.refl wa.heap.size wa) nq) hat2.size
                generalize wa.drewN nq = wb at *
                clear hat2 s0 b1 b2 b3 b4 hz2
                go_wp2_with fail
                refine (refExpand_any _ _ hpb.1 hpb.2).mono ?_
                rintro e wc ⟨rfl, hbc⟩
                rw [HDV.out]
                have hat4 := hat3.step hbc hat3.size
                have b0 := hat4.c0
                have b1 := hat4.c1
                have b2 := hat4.c2
                have b3 := hat4.c3
                have b4 := hat4.c4
                have hz4 := hat4.size
                have hlt4 := hat4.lt
                have hbz : w.heap.size < wc.heap.size := by omega
                clear hat3 hbc
                go_wp2
                go_roundw
                case rel => exact ⟨k + 1, by omega, by go_num, by rw [HN.out, ← HP.out], hat4.step ((Below.refl _ _).alloc (Nat.le_refl _) _) hat4.size⟩
                case measure => simp [intOf]; omega
              · have HN : Hid (Hm.leastTo op rd rs1 rs2 imm (k + 1) = Hm.leastTo op rd rs1 rs2 imm k) := by
                  show _ = _
                  rw [Hm.leastTo, if_neg (fun h => by rcases h.2 with h | h <;> omega)]
                have hq' : ¬ Hm.fill rd rs1 rs2 imm (Hm.shortR k).str.data.toList 0 < Hm.leastTo op rd rs1 rs2 imm k := hq
                clear hok hq
                go_wp2
                go_quiet (fail)
                have hat2 := hat.step (below_drewN (Below.refl wr.heap.size wr) nq) hat.size
                generalize wr.drewN nq = wa at *
                have hrow2 := hat2.row k hlt
                have s0 := hrow2.c0
                have b1 := hat2.c1
                have b2 := hat2.c2
                have b3 := hat2.c3
                have b4 := hat2.c4
                have hz2 := hat2.size
                clear hat hrow d0 r0 r1 hrow2
                go_wp2
                go_quiet ((go_at_call 39; exact Calls.quiet_of_same (fill_any _ _ _ _ _ _ hsz hrd.1 hrd.2 hrs1.1 hrs1.2 hrs2.1 hrs2.2 himm.1 himm.2)))
                have hat3 := hat2.step (below_drewN (Below.refl wa.heap.size wa) nq) hat2.size
                generalize wa.drewN nq = wb at *
                clear hat2 s0 b1 b2 b3 b4 hz2
                go_wp2_with fail
                refine (refExpand_any _ _ hpb.1 hpb.2).mono ?_
                rintro e wc ⟨rfl, hbc⟩
                rw [HDV.out]
                have hat4 := hat3.step hbc hat3.size
                have b0 := hat4.c0
                have b1 := hat4.c1
                have b2 := hat4.c2
                have b3 := hat4.c3
                have b4 := hat4.c4
                have hz4 := hat4.size
                have hlt4 := hat4.lt
                have hbz : w.heap.size < wc.heap.size := by omega
                clear hat3 hbc
                go_wp2
                go_roundw
                case rel => exact ⟨k + 1, by omega, by go_num, by rw [HN.out], hat4.step ((Below.refl _ _).alloc (Nat.le_refl _) _) hat4.size⟩
                case measure => simp [intOf]; omega
          · have HN : Hid (Hm.leastTo op rd rs1 rs2 imm (k + 1) = Hm.leastTo op rd rs1 rs2 imm k) := by
              show _ = _
              rw [Hm.leastTo, if_neg]
              intro h
              have := h.1
              simp [Hm.okS, hE, hS] at this
            generalize hD : Hm.expR (Hm.parS k rd rs1 rs2 imm) = Dx at *
            have HDV : Hid (expVal (Hm.expR (Hm.fill rd rs1 rs2 imm (Hm.shortR k).str.data.toList 0)) = .tuple #[.agg #[.int .i64 Dx.op, .int .i64 Dx.f.d, .int .i64 Dx.f.r, .int .i64 Dx.f.t, .int .i64 Dx.f.imm], .int .i64 0]) := by
              show expVal (Hm.expR (Hm.parS k rd rs1 rs2 imm)) = _
              rw [hD, ← hE]; rfl
            have HS : Hid (¬ Hm.sameD Dx op rd rs1 rs2 imm = true) := hS
            clear hE hD hS
            go_wp2
            go_quiet (fail)
            have hat2 := hat.step (below_drewN (Below.refl wr.heap.size wr) nq) hat.size
            generalize wr.drewN nq = wa at *
            have hrow2 := hat2.row k hlt
            have s0 := hrow2.c0
            have b1 := hat2.c1
            have b2 := hat2.c2
            have b3 := hat2.c3
            have b4 := hat2.c4
            have hz2 := hat2.size
            clear hat hrow d0 r0 r1 hrow2
            go_wp2
            go_quiet ((go_at_call 39; exact Calls.quiet_of_same (fill_any _ _ _ _ _ _ hsz hrd.1 hrd.2 hrs1.1 hrs1.2 hrs2.1 hrs2.2 himm.1 himm.2)))
            have hat3 := hat2.step (below_drewN (Below.refl wa.heap.size wa) nq) hat2.size
            generalize wa.drewN nq = wb at *
            clear hat2 s0 b1 b2 b3 b4 hz2
            go_wp2_with fail
            refine (refExpand_any _ _ hpb.1 hpb.2).mono ?_
            rintro e wc ⟨rfl, hbc⟩
            rw [HDV.out]
            have hat4 := hat3.step hbc hat3.size
            have b0 := hat4.c0
            have b1 := hat4.c1
            have b2 := hat4.c2
            have b3 := hat4.c3
            have b4 := hat4.c4
            have hz4 := hat4.size
            have hlt4 := hat4.lt
            have hbz : w.heap.size < wc.heap.size := by omega
            clear hat3 hbc
            go_wp2
            all_goals
              first
              | (exfalso; apply HS.out; simp [Hm.sameD, *]; done)
              | exact ⟨⟨k + 1, by omega, by go_num, by rw [HN.out], hat4.step ((Below.refl _ _).alloc (Nat.le_refl _) _) hat4.size⟩, by simp [intOf]; omega⟩
        · have HN : Hid (Hm.leastTo op rd rs1 rs2 imm (k + 1) = Hm.leastTo op rd rs1 rs2 imm k) := by
            show _ = _
            rw [Hm.leastTo, if_neg]
            intro h
            have := h.1
            simp [Hm.okS, hE] at this
          generalize hD : Hm.expR (Hm.parS k rd rs1 rs2 imm) = Dx at *
          have HDV : Hid (expVal (Hm.expR (Hm.fill rd rs1 rs2 imm (Hm.shortR k).str.data.toList 0)) = .tuple #[.agg #[.int .i64 Dx.op, .int .i64 Dx.f.d, .int .i64 Dx.f.r, .int .i64 Dx.f.t, .int .i64 Dx.f.imm], .int .i64 Dx.err]) := by
            show expVal (Hm.expR (Hm.parS k rd rs1 rs2 imm)) = _
            rw [hD]; rfl
          have hE' : (Dx.err == 0) = false := by simpa using hE
          clear hE hD
          go_wp2
          go_quiet (fail)
          have hat2 := hat.step (below_drewN (Below.refl wr.heap.size wr) nq) hat.size
          generalize wr.drewN nq = wa at *
          have hrow2 := hat2.row k hlt
          have s0 := hrow2.c0
          have b1 := hat2.c1
          have b2 := hat2.c2
          have b3 := hat2.c3
          have b4 := hat2.c4
          have hz2 := hat2.size
          clear hat hrow d0 r0 r1 hrow2
          go_wp2
          go_quiet ((go_at_call 39; exact Calls.quiet_of_same (fill_any _ _ _ _ _ _ hsz hrd.1 hrd.2 hrs1.1 hrs1.2 hrs2.1 hrs2.2 himm.1 himm.2)))
          have hat3 := hat2.step (below_drewN (Below.refl wa.heap.size wa) nq) hat2.size
          generalize wa.drewN nq = wb at *
          clear hat2 s0 b1 b2 b3 b4 hz2
          go_wp2_with fail
          refine (refExpand_any _ _ hpb.1 hpb.2).mono ?_
          rintro e wc ⟨rfl, hbc⟩
          rw [HDV.out]
          have hat4 := hat3.step hbc hat3.size
          have b0 := hat4.c0
          have b1 := hat4.c1
          have b2 := hat4.c2
          have b3 := hat4.c3
          have b4 := hat4.c4
          have hz4 := hat4.size
          have hlt4 := hat4.lt
          have hbz : w.heap.size < wc.heap.size := by omega
          clear hat3 hbc
          go_wp2
          go_roundw
          case rel => exact ⟨k + 1, by omega, by go_num, by rw [HN.out], hat4.step ((Below.refl _ _).alloc (Nat.le_refl _) _) hat4.size⟩
          case measure => simp [intOf]; omega
      · have HN : Hid (Hm.leastTo op rd rs1 rs2 imm (k + 1) = Hm.leastTo op rd rs1 rs2 imm k) := by
          show _ = _
          rw [Hm.leastTo, if_neg]
          intro h
          have := h.1
          simp [Hm.okS, ho] at this
        have ho' : ((Hm.shortR k).op != op) = true := by simpa using ho
        clear ho
        go_wp2
        go_quiet (fail)
        go_wp2
        go_roundw
        case rel => exact ⟨k + 1, by omega, by go_num, by rw [HN.out], hat.step (below_drewN (Below.refl _ _) _) hat.size⟩
        case measure => simp [intOf]; omega
    · have hk26 : k = 26 := by omega
      subst hk26
      have HB4 : Hid (Below w.heap.size w wr) := hat.below
      clear hat
      by_cases hm : Hm.leastTo op rd rs1 rs2 imm 26 < 0
      · have HE : Hid (Hm.compR op rd rs1 rs2 imm = 0) := by
          show _ = _
          unfold Hm.compR
          rw [if_neg (fun h => by have := h.2; omega)]
        have HR : Hid (Hm.compE op rd rs1 rs2 imm = 4) := by
          show _ = _
          unfold Hm.compE
          rw [if_pos HL.out, if_neg (by omega)]
        go_wp2
        go_ret2
        exact ⟨ret_ints2 HE.out.symm HR.out.symm, HB4.out⟩
      · have HE : Hid (Hm.compR op rd rs1 rs2 imm = Hm.leastTo op rd rs1 rs2 imm 26) := by
          show _ = _
          unfold Hm.compR
          rw [if_pos ⟨HL.out, by omega⟩]
        have HR : Hid (Hm.compE op rd rs1 rs2 imm = 0) := by
          show _ = _
          unfold Hm.compE
          rw [if_pos HL.out, if_pos (by omega)]
        go_wp2
        go_ret2
        exact ⟨ret_ints2 HE.out.symm HR.out.symm, HB4.out⟩

theorem refCompress_any (op rd rs1 rs2 imm : Int) (w : World) (hrd : I64 rd) (hrs1 : I64 rs1) (hrs2 : I64 rs2) (himm : I64 imm) :
    Calls Tryd.prog 22 #[.agg #[.int .i64 op, .int .i64 rd, .int .i64 rs1, .int .i64 rs2, .int .i64 imm]] w fun e w' => e = .returned (.tuple #[.int .i64 (Hm.compR op rd rs1 rs2 imm), .int .i64 (Hm.compE op rd rs1 rs2 imm)]) ∧ Below w.heap.size w w' := by
  cases h : Hm.legalR op rd rs1 rs2 imm
  · exact compress_no op rd rs1 rs2 imm w h
  · exact compress_yes op rd rs1 rs2 imm w hrd hrs1 hrs2 himm h
end Go.Proofs.YtdcmdjeooklmjaaDoor
