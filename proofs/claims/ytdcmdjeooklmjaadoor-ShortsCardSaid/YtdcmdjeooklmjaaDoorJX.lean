/-
  BA BC in one text.
-/
import Derived.Test.YtdcmdjeooklmjaaDoorGW
import Derived.Test.YtdcmdjeooklmjaaDoorGO
import Derived.Test.YtdcmdjeooklmjaaDoorJD
set_option linter.unusedVariables false
set_option linter.unusedSimpArgs false
/-
  Walks: package code's shortRow.write (made by gen_BA.py).
-/
namespace Go.Proofs.YtdcmdjeooklmjaaDoor
open Go.RowKit

/-- What stays as it was while write goes on: the row's block, the instruction's block. -/
structure WrAt (r : Hm.RowC) (o d s t i : Int) (w W : World) : Prop where
  below : Below w.heap.size w W
  size : w.heap.size + 2 ≤ W.heap.size
  c1 : W.cell? ⟨w.heap.size, 1, none⟩ = some (.int .u16 r.bits)
  c2 : W.cell? ⟨w.heap.size, 2, none⟩ = some (.int .u8 r.op)
  c3 : W.cell? ⟨w.heap.size, 3, none⟩ = some (.int .u8 r.rd)
  c4 : W.cell? ⟨w.heap.size, 4, none⟩ = some (.int .u8 r.rs1)
  c5 : W.cell? ⟨w.heap.size, 5, none⟩ = some (.int .u8 r.rs2)
  c6 : W.cell? ⟨w.heap.size, 6, none⟩ = some (.int .u8 r.imm)
  i1 : W.cell? ⟨w.heap.size + 1, 1, none⟩ = some (.int .i64 d)
  i2 : W.cell? ⟨w.heap.size + 1, 2, none⟩ = some (.int .i64 s)
  i3 : W.cell? ⟨w.heap.size + 1, 3, none⟩ = some (.int .i64 t)
  i4 : W.cell? ⟨w.heap.size + 1, 4, none⟩ = some (.int .i64 i)
  i0 : W.cell? ⟨w.heap.size + 1, 0, none⟩ = some (.int .i64 o)
  row : W.rangeAt w.heap.size 0 [.int .u16 r.mask, .int .u16 r.bits, .int .u8 r.op, .int .u8 r.rd, .int .u8 r.rs1, .int .u8 r.rs2, .int .u8 r.imm, .int .u8 r.not']
  tab : Tab W
theorem WrAt.step {r : Hm.RowC} {o d s t i : Int} {w W W' : World} {B : Nat} (h : WrAt r o d s t i w W) (hb : Below B W W') (hB : w.heap.size + 2 ≤ B) (ht : 1 < w.heap.size := by assumption) : WrAt r o d s t i w W' where
  below := h.below.trans (hb.mono (by omega))
  size := by have := hb.size; have := h.size; omega
  c1 := by rw [bcell hb _ _ (by omega)]; exact h.c1
  c2 := by rw [bcell hb _ _ (by omega)]; exact h.c2
  c3 := by rw [bcell hb _ _ (by omega)]; exact h.c3
  c4 := by rw [bcell hb _ _ (by omega)]; exact h.c4
  c5 := by rw [bcell hb _ _ (by omega)]; exact h.c5
  c6 := by rw [bcell hb _ _ (by omega)]; exact h.c6
  i1 := by rw [bcell hb _ _ (by omega)]; exact h.i1
  i2 := by rw [bcell hb _ _ (by omega)]; exact h.i2
  i3 := by rw [bcell hb _ _ (by omega)]; exact h.i3
  i4 := by rw [bcell hb _ _ (by omega)]; exact h.i4
  i0 := by rw [bcell hb _ _ (by omega)]; exact h.i0
  row := fun j v hv => by rw [bcell hb _ _ (by omega)]; exact h.row j v hv
  tab := h.tab.below hb (by omega)
theorem WrAt.start (r : Hm.RowC) (o d s t i : Int) (w : World) (ht : Tab w) : WrAt r o d s t i w ((w.alloc (.cells #[.int .u16 r.mask, .int .u16 r.bits, .int .u8 r.op, .int .u8 r.rd, .int .u8 r.rs1, .int .u8 r.rs2, .int .u8 r.imm, .int .u8 r.not'] 121)).alloc (.cells #[.int .i64 o, .int .i64 d, .int .i64 s, .int .i64 t, .int .i64 i] 23)) where
  below := ((Below.refl _ _).alloc (Nat.le_refl _) _).alloc (by simp) _
  size := by simp
  c1 := by simp
  c2 := by simp
  c3 := by simp
  c4 := by simp
  c5 := by simp
  c6 := by simp
  i1 := by simp
  i2 := by simp
  i3 := by simp
  i4 := by simp
  i0 := by simp
  row := by
    intro j v h
    rw [World.cell?_alloc_lt _ _ _ (by simp), World.cell?_alloc_new, Nat.zero_add]
    simpa using h
  tab := (ht.alloc _).alloc _
def wrV (p : Int) (b : Bool) : Value := .tuple #[.int .u16 p, .bool b]
theorem ret_wr {p p' : Int} {b b' : Bool} (h1 : p = p') (h2 : b = b') : Ending.returned (.tuple #[.int .u16 p, .bool b]) = .returned (wrV p' b') := by rw [h1, h2]; rfl
theorem or_u16 {a b : Int} (ha : Hm.U16 a) (hb : Hm.U16 b) : bits .or .u16 a b = Hm.orI a b := u16_or a b ha.1 ha.2 hb.1 hb.2

set_option maxRecDepth 100000 in
set_option maxHeartbeats 4000000 in
theorem swrite_no (r : Hm.RowC) (o d s t i : Int) (w : World) (ho : ¬ o = r.op) (hr : Hm.RowOk r) :
    Calls Tryd.prog 72 #[rowRV r, .agg #[.int .i64 o, .int .i64 d, .int .i64 s, .int .i64 t, .int .i64 i]] w fun e w' => e = .returned (wrV (Hm.wrP r o d s t i) (Hm.okC r o d s t i)) ∧ Below w.heap.size w w' := by
  have H1 : Hid (Hm.wrP r o d s t i = 0) := by simp [Hid, Hm.wrP, ho]
  have H2 : Hid (Hm.okC r o d s t i = false) := by simp [Hid, Hm.okC, ho]
  obtain ⟨o0, o1⟩ := hr.op
  unfold rowRV
  go_enter Tryd.func72, Tryd.ntmps72
  go_wp2
  go_ret2
  exact ⟨ret_wr H1.out.symm H2.out.symm, ((Below.refl _ _).alloc (Nat.le_refl _) _).alloc (by simp) _⟩

set_option maxRecDepth 100000 in
set_option maxHeartbeats 8000000 in
theorem swrite_yes (r : Hm.RowC) (o d s t i : Int) (w : World) (ho : o = r.op) (ht : Tab w) (hr : Hm.RowOk r) (hnt : r.not' = 0 ∨ r.not' = 1 ∨ r.not' = 2 ∨ r.not' = 5 ∨ r.not' = 8 ∨ r.not' = 16) :
    Calls Tryd.prog 72 #[rowRV r, .agg #[.int .i64 o, .int .i64 d, .int .i64 s, .int .i64 t, .int .i64 i]] w fun e w' => e = .returned (wrV (Hm.wrP r o d s t i) (Hm.okC r o d s t i)) ∧ Below w.heap.size w w' := by
  have H1 : Hid (Hm.wrP r o d s t i = Hm.parC r d s t i) := by simp [Hid, Hm.wrP, ho]
  have H2 : Hid (Hm.okC r o d s t i = (Hm.readK r (Hm.parC r d s t i) && Hm.sameF r (Hm.parC r d s t i) o d s t i)) := by simp [Hid, Hm.okC, ho]
  subst ho
  obtain ⟨o0, o1⟩ := hr.op
  have hst := WrAt.start r r.op d s t i w ht
  have hglob : 1 < w.heap.size := ht.1
  have u0 : Hm.U16 r.bits := hr.bits
  have u1 := Hm.orI_u16 u0 (Hm.putP_u16 r.rd d)
  have u2 := Hm.orI_u16 u1 (Hm.putP_u16 r.rs1 s)
  have u3 := Hm.orI_u16 u2 (Hm.putP_u16 r.rs2 t)
  have hp := Hm.parC_u16 hr d s t i
  have HP : Hid (bits .or .u16 (bits .or .u16 (bits .or .u16 (bits .or .u16 r.bits (Hm.putP r.rd d)) (Hm.putP r.rs1 s)) (Hm.putP r.rs2 t)) (Hm.sputC r.imm i) = Hm.parC r d s t i) := by
    show _ = _
    rw [or_u16 u0 (Hm.putP_u16 _ _), or_u16 u1 (Hm.putP_u16 _ _), or_u16 u2 (Hm.putP_u16 _ _), or_u16 u3 (Hm.sputC_u16 _ _)]; rfl
  have HR : Hid (Hm.RowOk r) := hr
  clear u0 u1 u2 u3 ht hr
  unfold rowRV
  go_enter Tryd.func72, Tryd.ntmps72
  go_wp2
  generalize (w.alloc (.cells #[.int .u16 r.mask, .int .u16 r.bits, .int .u8 r.op, .int .u8 r.rd, .int .u8 r.rs1, .int .u8 r.rs2, .int .u8 r.imm, .int .u8 r.not'] 121)).alloc (.cells #[.int .i64 r.op, .int .i64 d, .int .i64 s, .int .i64 t, .int .i64 i] 23) = W0 at *
  refine wp_region_held_drew (S := WrAt r r.op d s t i w) (by kernel_rfl) (hst.step (Below.refl _ _).drew (by have := hst.size; omega)) (fun hHeld => ?_)
  generalize W0.drew = W1 at *
  refine' takeH_0 _ (by kernel_rfl) (by kernel_rfl) (by kernel_rfl) (fun _ _ _ h => h) (by rfl) ?zy1 hHeld ?zr1
  case zy1 => (intro w hSw; obtain ⟨_, _, b1, b2, b3, b4, b5, b6, i1, i2, i3, i4, _, _, _⟩ := hSw; go_simp; try with_reducible rfl)
  (try simp only [Act.put, List.setIfInBounds_toArray, List.set_cons_zero, List.set_cons_succ])
  refine' takeH_1 _ (by kernel_rfl) (by kernel_rfl) (by kernel_rfl) (fun _ _ _ h => h) (by rfl) ?zy2 hHeld ?zr2
  case zy2 => (intro w hSw; obtain ⟨_, _, b1, b2, b3, b4, b5, b6, i1, i2, i3, i4, _, _, _⟩ := hSw; go_simp; try with_reducible rfl)
  (try simp only [Act.put, List.setIfInBounds_toArray, List.set_cons_zero, List.set_cons_succ])
  refine' takeH_2 _ (by kernel_rfl) (by kernel_rfl) (by kernel_rfl) (fun _ _ _ h => h) (by rfl) ?zy3 hHeld ?zr3
  case zy3 => (intro w hSw; obtain ⟨_, _, b1, b2, b3, b4, b5, b6, i1, i2, i3, i4, _, _, _⟩ := hSw; go_simp; try with_reducible rfl)
  (try simp only [Act.put, List.setIfInBounds_toArray, List.set_cons_zero, List.set_cons_succ])
  refine' takeH_3 _ (by kernel_rfl) (by kernel_rfl) (by kernel_rfl) (fun _ _ _ h => h) (by rfl) ?zy4 hHeld ?zr4
  case zy4 => (intro w hSw; obtain ⟨_, _, b1, b2, b3, b4, b5, b6, i1, i2, i3, i4, _, _, _⟩ := hSw; go_simp; try with_reducible rfl)
  (try simp only [Act.put, List.setIfInBounds_toArray, List.set_cons_zero, List.set_cons_succ])
  refine' takeH_4 _ (by kernel_rfl) (by kernel_rfl) (by kernel_rfl) (fun _ _ _ h => h) (by rfl) ?zy5 hHeld ?zr5
  case zy5 => (intro w hSw; obtain ⟨_, _, b1, b2, b3, b4, b5, b6, i1, i2, i3, i4, _, _, _⟩ := hSw; go_simp; try with_reducible rfl)
  (try simp only [Act.put, List.setIfInBounds_toArray, List.set_cons_zero, List.set_cons_succ])
  refine' takeH_5 _ (by kernel_rfl) (by kernel_rfl) (by kernel_rfl) (fun _ _ _ h => h) (by rfl) ?zy6 hHeld ?zr6
  case zy6 => (intro w hSw; obtain ⟨_, _, b1, b2, b3, b4, b5, b6, i1, i2, i3, i4, _, _, _⟩ := hSw; go_simp; try with_reducible rfl)
  (try simp only [Act.put, List.setIfInBounds_toArray, List.set_cons_zero, List.set_cons_succ])
  refine' takeH_8 _ (by kernel_rfl) (by kernel_rfl) (by kernel_rfl) (fun _ _ _ h => h) (by rfl) ?zy7 hHeld ?zr7
  case zy7 => (intro w hSw; obtain ⟨_, _, b1, b2, b3, b4, b5, b6, i1, i2, i3, i4, _, _, _⟩ := hSw; go_simp; try with_reducible rfl)
  (try simp only [Act.put, List.setIfInBounds_toArray, List.set_cons_zero, List.set_cons_succ])
  refine' takeH_9 _ (by kernel_rfl) (by kernel_rfl) (by kernel_rfl) (fun _ _ _ h => h) (by rfl) ?zy8 hHeld ?zr8
  case zy8 => (intro w hSw; obtain ⟨_, _, b1, b2, b3, b4, b5, b6, i1, i2, i3, i4, _, _, _⟩ := hSw; go_simp; try with_reducible rfl)
  (try simp only [Act.put, List.setIfInBounds_toArray, List.set_cons_zero, List.set_cons_succ])
  refine' takeH_10 _ (by kernel_rfl) (by kernel_rfl) (by kernel_rfl) (fun _ _ _ h => h) (by rfl) ?zy9 hHeld ?zr9
  case zy9 => (intro w hSw; obtain ⟨_, _, b1, b2, b3, b4, b5, b6, i1, i2, i3, i4, _, _, _⟩ := hSw; go_simp; try with_reducible rfl)
  (try simp only [Act.put, List.setIfInBounds_toArray, List.set_cons_zero, List.set_cons_succ])
  refine' takeH_11 _ (by kernel_rfl) (by kernel_rfl) (by kernel_rfl) (fun _ _ _ h => h) (by rfl) ?zy10 hHeld ?zr10
  case zy10 => (intro w hSw; obtain ⟨_, _, b1, b2, b3, b4, b5, b6, i1, i2, i3, i4, _, _, _⟩ := hSw; go_simp; try with_reducible rfl)
  (try simp only [Act.put, List.setIfInBounds_toArray, List.set_cons_zero, List.set_cons_succ])
  refine' takeH_14 _ (by kernel_rfl) (by kernel_rfl) (by kernel_rfl) (fun _ _ _ h => h) (by rfl) ?zy11 hHeld ?zr11
  case zy11 => (intro w hSw; obtain ⟨_, _, b1, b2, b3, b4, b5, b6, i1, i2, i3, i4, _, _, _⟩ := hSw; go_simp; try with_reducible rfl)
  (try simp only [Act.put, List.setIfInBounds_toArray, List.set_cons_zero, List.set_cons_succ])
  refine' takeH_15 _ (by kernel_rfl) (by kernel_rfl) (by kernel_rfl) (fun _ _ _ h => h) (by rfl) ?zy12 hHeld ?zr12
  case zy12 => (intro w hSw; obtain ⟨_, _, b1, b2, b3, b4, b5, b6, i1, i2, i3, i4, _, _, _⟩ := hSw; go_simp; try with_reducible rfl)
  (try simp only [Act.put, List.setIfInBounds_toArray, List.set_cons_zero, List.set_cons_succ])
  refine' takeH_16 _ (by kernel_rfl) (by kernel_rfl) (by kernel_rfl) (fun _ _ _ h => h) (by rfl) ?zy13 hHeld ?zr13
  case zy13 => (intro w hSw; obtain ⟨_, _, b1, b2, b3, b4, b5, b6, i1, i2, i3, i4, _, _, _⟩ := hSw; go_simp; try with_reducible rfl)
  (try simp only [Act.put, List.setIfInBounds_toArray, List.set_cons_zero, List.set_cons_succ])
  refine' takeH_17 _ (by kernel_rfl) (by kernel_rfl) (by kernel_rfl) (fun _ _ _ h => h) (by rfl) ?zy14 hHeld ?zr14
  case zy14 => (intro w hSw; obtain ⟨_, _, b1, b2, b3, b4, b5, b6, i1, i2, i3, i4, _, _, _⟩ := hSw; go_simp; try with_reducible rfl)
  (try simp only [Act.put, List.setIfInBounds_toArray, List.set_cons_zero, List.set_cons_succ])
  refine' takeH_20 _ (by kernel_rfl) (by kernel_rfl) (by kernel_rfl) (fun _ _ _ h => h) (by rfl) ?zy15 hHeld ?zr15
  case zy15 => (intro w hSw; obtain ⟨_, _, b1, b2, b3, b4, b5, b6, i1, i2, i3, i4, _, _, _⟩ := hSw; go_simp; try with_reducible rfl)
  (try simp only [Act.put, List.setIfInBounds_toArray, List.set_cons_zero, List.set_cons_succ])
  refine' takeH_21 _ (by kernel_rfl) (by kernel_rfl) (by kernel_rfl) (fun _ _ _ h => h) (by rfl) ?zy16 hHeld ?zr16
  case zy16 => (intro w hSw; obtain ⟨_, _, b1, b2, b3, b4, b5, b6, i1, i2, i3, i4, _, _, _⟩ := hSw; go_simp; try with_reducible rfl)
  (try simp only [Act.put, List.setIfInBounds_toArray, List.set_cons_zero, List.set_cons_succ])
  refine' takeH_22 _ (by kernel_rfl) (by kernel_rfl) (by kernel_rfl) (fun _ _ _ h => h) (by rfl) ?zy17 hHeld ?zr17
  case zy17 => (intro w hSw; obtain ⟨_, _, b1, b2, b3, b4, b5, b6, i1, i2, i3, i4, _, _, _⟩ := hSw; go_simp; try with_reducible rfl)
  (try simp only [Act.put, List.setIfInBounds_toArray, List.set_cons_zero, List.set_cons_succ])
  refine' takeH_23 _ (by kernel_rfl) (by kernel_rfl) (by kernel_rfl) (fun _ _ _ h => h) (by rfl) ?zy18 hHeld ?zr18
  case zy18 => (intro w hSw; obtain ⟨_, _, b1, b2, b3, b4, b5, b6, i1, i2, i3, i4, _, _, _⟩ := hSw; go_simp; try with_reducible rfl)
  (try simp only [Act.put, List.setIfInBounds_toArray, List.set_cons_zero, List.set_cons_succ])
  refine runH_6 (by kernel_rfl) (fun K hK => ?_)
  go_simp
  go_at_call 92
  refine (pput_any _ _ _ HR.out.rd.1 HR.out.rd.2).mono ?_
  rintro e w19 ⟨rfl, hb⟩
  go_wp2_with fail
  refine hK.out _ _ ?zs19 (fun hHeld => ?zr19)
  case zs19 => exact hHeld.step hb hHeld.size
  clear hb hK K
  (try simp only [Act.put, List.setIfInBounds_toArray, List.set_cons_zero, List.set_cons_succ])
  refine' takeH_7 _ (by kernel_rfl) (by kernel_rfl) (by kernel_rfl) (fun _ _ _ h => h) (by rfl) ?zy20 hHeld ?zr20
  case zy20 => (intro w hSw; obtain ⟨_, _, b1, b2, b3, b4, b5, b6, i1, i2, i3, i4, _, _, _⟩ := hSw; go_simp; try with_reducible rfl)
  (try simp only [Act.put, List.setIfInBounds_toArray, List.set_cons_zero, List.set_cons_succ])
  refine runH_12 (by kernel_rfl) (fun K hK => ?_)
  go_simp
  go_at_call 92
  refine (pput_any _ _ _ HR.out.rs1.1 HR.out.rs1.2).mono ?_
  rintro e w21 ⟨rfl, hb⟩
  go_wp2_with fail
  refine hK.out _ _ ?zs21 (fun hHeld => ?zr21)
  case zs21 => exact hHeld.step hb hHeld.size
  clear hb hK K
  (try simp only [Act.put, List.setIfInBounds_toArray, List.set_cons_zero, List.set_cons_succ])
  refine' takeH_13 _ (by kernel_rfl) (by kernel_rfl) (by kernel_rfl) (fun _ _ _ h => h) (by rfl) ?zy22 hHeld ?zr22
  case zy22 => (intro w hSw; obtain ⟨_, _, b1, b2, b3, b4, b5, b6, i1, i2, i3, i4, _, _, _⟩ := hSw; go_simp; try with_reducible rfl)
  (try simp only [Act.put, List.setIfInBounds_toArray, List.set_cons_zero, List.set_cons_succ])
  refine runH_18 (by kernel_rfl) (fun K hK => ?_)
  go_simp
  go_at_call 92
  refine (pput_any _ _ _ HR.out.rs2.1 HR.out.rs2.2).mono ?_
  rintro e w23 ⟨rfl, hb⟩
  go_wp2_with fail
  refine hK.out _ _ ?zs23 (fun hHeld => ?zr23)
  case zs23 => exact hHeld.step hb hHeld.size
  clear hb hK K
  (try simp only [Act.put, List.setIfInBounds_toArray, List.set_cons_zero, List.set_cons_succ])
  refine' takeH_19 _ (by kernel_rfl) (by kernel_rfl) (by kernel_rfl) (fun _ _ _ h => h) (by rfl) ?zy24 hHeld ?zr24
  case zy24 => (intro w hSw; obtain ⟨_, _, b1, b2, b3, b4, b5, b6, i1, i2, i3, i4, _, _, _⟩ := hSw; go_simp; try with_reducible rfl)
  (try simp only [Act.put, List.setIfInBounds_toArray, List.set_cons_zero, List.set_cons_succ])
  refine runH_24 (by kernel_rfl) (fun K hK => ?_)
  go_simp
  go_at_call 93
  refine (sput_any _ _ _ HR.out.imm.1 HR.out.imm.2).mono ?_
  rintro e w25 ⟨rfl, hb⟩
  go_wp2_with fail
  refine hK.out _ _ ?zs25 (fun hHeld => ?zr25)
  case zs25 => exact hHeld.step hb hHeld.size
  clear hb hK K
  (try simp only [Act.put, List.setIfInBounds_toArray, List.set_cons_zero, List.set_cons_succ])
  refine' takeH_25 _ (by kernel_rfl) (by kernel_rfl) (by kernel_rfl) (fun _ _ _ h => h) (by rfl) ?zy26 hHeld ?zr26
  case zy26 => (intro w hSw; obtain ⟨_, _, b1, b2, b3, b4, b5, b6, i1, i2, i3, i4, _, _, _⟩ := hSw; go_simp; try with_reducible rfl)
  (try simp only [Act.put, List.setIfInBounds_toArray, List.set_cons_zero, List.set_cons_succ])
  refine' takeH_26 _ (by kernel_rfl) (by kernel_rfl) (by kernel_rfl) (fun _ _ _ h => h) (by rfl) ?zy27 hHeld ?zr27
  case zy27 => (intro w hSw; obtain ⟨_, _, b1, b2, b3, b4, b5, b6, i1, i2, i3, i4, _, _, _⟩ := hSw; go_simp; try with_reducible rfl)
  (try simp only [Act.put, List.setIfInBounds_toArray, List.set_cons_zero, List.set_cons_succ])
  refine wpAnyH_done (by kernel_rfl) ?_ _
  rw [HP.out]
  have HROW : Hid (w25.rangeAt w.heap.size 0 (#[.int .u16 r.mask, .int .u16 r.bits, .int .u8 r.op, .int .u8 r.rd, .int .u8 r.rs1, .int .u8 r.rs2, .int .u8 r.imm, .int .u8 r.not'] : Array Value).toList) := hHeld.row
  have HX : Hid _ := hHeld
  clear hHeld hst
  generalize Hm.parC r d s t i = q at *
  obtain ⟨q0, q1⟩ := hp
  go_wp2_with ((with_reducible refine' wl_load_at HROW.out ?zq1 ?zq2 ?zq3 ?zq4 ?zq5); (case zq1 => rfl); (case zq2 => exact Tryd.underlying121); (case zq3 => rfl); (case zq4 => kernel_rfl))
  refine (sread_any r q _ HX.out.tab HR.out hnt q0 q1).mono ?_
  rintro e wr ⟨rfl, hb⟩
  have hX2 := HX.out.step hb HX.out.size
  have i0 := hX2.i0
  have i1 := hX2.i1
  have i2 := hX2.i2
  have i3 := hX2.i3
  have i4 := hX2.i4
  have HB : Hid (Below w.heap.size w wr) := hX2.below
  have hz := hX2.size
  clear hb hX2 HX HROW HP
  have H3 : Hid (Hm.sameF r q r.op d s t i = (Hm.readO r q == r.op && (Hm.readF r q).d == d && (Hm.readF r q).r == s && (Hm.readF r q).t == t && (Hm.readF r q).imm == i)) := rfl
  generalize Hm.readO r q = ro at *
  generalize Hm.readF r q = rf at *
  obtain ⟨fd, fr, ft, fi⟩ := rf
  cases hk : Hm.readK r q with
  | false =>
    unfold instOk
    go_wp2
    go_quiet (fail)
    go_wp2
    go_ret2
    exact ⟨ret_wr H1.out.symm (by rw [H2.out, hk]; rfl), below_drewN (HB.out.alloc (by omega) _) _⟩
  | true =>
    unfold instOk
    go_wp2
    have j0 : (wr.alloc (.cells #[.int .i64 ro, .int .i64 fd, .int .i64 fr, .int .i64 ft, .int .i64 fi] 23)).cell? ⟨w.heap.size + 1, 0, none⟩ = some (.int .i64 r.op) := by rw [World.cell?_alloc_lt _ _ _ (by show w.heap.size + 1 < wr.heap.size; omega)]; exact i0
    have j1 : (wr.alloc (.cells #[.int .i64 ro, .int .i64 fd, .int .i64 fr, .int .i64 ft, .int .i64 fi] 23)).cell? ⟨w.heap.size + 1, 1, none⟩ = some (.int .i64 d) := by rw [World.cell?_alloc_lt _ _ _ (by show w.heap.size + 1 < wr.heap.size; omega)]; exact i1
    have j2 : (wr.alloc (.cells #[.int .i64 ro, .int .i64 fd, .int .i64 fr, .int .i64 ft, .int .i64 fi] 23)).cell? ⟨w.heap.size + 1, 2, none⟩ = some (.int .i64 s) := by rw [World.cell?_alloc_lt _ _ _ (by show w.heap.size + 1 < wr.heap.size; omega)]; exact i2
    have j3 : (wr.alloc (.cells #[.int .i64 ro, .int .i64 fd, .int .i64 fr, .int .i64 ft, .int .i64 fi] 23)).cell? ⟨w.heap.size + 1, 3, none⟩ = some (.int .i64 t) := by rw [World.cell?_alloc_lt _ _ _ (by show w.heap.size + 1 < wr.heap.size; omega)]; exact i3
    have j4 : (wr.alloc (.cells #[.int .i64 ro, .int .i64 fd, .int .i64 fr, .int .i64 ft, .int .i64 fi] 23)).cell? ⟨w.heap.size + 1, 4, none⟩ = some (.int .i64 i) := by rw [World.cell?_alloc_lt _ _ _ (by show w.heap.size + 1 < wr.heap.size; omega)]; exact i4
    have k0 : (wr.alloc (.cells #[.int .i64 ro, .int .i64 fd, .int .i64 fr, .int .i64 ft, .int .i64 fi] 23)).cell? ⟨wr.heap.size, 0, none⟩ = some (.int .i64 ro) := by simp
    have k1 : (wr.alloc (.cells #[.int .i64 ro, .int .i64 fd, .int .i64 fr, .int .i64 ft, .int .i64 fi] 23)).cell? ⟨wr.heap.size, 1, none⟩ = some (.int .i64 fd) := by simp
    have k2 : (wr.alloc (.cells #[.int .i64 ro, .int .i64 fd, .int .i64 fr, .int .i64 ft, .int .i64 fi] 23)).cell? ⟨wr.heap.size, 2, none⟩ = some (.int .i64 fr) := by simp
    have k3 : (wr.alloc (.cells #[.int .i64 ro, .int .i64 fd, .int .i64 fr, .int .i64 ft, .int .i64 fi] 23)).cell? ⟨wr.heap.size, 3, none⟩ = some (.int .i64 ft) := by simp
    have k4 : (wr.alloc (.cells #[.int .i64 ro, .int .i64 fd, .int .i64 fr, .int .i64 ft, .int .i64 fi] 23)).cell? ⟨wr.heap.size, 4, none⟩ = some (.int .i64 fi) := by simp
    have HB5 : Hid (Below w.heap.size w (wr.alloc (.cells #[.int .i64 ro, .int .i64 fd, .int .i64 fr, .int .i64 ft, .int .i64 fi] 23))) := HB.out.alloc (by omega) _
    generalize wr.alloc (.cells #[.int .i64 ro, .int .i64 fd, .int .i64 fr, .int .i64 ft, .int .i64 fi] 23) = W5 at *
    clear i0 i1 i2 i3 i4
    by_cases g0 : ro = r.op
    · subst g0
      by_cases g1 : fd = d
      · subst g1
        by_cases g2 : fr = s
        · subst g2
          by_cases g3 : ft = t
          · subst g3
            by_cases g4 : fi = i
            · subst g4
              go_quiet (fail)
              go_wp2
              go_ret2
              exact ⟨ret_wr H1.out.symm (by rw [H2.out, H3.out, hk]; simp_all), below_drewN HB5.out _⟩
            · go_quiet (fail)
              go_wp2
              go_ret2
              exact ⟨ret_wr H1.out.symm (by rw [H2.out, H3.out, hk]; simp_all), below_drewN HB5.out _⟩
          · go_quiet (fail)
            go_wp2
            go_ret2
            exact ⟨ret_wr H1.out.symm (by rw [H2.out, H3.out, hk]; simp_all), below_drewN HB5.out _⟩
        · go_quiet (fail)
          go_wp2
          go_ret2
          exact ⟨ret_wr H1.out.symm (by rw [H2.out, H3.out, hk]; simp_all), below_drewN HB5.out _⟩
      · go_quiet (fail)
        go_wp2
        go_ret2
        exact ⟨ret_wr H1.out.symm (by rw [H2.out, H3.out, hk]; simp_all), below_drewN HB5.out _⟩
    · go_quiet (fail)
      go_wp2
      go_ret2
      exact ⟨ret_wr H1.out.symm (by rw [H2.out, H3.out, hk]; simp_all), below_drewN HB5.out _⟩
end Go.Proofs.YtdcmdjeooklmjaaDoor

/-
  Walks: package code's Expand.
-/
namespace Go.Proofs.YtdcmdjeooklmjaaDoor
open Go.RowKit

/-- A goal that the walk lets be. -/
theorem unhid {p : Prop} (h : Hid p) : p := h
def rowRL (r : Hm.RowC) : Array Value := #[.int .u16 r.mask, .int .u16 r.bits, .int .u8 r.op, .int .u8 r.rd, .int .u8 r.rs1, .int .u8 r.rs2, .int .u8 r.imm, .int .u8 r.not']
/-- Both tables lie in their variables' blocks. -/
structure Tabs (w : World) : Prop where
  tab : Tab w
  lt : 0 < w.heap.size
  row : ∀ k, k < 26 → w.rangeAt 0 (k * 8) (rowRL (Hm.rowC k)).toList
theorem Tabs.below {B : Nat} {w w' : World} (h : Tabs w) (hb : Below B w w') (hB : w.heap.size ≤ B) : Tabs w' where
  tab := h.tab.below hb (Nat.lt_of_lt_of_le h.tab.1 hB)
  lt := Nat.lt_of_lt_of_le h.lt hb.size
  row := fun k hk j v hv => by rw [bcell hb _ _ (Nat.lt_of_lt_of_le h.lt hB)]; exact h.row k hk j v hv
theorem Tabs.alloc {w : World} (h : Tabs w) (o : Obj) : Tabs (w.alloc o) := h.below ((Below.refl _ _).alloc (Nat.le_refl _) o) (Nat.le_refl _)

set_option maxRecDepth 100000 in
set_option maxHeartbeats 4000000 in
theorem cexpand_any (x : Int) (w : World) (ht : Tabs w) (x0 : 0 ≤ x) (x1 : x < 65536) :
    Calls Tryd.prog 45 #[.int .u16 x] w fun e w' => e = .returned (decVal (Hm.expC x)) ∧ Below w.heap.size w w' := by
  have HT : Hid (Tabs w) := ht
  clear ht
  have hand : bits .and .u16 x 3 = x % 4 := by
    rw [u16_and x 3 x0 x1 (by decide) (by decide)]
    obtain ⟨n, rfl⟩ := Int.eq_ofNat_of_zero_le x0
    rw [Int.toNat_natCast, show (3 : Int).toNat = 2 ^ 2 - 1 from rfl, Nat.and_two_pow_sub_one_eq_mod]
    omega
  by_cases hw : x % 4 = 3
  · have HD : Hid (Hm.expC x = ⟨0, ⟨0, 0, 0, 0⟩, 3⟩) := by simp [Hid, Hm.expC, hw]
    have hand' : bits .and .u16 x 3 = 3 := by rw [hand, hw]
    clear hand
    go_enter Tryd.func45, Tryd.ntmps45
    go_wp2
    exact bodyPost_ret (v := decVal ⟨0, ⟨0, 0, 0, 0⟩, 3⟩) (by simp [results, Tryd.results45, go_sem, decVal]) rfl ⟨ret_dec (by rw [HD.out]), (Below.refl _ _).alloc (Nat.le_refl _) _⟩
  · have HE : Hid (Hm.expC x = Hm.expCFrom x 26 0) := by simp [Hid, Hm.expC, hw]
    have hand' : (bits .and .u16 x 3 == 3) = false := by rw [hand]; simpa using hw
    clear hand
    go_enter Tryd.func45, Tryd.ntmps45
    go_wp2
    go_loopw [11] (fun o wr => ∃ k : Nat, k ≤ 26 ∧ o = .int .i64 k ∧ Hm.expCFrom x (26 - k) k = Hm.expC x ∧ DecAt w wr) (fun o _ => 26 - (intOf o).toNat)
    case atStart => exact ⟨0, by omega, rfl, HE.out.symm, DecAt.start w⟩
    case round =>
      obtain ⟨k, hk, rfl, hd0, hat⟩ := hrel
      have HD : Hid (Hm.expCFrom x (26 - k) k = Hm.expC x) := hd0
      clear hd0
      by_cases hlt : k < 26
      · have HTr : Hid (Tabs wr) := HT.out.below hat.below (Nat.le_refl _)
        have HROW : Hid (wr.rangeAt 0 (k * 8) (rowRL (Hm.rowC k)).toList) := HTr.out.row k hlt
        have hgl := HTr.out.lt
        go_wp2_with ((with_reducible refine' wl_load_at HROW.out ?zq1 ?zq2 ?zq3 ?zq4 ?zq5); (case zq1 => rfl); (case zq2 => exact Tryd.underlying121); (case zq3 => rfl); (case zq4 => kernel_rfl))
        refine (sread_any (Hm.rowC k) x _ HTr.out.tab (Hm.row_ok hlt) (Hm.not_all hlt) x0 x1).mono ?_
        rintro e w1 ⟨rfl, hb⟩
        have hat1 := hat.step hb hat.size
        clear hb hat HROW hgl
        cases hr : Hm.readK (Hm.rowC k) x with
        | false =>
          have HD2 : Hid (Hm.expCFrom x (26 - (k + 1)) (k + 1) = Hm.expC x) := by
            have := HD.out
            rw [show 26 - k = (26 - (k + 1)) + 1 from by omega, Hm.expCFrom_no hr] at this
            exact this
          generalize Hm.readO (Hm.rowC k) x = ro at *
          generalize Hm.readF (Hm.rowC k) x = rf at *
          unfold instOk
          clear hr
          go_wp2
          go_roundw
          case rel => exact ⟨k + 1, by omega, by go_num, HD2.out, hat1.step ((Below.refl _ _).alloc (Nat.le_refl _) _) hat1.size⟩
          case measure => simp [intOf]; omega
        | true =>
          have hm : Hm.matchS (Hm.rowC k) x = true := by unfold Hm.readK at hr; cases h : Hm.matchS (Hm.rowC k) x <;> simp_all
          have HD2 : Hid (Hm.expC x = ⟨(Hm.rowC k).op, Hm.fldS (Hm.rowC k) x, 0⟩) := by
            have := HD.out
            rw [show 26 - k = (26 - (k + 1)) + 1 from by omega, Hm.expCFrom_yes hr] at this
            exact this.symm
          rw [show Hm.readO (Hm.rowC k) x = (Hm.rowC k).op by simp [Hm.readO, hm], show Hm.readF (Hm.rowC k) x = Hm.fldS (Hm.rowC k) x by simp [Hm.readF, hm]]
          clear hr hm
          have r0 := hat1.out 0 (by omega)
          have r1 := hat1.out 1 (by omega)
          have r2 := hat1.out 2 (by omega)
          have r3 := hat1.out 3 (by omega)
          have r4 := hat1.out 4 (by omega)
          have hfr := hat1.free
          have hz1 := hat1.size
          have HB4 : Hid (Below w.heap.size w w1) := hat1.below
          clear hat1
          generalize Hm.fldS (Hm.rowC k) x = fl at *
          generalize (Hm.rowC k).op = ro at *
          unfold instOk
          have j0 : (w1.alloc (.cells #[.int .i64 ro, .int .i64 fl.d, .int .i64 fl.r, .int .i64 fl.t, .int .i64 fl.imm] 23)).cell? ⟨w.heap.size, 0, none⟩ = some (.int .i64 0) := by rw [World.cell?_alloc_lt _ _ _ hz1]; exact r0
          have j1 : (w1.alloc (.cells #[.int .i64 ro, .int .i64 fl.d, .int .i64 fl.r, .int .i64 fl.t, .int .i64 fl.imm] 23)).cell? ⟨w.heap.size, 1, none⟩ = some (.int .i64 0) := by rw [World.cell?_alloc_lt _ _ _ hz1]; exact r1
          have j2 : (w1.alloc (.cells #[.int .i64 ro, .int .i64 fl.d, .int .i64 fl.r, .int .i64 fl.t, .int .i64 fl.imm] 23)).cell? ⟨w.heap.size, 2, none⟩ = some (.int .i64 0) := by rw [World.cell?_alloc_lt _ _ _ hz1]; exact r2
          have j3 : (w1.alloc (.cells #[.int .i64 ro, .int .i64 fl.d, .int .i64 fl.r, .int .i64 fl.t, .int .i64 fl.imm] 23)).cell? ⟨w.heap.size, 3, none⟩ = some (.int .i64 0) := by rw [World.cell?_alloc_lt _ _ _ hz1]; exact r3
          have j4 : (w1.alloc (.cells #[.int .i64 ro, .int .i64 fl.d, .int .i64 fl.r, .int .i64 fl.t, .int .i64 fl.imm] 23)).cell? ⟨w.heap.size, 4, none⟩ = some (.int .i64 0) := by rw [World.cell?_alloc_lt _ _ _ hz1]; exact r4
          have k0 : (w1.alloc (.cells #[.int .i64 ro, .int .i64 fl.d, .int .i64 fl.r, .int .i64 fl.t, .int .i64 fl.imm] 23)).cell? ⟨w1.heap.size, 0, none⟩ = some (.int .i64 ro) := by simp
          have k1 : (w1.alloc (.cells #[.int .i64 ro, .int .i64 fl.d, .int .i64 fl.r, .int .i64 fl.t, .int .i64 fl.imm] 23)).cell? ⟨w1.heap.size, 1, none⟩ = some (.int .i64 fl.d) := by simp
          have k2 : (w1.alloc (.cells #[.int .i64 ro, .int .i64 fl.d, .int .i64 fl.r, .int .i64 fl.t, .int .i64 fl.imm] 23)).cell? ⟨w1.heap.size, 2, none⟩ = some (.int .i64 fl.r) := by simp
          have k3 : (w1.alloc (.cells #[.int .i64 ro, .int .i64 fl.d, .int .i64 fl.r, .int .i64 fl.t, .int .i64 fl.imm] 23)).cell? ⟨w1.heap.size, 3, none⟩ = some (.int .i64 fl.t) := by simp
          have k4 : (w1.alloc (.cells #[.int .i64 ro, .int .i64 fl.d, .int .i64 fl.r, .int .i64 fl.t, .int .i64 fl.imm] 23)).cell? ⟨w1.heap.size, 4, none⟩ = some (.int .i64 fl.imm) := by simp
          have hf5 : ∀ i, (w1.alloc (.cells #[.int .i64 ro, .int .i64 fl.d, .int .i64 fl.r, .int .i64 fl.t, .int .i64 fl.imm] 23)).frozen? ⟨w.heap.size, i, none⟩ = false := fun i => by
            have := ((Below.refl w1.heap.size w1).alloc (Nat.le_refl _) (.cells #[.int .i64 ro, .int .i64 fl.d, .int .i64 fl.r, .int .i64 fl.t, .int .i64 fl.imm] 23)).frozen (p := ⟨w.heap.size, i, none⟩) hz1
            rw [this]; exact hfr i
          have HB5 : Hid (Below w.heap.size w (w1.alloc (.cells #[.int .i64 ro, .int .i64 fl.d, .int .i64 fl.r, .int .i64 fl.t, .int .i64 fl.imm] 23))) := HB4.out.alloc (by omega) _
          clear r0 r1 r2 r3 r4 hfr
          go_wp2_with ((with_reducible refine' wl_load_new (d := _) ?zw1 ?zw2 ?zw3 ?zw4 ?zw5); (case zw1 => rfl); (case zw2 => exact Tryd.underlying23); (case zw3 => rfl); (case zw4 => kernel_rfl); (refine unhid ?_))
          unfold Hid
          generalize w1.alloc (.cells #[.int .i64 ro, .int .i64 fl.d, .int .i64 fl.r, .int .i64 fl.t, .int .i64 fl.imm] 23) = W5 at *
          go_wp2
          exact bodyPost_ret (v := decVal ⟨ro, fl, 0⟩) (by simp [results, Tryd.results45, go_sem, decVal, j0, j1, j2, j3, j4]) rfl ⟨ret_dec (by rw [HD2.out]), below_five HB5.out _ _ _ _ _⟩
      · have HD2 : Hid (Hm.expC x = ⟨0, ⟨0, 0, 0, 0⟩, 2⟩) := by
          have := HD.out
          rw [show 26 - k = 0 from by omega] at this
          exact this.symm
        have r0 := hat.out 0 (by omega)
        have r1 := hat.out 1 (by omega)
        have r2 := hat.out 2 (by omega)
        have r3 := hat.out 3 (by omega)
        have r4 := hat.out 4 (by omega)
        have hfr := hat.free
        have HB4 : Hid (Below w.heap.size w wr) := hat.below
        clear hat HD
        go_wp2
        exact bodyPost_ret (v := decVal ⟨0, ⟨0, 0, 0, 0⟩, 2⟩) (by simp [results, Tryd.results45, go_sem, decVal, r0, r1, r2, r3, r4]) rfl ⟨ret_dec (by rw [HD2.out]), below_five HB4.out _ _ _ _ _⟩
end Go.Proofs.YtdcmdjeooklmjaaDoor
