/-
  B9 BB in one text.
-/
import Derived.Test.YtdcmdjeooklmjaaDoorGV
import Derived.Test.YtdcmdjeooklmjaaDoorGO
import Derived.Test.YtdcmdjeooklmjaaDoorGM
import Derived.Test.YtdcmdjeooklmjaaDoorGH3
set_option linter.unusedVariables false
set_option linter.unusedSimpArgs false
/-
  Walks: package code's shortRow.read (made by gen_B9.py).
-/
namespace Go.Proofs.YtdcmdjeooklmjaaDoor
open Go.RowKit

def rowRV (r : Hm.RowC) : Value := .agg #[.int .u16 r.mask, .int .u16 r.bits, .int .u8 r.op, .int .u8 r.rd, .int .u8 r.rs1, .int .u8 r.rs2, .int .u8 r.imm, .int .u8 r.not']
def instOk (op : Int) (f : Hm.Flds) (b : Bool) : Value := .tuple #[.agg #[.int .i64 op, .int .i64 f.d, .int .i64 f.r, .int .i64 f.t, .int .i64 f.imm], .bool b]
/-- What stays as it was while read goes on: the row's block, the result's block. -/
structure RdAt (rd rs1 rs2 imm nt : Int) (w W : World) : Prop where
  below : Below w.heap.size w W
  size : w.heap.size + 2 ≤ W.heap.size
  c3 : W.cell? ⟨w.heap.size, 3, none⟩ = some (.int .u8 rd)
  c4 : W.cell? ⟨w.heap.size, 4, none⟩ = some (.int .u8 rs1)
  c5 : W.cell? ⟨w.heap.size, 5, none⟩ = some (.int .u8 rs2)
  c6 : W.cell? ⟨w.heap.size, 6, none⟩ = some (.int .u8 imm)
  c7 : W.cell? ⟨w.heap.size, 7, none⟩ = some (.int .u8 nt)
  out : ∀ i, i < 5 → W.cell? ⟨w.heap.size + 1, i, none⟩ = some (.int .i64 0)
  free : ∀ i, W.frozen? ⟨w.heap.size + 1, i, none⟩ = false
  tab : Tab W
theorem RdAt.step {rd rs1 rs2 imm nt : Int} {w W W' : World} {B : Nat} (h : RdAt rd rs1 rs2 imm nt w W) (hb : Below B W W') (hB : w.heap.size + 2 ≤ B) (ht : 1 < w.heap.size := by assumption) : RdAt rd rs1 rs2 imm nt w W' where
  below := h.below.trans (hb.mono (by omega))
  size := by have := hb.size; have := h.size; omega
  c3 := by rw [bcell hb _ _ (by omega)]; exact h.c3
  c4 := by rw [bcell hb _ _ (by omega)]; exact h.c4
  c5 := by rw [bcell hb _ _ (by omega)]; exact h.c5
  c6 := by rw [bcell hb _ _ (by omega)]; exact h.c6
  c7 := by rw [bcell hb _ _ (by omega)]; exact h.c7
  out := fun i hi => by rw [bcell hb _ _ (by omega)]; exact h.out i hi
  free := fun i => by rw [hb.frozen (p := ⟨w.heap.size + 1, i, none⟩) (by show w.heap.size + 1 < B; omega)]; exact h.free i
  tab := h.tab.below hb (by omega)
/-- The block of the variable i, as it was made. -/
structure AlAt (w : World) (b : Nat) (W : World) : Prop where
  le : w.heap.size + 2 ≤ b
  lt : b < W.heap.size
  out : ∀ i, i < 5 → W.cell? ⟨b, i, none⟩ = some (.int .i64 0)
  free : ∀ i, W.frozen? ⟨b, i, none⟩ = false
theorem AlAt.step {w W W' : World} {b B : Nat} (h : AlAt w b W) (hb : Below B W W') (hB : b < B) : AlAt w b W' where
  le := h.le
  lt := by have := hb.size; have := h.lt; omega
  out := fun i hi => by rw [bcell hb _ _ hB]; exact h.out i hi
  free := fun i => by rw [hb.frozen (p := ⟨b, i, none⟩) hB]; exact h.free i
theorem AlAt.start {rd rs1 rs2 imm nt : Int} {w W : World} (h : RdAt rd rs1 rs2 imm nt w W) : AlAt w W.heap.size (W.alloc (.cells #[.int .i64 0, .int .i64 0, .int .i64 0, .int .i64 0, .int .i64 0] 23)) where
  le := h.size
  lt := by simp
  out := by
    intro i hi
    have hi' : i = 0 ∨ i = 1 ∨ i = 2 ∨ i = 3 ∨ i = 4 := by omega
    rcases hi' with rfl | rfl | rfl | rfl | rfl <;> simp
  free := by intro i; simp
theorem RdAt.start (mask bts op rd rs1 rs2 imm nt : Int) (w : World) (ht : Tab w) : RdAt rd rs1 rs2 imm nt w ((w.alloc (.cells #[.int .u16 mask, .int .u16 bts, .int .u8 op, .int .u8 rd, .int .u8 rs1, .int .u8 rs2, .int .u8 imm, .int .u8 nt] 121)).alloc (.cells #[.int .i64 0, .int .i64 0, .int .i64 0, .int .i64 0, .int .i64 0] 23)) where
  below := ((Below.refl _ _).alloc (Nat.le_refl _) _).alloc (by simp) _
  size := by simp
  c3 := by simp
  c4 := by simp
  c5 := by simp
  c6 := by simp
  c7 := by simp
  out := by
    intro i hi
    have hi' : i = 0 ∨ i = 1 ∨ i = 2 ∨ i = 3 ∨ i = 4 := by omega
    rcases hi' with rfl | rfl | rfl | rfl | rfl <;> simp
  free := by intro i; simp
  tab := (ht.alloc _).alloc _
/-- What region 5 begins with: the variable i is filled. -/
structure TlAt (nt op d r t v : Int) (w : World) (b : Nat) (W : World) : Prop where
  below : Below w.heap.size w W
  le : w.heap.size + 2 ≤ b
  lt : b < W.heap.size
  c7 : W.cell? ⟨w.heap.size, 7, none⟩ = some (.int .u8 nt)
  e0 : W.cell? ⟨b, 0, none⟩ = some (.int .i64 op)
  e1 : W.cell? ⟨b, 1, none⟩ = some (.int .i64 d)
  e2 : W.cell? ⟨b, 2, none⟩ = some (.int .i64 r)
  e3 : W.cell? ⟨b, 3, none⟩ = some (.int .i64 t)
  e4 : W.cell? ⟨b, 4, none⟩ = some (.int .i64 v)
  out : ∀ i, i < 5 → ∃ n : Int, W.cell? ⟨w.heap.size + 1, i, none⟩ = some (.int .i64 n)
  free : ∀ i, W.frozen? ⟨w.heap.size + 1, i, none⟩ = false
theorem TlAt.step {nt op d r t v : Int} {w W W' : World} {b B : Nat} (h : TlAt nt op d r t v w b W) (hb : Below B W W') (hB : b < B) : TlAt nt op d r t v w b W' where
  below := h.below.trans (hb.mono (by have := h.le; omega))
  le := h.le
  lt := by have := hb.size; have := h.lt; omega
  c7 := by rw [bcell hb _ _ (by have := h.le; omega)]; exact h.c7
  e0 := by rw [bcell hb _ _ hB]; exact h.e0
  e1 := by rw [bcell hb _ _ hB]; exact h.e1
  e2 := by rw [bcell hb _ _ hB]; exact h.e2
  e3 := by rw [bcell hb _ _ hB]; exact h.e3
  e4 := by rw [bcell hb _ _ hB]; exact h.e4
  out := fun i hi => by rw [bcell hb _ _ (by have := h.le; omega)]; exact h.out i hi
  free := fun i => by rw [hb.frozen (p := ⟨w.heap.size + 1, i, none⟩) (by have := h.le; show w.heap.size + 1 < B; omega)]; exact h.free i
theorem sc_int {W : World} {a a' : Addr} {v : Int} (h : ∃ n : Int, W.cell? a' = some (.int .i64 n)) : ∃ n : Int, (W.setCell a (.int .i64 v)).cell? a' = some (.int .i64 n) := by
  obtain ⟨n, h⟩ := h
  by_cases e : a = a'
  · subst e; exact ⟨v, World.cell?_setCell_same _ _ _ h⟩
  · exact ⟨n, by rw [World.cell?_setCell_other _ _ _ _ e]; exact h⟩
theorem sc_o {W : World} {b : Nat} {v : Value} (i j : Nat) (h : i ≠ j) : (W.setCell ⟨b, i, none⟩ v).cell? ⟨b, j, none⟩ = W.cell? ⟨b, j, none⟩ :=
  World.cell?_setCell_other _ _ _ _ (by simp [h])
theorem TlAt.start {rd rs1 rs2 imm nt op d r t v : Int} {w W : World} {b : Nat} (h : RdAt rd rs1 rs2 imm nt w W) (ha : AlAt w b W) :
    TlAt nt op d r t v w b (((((W.setCell ⟨b, 0, none⟩ (.int .i64 op)).setCell ⟨b, 1, none⟩ (.int .i64 d)).setCell ⟨b, 2, none⟩ (.int .i64 r)).setCell ⟨b, 3, none⟩ (.int .i64 t)).setCell ⟨b, 4, none⟩ (.int .i64 v)) where
  below := below_five_at h.below (by have := ha.le; omega) _ _ _ _ _
  le := ha.le
  lt := by simpa using ha.lt
  c7 := by rw [bcell (below_five_at (Below.refl b W) (Nat.le_refl _) _ _ _ _ _) _ _ (by have := ha.le; omega)]; exact h.c7
  e0 := by rw [sc_o 4 0 (by decide), sc_o 3 0 (by decide), sc_o 2 0 (by decide), sc_o 1 0 (by decide)]; exact World.cell?_setCell_same _ _ _ (ha.out 0 (by omega))
  e1 := by rw [sc_o 4 1 (by decide), sc_o 3 1 (by decide), sc_o 2 1 (by decide)]; exact World.cell?_setCell_same _ _ _ (by rw [sc_o 0 1 (by decide)]; exact ha.out 1 (by omega))
  e2 := by rw [sc_o 4 2 (by decide), sc_o 3 2 (by decide)]; exact World.cell?_setCell_same _ _ _ (by rw [sc_o 1 2 (by decide), sc_o 0 2 (by decide)]; exact ha.out 2 (by omega))
  e3 := by rw [sc_o 4 3 (by decide)]; exact World.cell?_setCell_same _ _ _ (by rw [sc_o 2 3 (by decide), sc_o 1 3 (by decide), sc_o 0 3 (by decide)]; exact ha.out 3 (by omega))
  e4 := by exact World.cell?_setCell_same _ _ _ (by rw [sc_o 3 4 (by decide), sc_o 2 4 (by decide), sc_o 1 4 (by decide), sc_o 0 4 (by decide)]; exact ha.out 4 (by omega))
  out := fun i hi => by rw [bcell (below_five_at (Below.refl b W) (Nat.le_refl _) _ _ _ _ _) _ _ (by have := ha.le; omega)]; exact ⟨0, h.out i hi⟩
  free := fun i => by rw [(below_five_at (Below.refl b W) (Nat.le_refl _) _ _ _ _ _).frozen (p := ⟨w.heap.size + 1, i, none⟩) (by have := ha.le; show w.heap.size + 1 < b; omega)]; exact h.free i
theorem far5 {W : World} {c b j : Nat} {v0 v1 v2 v3 v4 : Value} (h : c ≠ b) : (((((W.setCell ⟨c, 0, none⟩ v0).setCell ⟨c, 1, none⟩ v1).setCell ⟨c, 2, none⟩ v2).setCell ⟨c, 3, none⟩ v3).setCell ⟨c, 4, none⟩ v4).cell? ⟨b, j, none⟩ = W.cell? ⟨b, j, none⟩ := by
  rw [World.cell?_setCell_far _ _ _ _ h, World.cell?_setCell_far _ _ _ _ h, World.cell?_setCell_far _ _ _ _ h, World.cell?_setCell_far _ _ _ _ h, World.cell?_setCell_far _ _ _ _ h]
theorem TlAt.five {nt op d r t v : Int} {w W : World} {b : Nat} (h : TlAt nt op d r t v w b W) (v0 v1 v2 v3 v4 : Int) :
    TlAt nt op d r t v w b (((((W.setCell ⟨w.heap.size + 1, 0, none⟩ (.int .i64 v0)).setCell ⟨w.heap.size + 1, 1, none⟩ (.int .i64 v1)).setCell ⟨w.heap.size + 1, 2, none⟩ (.int .i64 v2)).setCell ⟨w.heap.size + 1, 3, none⟩ (.int .i64 v3)).setCell ⟨w.heap.size + 1, 4, none⟩ (.int .i64 v4)) where
  below := below_five_at h.below (by omega) _ _ _ _ _
  le := h.le
  lt := by simpa using h.lt
  c7 := by rw [bcell (below_five_at (Below.refl (w.heap.size + 1) W) (Nat.le_refl _) _ _ _ _ _) _ _ (by omega)]; exact h.c7
  e0 := (far5 (by have := h.le; omega)).trans h.e0
  e1 := (far5 (by have := h.le; omega)).trans h.e1
  e2 := (far5 (by have := h.le; omega)).trans h.e2
  e3 := (far5 (by have := h.le; omega)).trans h.e3
  e4 := (far5 (by have := h.le; omega)).trans h.e4
  out := fun i hi => sc_int (sc_int (sc_int (sc_int (sc_int (h.out i hi)))))
  free := fun i => by simpa using h.free i
theorem fld_span (L : Hm.Lay) (w : World) : (Instr.field 111 (layV L) 3).run Tryd.prog w = .ok (.agg #[.int .i64 L.least, .int .i64 L.most, .bool L.even]) w := by kernel_rfl
theorem ret_iok {op op' : Int} {f f' : Hm.Flds} {b b' : Bool} (h1 : op = op') (h2 : f = f') (h3 : b = b') : Ending.returned (instOk op f b) = .returned (instOk op' f' b') := by rw [h1, h2, h3]

set_option maxRecDepth 100000 in
set_option maxHeartbeats 40000000 in
theorem sread_yes (r : Hm.RowC) (x : Int) (w : World) (ht : Tab w) (hr : Hm.RowOk r) (hnt : r.not' = 0 ∨ r.not' = 1 ∨ r.not' = 2 ∨ r.not' = 5 ∨ r.not' = 8 ∨ r.not' = 16) (x0 : 0 ≤ x) (x1 : x < 65536) (hm : Hm.matchS r x = true) :
    Calls Tryd.prog 69 #[rowRV r, .int .u16 x] w fun e w' => e = .returned (instOk r.op (Hm.fldS r x) (Hm.readK r x)) ∧ Below w.heap.size w w' := by
  have hmm : bits .and .u16 x r.mask = r.bits := by
    rw [u16_and x r.mask x0 x1 hr.mask.1 hr.mask.2]
    unfold Hm.matchS Hm.andI at hm
    simpa using hm
  have HK : Hid (Hm.readK r x = !(Hm.hitsC r.not' (Hm.fldS r x))) := by show _ = _; unfold Hm.readK; rw [hm]; rfl
  unfold rowRV
  obtain ⟨mask, bts, op, rd, rs1, rs2, imm, nt⟩ := r
  obtain ⟨_, _, ⟨o0, o1⟩, ⟨d0, d1⟩, ⟨r0, r1⟩, ⟨t0, t1⟩, ⟨i0, i1⟩, _⟩ := hr
  dsimp only at *
  have HF : Hid (Hm.fldS ⟨mask, bts, op, rd, rs1, rs2, imm, nt⟩ x = ⟨Hm.takeP rd x, Hm.takeP rs1 x, Hm.takeP rs2 x, Hm.wrapC (Hm.lay (Hm.fmtOf op)).least (Hm.lay (Hm.fmtOf op)).most (Hm.stakeC imm x)⟩) := rfl
  have hst := RdAt.start mask bts op rd rs1 rs2 imm nt w ht
  have hglob : 1 < w.heap.size := ht.1
  obtain ⟨f0, f1⟩ := Hm.fmt_bd op
  obtain ⟨m0, m1⟩ := (Hm.lay_ok (Hm.fmtOf op)).most
  obtain ⟨s0, s1⟩ := Hm.stakeC_bd imm x
  have hspan := fld_span (Hm.lay (Hm.fmtOf op))
  have hfrow := fld_row (Hm.fmtOf op) (Hm.bitOf op)
  clear hm ht
  go_enter Tryd.func69, Tryd.ntmps69
  go_wp2
  rename_i Q4 K4 hK4
  have HWR0 : ∀ w, Calls Tryd.prog 89 #[.agg #[.int .i64 (Hm.lay (Hm.fmtOf op)).least, .int .i64 (Hm.lay (Hm.fmtOf op)).most, .bool (Hm.lay (Hm.fmtOf op)).even], .int .i64 (Hm.stakeC imm x)] w fun e w' => e = .returned (.int .i64 (Hm.wrapC (Hm.lay (Hm.fmtOf op)).least (Hm.lay (Hm.fmtOf op)).most (Hm.stakeC imm x))) ∧ Below w.heap.size w w' := fun w => cwrapped_any _ _ _ _ w m0 m1 s0 s1
  generalize hv : Hm.wrapC (Hm.lay (Hm.fmtOf op)).least (Hm.lay (Hm.fmtOf op)).most (Hm.stakeC imm x) = v at *
  have HWR : Hid _ := HWR0
  clear HWR0
  generalize (w.alloc (.cells #[.int .u16 mask, .int .u16 bts, .int .u8 op, .int .u8 rd, .int .u8 rs1, .int .u8 rs2, .int .u8 imm, .int .u8 nt] 121)).alloc (.cells #[.int .i64 0, .int .i64 0, .int .i64 0, .int .i64 0, .int .i64 0] 23) = W0 at *
  have HTail : ∀ (W W' : World) (b : Nat), RdAt rd rs1 rs2 imm nt w W ∧ AlAt w b W ∧ W' = (((((W.setCell ⟨b, 0, none⟩ (.int .i64 op)).setCell ⟨b, 1, none⟩ (.int .i64 (Hm.takeP rd x))).setCell ⟨b, 2, none⟩ (.int .i64 (Hm.takeP rs1 x))).setCell ⟨b, 3, none⟩ (.int .i64 (Hm.takeP rs2 x))).setCell ⟨b, 4, none⟩ (.int .i64 v)) → K4 ⟨#[.agg #[.int .u16 mask, .int .u16 bts, .int .u8 op, .int .u8 rd, .int .u8 rs1, .int .u8 rs2, .int .u8 imm, .int .u8 nt], .int .u16 x, .pointer (some ⟨w.heap.size, 0, none⟩), undef, .pointer (some ⟨w.heap.size + 1, 0, none⟩), .bool false, .int .i64 op, .pointer (some ⟨b, 0, none⟩), .int .u16 x, .pointer (some ⟨w.heap.size, 0, none⟩), .int .u16 mask, .int .u16 bts, .pointer (some ⟨w.heap.size, 1, none⟩), .int .u16 bts, .bool false, undef, .pointer (some ⟨w.heap.size, 2, none⟩), .int .u8 op, .int .i64 op, .int .i64 op, .pointer (some ⟨w.heap.size, 3, none⟩), .int .u8 rd, .int .u16 x, .int .i64 (Hm.takeP rd x), .pointer (some ⟨w.heap.size, 4, none⟩), .int .u8 rs1, .int .u16 x, .int .i64 (Hm.takeP rs1 x), .pointer (some ⟨w.heap.size, 5, none⟩), .int .u8 rs2, .int .u16 x, .int .i64 (Hm.takeP rs2 x), .int .i64 op, .agg #[.int .u8 (Hm.fmtOf op), .int .u32 (Hm.bitOf op)], .int .u8 (Hm.fmtOf op), layV (Hm.lay (Hm.fmtOf op)), .agg #[.int .i64 (Hm.lay (Hm.fmtOf op)).least, .int .i64 (Hm.lay (Hm.fmtOf op)).most, .bool (Hm.lay (Hm.fmtOf op)).even], .pointer (some ⟨w.heap.size, 6, none⟩), .int .u8 imm, .int .u16 x, .int .i64 (Hm.stakeC imm x), .int .i64 v, .agg #[.int .i64 op, .int .i64 (Hm.takeP rd x), .int .i64 (Hm.takeP rs1 x), .int .i64 (Hm.takeP rs2 x), .int .i64 v], undef, undef, undef, undef, undef, undef], []⟩ W' := by
    rintro W W' b ⟨hrd, hal, rfl⟩
    refine hK4 _ _ ?_
    dsimp only
    have hst2 := TlAt.start (op := op) (d := Hm.takeP rd x) (r := Hm.takeP rs1 x) (t := Hm.takeP rs2 x) (v := v) hrd hal
    generalize (((((W.setCell ⟨b, 0, none⟩ (.int .i64 op)).setCell ⟨b, 1, none⟩ (.int .i64 (Hm.takeP rd x))).setCell ⟨b, 2, none⟩ (.int .i64 (Hm.takeP rs1 x))).setCell ⟨b, 3, none⟩ (.int .i64 (Hm.takeP rs2 x))).setCell ⟨b, 4, none⟩ (.int .i64 v)) = W2 at *
    clear hrd hal hst W0 hspan hfrow HWR
    go_wp2
    refine wp_region_held_drew (S := TlAt nt op (Hm.takeP rd x) (Hm.takeP rs1 x) (Hm.takeP rs2 x) v w b) (by kernel_rfl) (hst2.step (Below.refl _ _).drew hst2.lt) (fun hHeld => ?_)
    clear hst2
    generalize W2.drew = W3 at *
    refine' takeH_0 _ (by kernel_rfl) (by kernel_rfl) (by kernel_rfl) (fun _ _ _ h => h) (by rfl) ?zy1 hHeld ?zr1
    case zy1 => (intro w hSw; obtain ⟨_, _, _, c7, e0, e1, e2, e3, e4, _, _⟩ := hSw; go_simp; try with_reducible rfl)
    (try simp only [Act.put, List.setIfInBounds_toArray, List.set_cons_zero, List.set_cons_succ])
    refine' takeH_1 _ (by kernel_rfl) (by kernel_rfl) (by kernel_rfl) (fun _ _ _ h => h) (by rfl) ?zy2 hHeld ?zr2
    case zy2 => (intro w hSw; obtain ⟨_, _, _, c7, e0, e1, e2, e3, e4, _, _⟩ := hSw; go_simp; try with_reducible rfl)
    (try simp only [Act.put, List.setIfInBounds_toArray, List.set_cons_zero, List.set_cons_succ])
    refine' takeH_2 _ (by kernel_rfl) (by kernel_rfl) (by kernel_rfl) (fun _ _ _ h => h) (by rfl) ?zy3 hHeld ?zr3
    case zy3 => (intro w hSw; obtain ⟨_, _, _, c7, e0, e1, e2, e3, e4, _, _⟩ := hSw; go_simp; try with_reducible rfl)
    (try simp only [Act.put, List.setIfInBounds_toArray, List.set_cons_zero, List.set_cons_succ])
    refine' takeH_3 _ (by kernel_rfl) (by kernel_rfl) (by kernel_rfl) (fun _ _ _ h => h) (by rfl) ?zy4 hHeld ?zr4
    case zy4 => (intro w hSw; obtain ⟨_, _, _, c7, e0, e1, e2, e3, e4, _, _⟩ := hSw; go_simp; try with_reducible rfl)
    (try simp only [Act.put, List.setIfInBounds_toArray, List.set_cons_zero, List.set_cons_succ])
    refine runH_4 (by kernel_rfl) (fun K hK => ?_)
    go_simp
    go_at_call 91
    refine (chits_any _ _ _ _ _ _ _ hnt).mono ?_
    rintro e w4 ⟨rfl, hb⟩
    go_wp2_with fail
    refine hK.out _ _ ?zt1 (fun hHeld => ?zt2)
    case zt1 => exact hHeld.step hb hHeld.lt
    clear hb hK K
    (try simp only [Act.put, List.setIfInBounds_toArray, List.set_cons_zero, List.set_cons_succ])
    refine' takeH_5 _ (by kernel_rfl) (by kernel_rfl) (by kernel_rfl) (fun _ _ _ h => h) (by rfl) ?zy5 hHeld ?zr5
    case zy5 => (intro w hSw; obtain ⟨_, _, _, c7, e0, e1, e2, e3, e4, _, _⟩ := hSw; go_simp; try with_reducible rfl)
    (try simp only [Act.put, List.setIfInBounds_toArray, List.set_cons_zero, List.set_cons_succ])
    obtain ⟨n0, r0⟩ := hHeld.out 0 (by omega)
    obtain ⟨n1, r1⟩ := hHeld.out 1 (by omega)
    obtain ⟨n2, r2⟩ := hHeld.out 2 (by omega)
    obtain ⟨n3, r3⟩ := hHeld.out 3 (by omega)
    obtain ⟨n4, r4⟩ := hHeld.out 4 (by omega)
    have hfr := hHeld.free
    have HH : Hid _ := hHeld
    clear hHeld
    refine runH_6 (by kernel_rfl) (fun K hK => ?_)
    go_simp
    refine hK.out _ _ ?zt3 (fun hHeld => ?zt4)
    case zt3 => exact HH.out.five _ _ _ _ _
    clear hK K
    (try simp only [Act.put, List.setIfInBounds_toArray, List.set_cons_zero, List.set_cons_succ])
    refine' takeH_7 _ (by kernel_rfl) (by kernel_rfl) (by kernel_rfl) (fun _ _ _ h => h) (by rfl) ?zy6 hHeld ?zr6
    case zy6 => (intro w hSw; obtain ⟨_, _, _, c7, e0, e1, e2, e3, e4, _, _⟩ := hSw; go_simp; try with_reducible rfl)
    (try simp only [Act.put, List.setIfInBounds_toArray, List.set_cons_zero, List.set_cons_succ])
    refine wpAnyH_done (by kernel_rfl) ?_ _
    clear hHeld
    go_wp2
    refine bodyPost_ret (v := instOk op ⟨Hm.takeP rd x, Hm.takeP rs1 x, Hm.takeP rs2 x, v⟩ (!(Hm.hitsC nt ⟨Hm.takeP rd x, Hm.takeP rs1 x, Hm.takeP rs2 x, v⟩))) (by simp [results, Tryd.results69, go_sem, instOk, r0, r1, r2, r3, r4]) rfl ⟨ret_iok rfl HF.out.symm (by rw [HK.out, HF.out]), below_five_at HH.out.below (by omega) _ _ _ _ _⟩
  refine wp_region_held_drew (S := RdAt rd rs1 rs2 imm nt w) (by kernel_rfl) (hst.step (Below.refl _ _).drew (by have := hst.size; omega)) (fun hHeld => ?_)
  generalize W0.drew = W1 at *
  refine' takeH_0 _ (by kernel_rfl) (by kernel_rfl) (by kernel_rfl) (fun _ _ _ h => h) (by rfl) ?zy7 hHeld ?zr7
  case zy7 => (intro w hSw; obtain ⟨_, _, c3, c4, c5, c6, c7, _, _, _⟩ := hSw; go_simp; try with_reducible rfl)
  (try simp only [Act.put, List.setIfInBounds_toArray, List.set_cons_zero, List.set_cons_succ])
  refine' takeH_1 _ (by kernel_rfl) (by kernel_rfl) (by kernel_rfl) (fun _ _ _ h => h) (by rfl) ?zy8 hHeld ?zr8
  case zy8 => (intro w hSw; obtain ⟨_, _, c3, c4, c5, c6, c7, _, _, _⟩ := hSw; go_simp; try with_reducible rfl)
  (try simp only [Act.put, List.setIfInBounds_toArray, List.set_cons_zero, List.set_cons_succ])
  refine' takeH_2 _ (by kernel_rfl) (by kernel_rfl) (by kernel_rfl) (fun _ _ _ h => h) (by rfl) ?zy9 hHeld ?zr9
  case zy9 => (intro w hSw; obtain ⟨_, _, c3, c4, c5, c6, c7, _, _, _⟩ := hSw; go_simp; try with_reducible rfl)
  (try simp only [Act.put, List.setIfInBounds_toArray, List.set_cons_zero, List.set_cons_succ])
  refine' takeH_3 _ (by kernel_rfl) (by kernel_rfl) (by kernel_rfl) (fun _ _ _ h => h) (by rfl) ?zy10 hHeld ?zr10
  case zy10 => (intro w hSw; obtain ⟨_, _, c3, c4, c5, c6, c7, _, _, _⟩ := hSw; go_simp; try with_reducible rfl)
  (try simp only [Act.put, List.setIfInBounds_toArray, List.set_cons_zero, List.set_cons_succ])
  refine' takeH_5 _ (by kernel_rfl) (by kernel_rfl) (by kernel_rfl) (fun _ _ _ h => h) (by rfl) ?zy11 hHeld ?zr11
  case zy11 => (intro w hSw; obtain ⟨_, _, c3, c4, c5, c6, c7, _, _, _⟩ := hSw; go_simp; try with_reducible rfl)
  (try simp only [Act.put, List.setIfInBounds_toArray, List.set_cons_zero, List.set_cons_succ])
  refine' takeH_6 _ (by kernel_rfl) (by kernel_rfl) (by kernel_rfl) (fun _ _ _ h => h) (by rfl) ?zy12 hHeld ?zr12
  case zy12 => (intro w hSw; obtain ⟨_, _, c3, c4, c5, c6, c7, _, _, _⟩ := hSw; go_simp; try with_reducible rfl)
  (try simp only [Act.put, List.setIfInBounds_toArray, List.set_cons_zero, List.set_cons_succ])
  refine' takeH_7 _ (by kernel_rfl) (by kernel_rfl) (by kernel_rfl) (fun _ _ _ h => h) (by rfl) ?zy13 hHeld ?zr13
  case zy13 => (intro w hSw; obtain ⟨_, _, c3, c4, c5, c6, c7, _, _, _⟩ := hSw; go_simp; try with_reducible rfl)
  (try simp only [Act.put, List.setIfInBounds_toArray, List.set_cons_zero, List.set_cons_succ])
  refine' takeH_9 _ (by kernel_rfl) (by kernel_rfl) (by kernel_rfl) (fun _ _ _ h => h) (by rfl) ?zy14 hHeld ?zr14
  case zy14 => (intro w hSw; obtain ⟨_, _, c3, c4, c5, c6, c7, _, _, _⟩ := hSw; go_simp; try with_reducible rfl)
  (try simp only [Act.put, List.setIfInBounds_toArray, List.set_cons_zero, List.set_cons_succ])
  refine' takeH_10 _ (by kernel_rfl) (by kernel_rfl) (by kernel_rfl) (fun _ _ _ h => h) (by rfl) ?zy15 hHeld ?zr15
  case zy15 => (intro w hSw; obtain ⟨_, _, c3, c4, c5, c6, c7, _, _, _⟩ := hSw; go_simp; try with_reducible rfl)
  (try simp only [Act.put, List.setIfInBounds_toArray, List.set_cons_zero, List.set_cons_succ])
  refine' takeH_11 _ (by kernel_rfl) (by kernel_rfl) (by kernel_rfl) (fun _ _ _ h => h) (by rfl) ?zy16 hHeld ?zr16
  case zy16 => (intro w hSw; obtain ⟨_, _, c3, c4, c5, c6, c7, _, _, _⟩ := hSw; go_simp; try with_reducible rfl)
  (try simp only [Act.put, List.setIfInBounds_toArray, List.set_cons_zero, List.set_cons_succ])
  refine' takeH_13 _ (by kernel_rfl) (by kernel_rfl) (by kernel_rfl) (fun _ _ _ h => h) (by rfl) ?zy17 hHeld ?zr17
  case zy17 => (intro w hSw; obtain ⟨_, _, c3, c4, c5, c6, c7, _, _, _⟩ := hSw; go_simp; try with_reducible rfl)
  (try simp only [Act.put, List.setIfInBounds_toArray, List.set_cons_zero, List.set_cons_succ])
  refine' takeH_18 _ (by kernel_rfl) (by kernel_rfl) (by kernel_rfl) (fun _ _ _ h => h) (by rfl) ?zy18 hHeld ?zr18
  case zy18 => (intro w hSw; obtain ⟨_, _, c3, c4, c5, c6, c7, _, _, _⟩ := hSw; go_simp; try with_reducible rfl)
  (try simp only [Act.put, List.setIfInBounds_toArray, List.set_cons_zero, List.set_cons_succ])
  refine' takeH_19 _ (by kernel_rfl) (by kernel_rfl) (by kernel_rfl) (fun _ _ _ h => h) (by rfl) ?zy19 hHeld ?zr19
  case zy19 => (intro w hSw; obtain ⟨_, _, c3, c4, c5, c6, c7, _, _, _⟩ := hSw; go_simp; try with_reducible rfl)
  (try simp only [Act.put, List.setIfInBounds_toArray, List.set_cons_zero, List.set_cons_succ])
  refine' takeH_20 _ (by kernel_rfl) (by kernel_rfl) (by kernel_rfl) (fun _ _ _ h => h) (by rfl) ?zy20 hHeld ?zr20
  case zy20 => (intro w hSw; obtain ⟨_, _, c3, c4, c5, c6, c7, _, _, _⟩ := hSw; go_simp; try with_reducible rfl)
  (try simp only [Act.put, List.setIfInBounds_toArray, List.set_cons_zero, List.set_cons_succ])
  refine run2H_4_24 (by kernel_rfl) (fun K hK => ?_) (fun K hK => ?_)
  rotate_left
  · have hHeldOld := hHeld
    go_simp
    refine hK.out _ _ ?zs21 (fun hHeld => ?zr21)
    case zs21 => exact hHeld.step ((Below.refl _ _).alloc (Nat.le_refl _) _) hHeld.size
    have hAl21 := AlAt.start hHeldOld
    clear hK K hHeldOld
    (try simp only [Act.put, List.setIfInBounds_toArray, List.set_cons_zero, List.set_cons_succ])
    refine runH_4 (by kernel_rfl) (fun K hK => ?_)
    go_simp
    go_at_call 88
    refine (ptake_any _ _ _ d0 d1 x0 x1).mono ?_
    rintro e w22 ⟨rfl, hb⟩
    go_wp2_with fail
    refine hK.out _ _ ?zs22 (fun hHeld => ?zr22)
    case zs22 => exact hHeld.step hb hHeld.size
    have hAl22 := hAl21.step hb hAl21.lt
    clear hAl21
    clear hb hK K
    (try simp only [Act.put, List.setIfInBounds_toArray, List.set_cons_zero, List.set_cons_succ])
    refine runH_8 (by kernel_rfl) (fun K hK => ?_)
    go_simp
    go_at_call 88
    refine (ptake_any _ _ _ r0 r1 x0 x1).mono ?_
    rintro e w23 ⟨rfl, hb⟩
    go_wp2_with fail
    refine hK.out _ _ ?zs23 (fun hHeld => ?zr23)
    case zs23 => exact hHeld.step hb hHeld.size
    have hAl23 := hAl22.step hb hAl22.lt
    clear hAl22
    clear hb hK K
    (try simp only [Act.put, List.setIfInBounds_toArray, List.set_cons_zero, List.set_cons_succ])
    refine runH_12 (by kernel_rfl) (fun K hK => ?_)
    go_simp
    go_at_call 88
    refine (ptake_any _ _ _ t0 t1 x0 x1).mono ?_
    rintro e w24 ⟨rfl, hb⟩
    go_wp2_with fail
    refine hK.out _ _ ?zs24 (fun hHeld => ?zr24)
    case zs24 => exact hHeld.step hb hHeld.size
    have hAl24 := hAl23.step hb hAl23.lt
    clear hAl23
    clear hb hK K
    (try simp only [Act.put, List.setIfInBounds_toArray, List.set_cons_zero, List.set_cons_succ])
    refine runH_14 (by kernel_rfl) (fun K hK => ?_)
    go_simp
    go_at_call 59
    refine (rowOf_any _ _ hHeld.tab).mono ?_
    rintro e w25 ⟨rfl, hb⟩
    go_wp2_with fail
    refine hK.out _ _ ?zs25 (fun hHeld => ?zr25)
    case zs25 => exact hHeld.step hb hHeld.size
    have hAl25 := hAl24.step hb hAl24.lt
    clear hAl24
    clear hb hK K
    (try simp only [Act.put, List.setIfInBounds_toArray, List.set_cons_zero, List.set_cons_succ])
    refine' takeH_15 _ (by kernel_rfl) (by kernel_rfl) (by kernel_rfl) (fun _ _ _ h => h) (by rfl) ?zy26 hHeld ?zr26
    case zy26 => (intro w hSw; obtain ⟨_, _, c3, c4, c5, c6, c7, _, _, _⟩ := hSw; go_simp; try with_reducible rfl)
    (try simp only [Act.put, List.setIfInBounds_toArray, List.set_cons_zero, List.set_cons_succ])
    refine runH_16 (by kernel_rfl) (fun K hK => ?_)
    go_simp
    go_at_call 60
    refine (layoutOf_any _ _ f0 f1).mono ?_
    rintro e w27 ⟨rfl, hb⟩
    go_wp2_with fail
    refine hK.out _ _ ?zs27 (fun hHeld => ?zr27)
    case zs27 => exact hHeld.step hb hHeld.size
    have hAl27 := hAl25.step hb hAl25.lt
    clear hAl25
    clear hb hK K
    (try simp only [Act.put, List.setIfInBounds_toArray, List.set_cons_zero, List.set_cons_succ])
    refine' takeH_17 _ (by kernel_rfl) (by kernel_rfl) (by kernel_rfl) (fun _ _ _ h => h) (by rfl) ?zy28 hHeld ?zr28
    case zy28 => (intro w hSw; obtain ⟨_, _, c3, c4, c5, c6, c7, _, _, _⟩ := hSw; go_simp; try with_reducible rfl)
    (try simp only [Act.put, List.setIfInBounds_toArray, List.set_cons_zero, List.set_cons_succ])
    refine runH_21 (by kernel_rfl) (fun K hK => ?_)
    go_simp
    go_at_call 90
    refine (stake_any _ _ _ i0 i1 x0 x1).mono ?_
    rintro e w29 ⟨rfl, hb⟩
    go_wp2_with fail
    refine hK.out _ _ ?zs29 (fun hHeld => ?zr29)
    case zs29 => exact hHeld.step hb hHeld.size
    have hAl29 := hAl27.step hb hAl27.lt
    clear hAl27
    clear hb hK K
    (try simp only [Act.put, List.setIfInBounds_toArray, List.set_cons_zero, List.set_cons_succ])
    refine runH_22 (by kernel_rfl) (fun K hK => ?_)
    go_simp
    go_at_call 89
    refine (HWR.out _).mono ?_
    rintro e w30 ⟨rfl, hb⟩
    go_wp2_with fail
    refine hK.out _ _ ?zs30 (fun hHeld => ?zr30)
    case zs30 => exact hHeld.step hb hHeld.size
    have hAl30 := hAl29.step hb hAl29.lt
    clear hAl29
    clear hb hK K
    (try simp only [Act.put, List.setIfInBounds_toArray, List.set_cons_zero, List.set_cons_succ])
    refine' takeH_23 _ (by kernel_rfl) (by kernel_rfl) (by kernel_rfl) (fun _ _ _ h => h) (by rfl) ?zy31 hHeld ?zr31
    case zy31 => (intro w hSw; obtain ⟨_, _, c3, c4, c5, c6, c7, _, _, _⟩ := hSw; go_simp; try with_reducible rfl)
    (try simp only [Act.put, List.setIfInBounds_toArray, List.set_cons_zero, List.set_cons_succ])
    have q0 := hAl30.out 0 (by omega)
    have q1 := hAl30.out 1 (by omega)
    have q2 := hAl30.out 2 (by omega)
    have q3 := hAl30.out 3 (by omega)
    have q4 := hAl30.out 4 (by omega)
    have qf := hAl30.free
    have HH : Hid _ := hHeld
    have HA : Hid _ := hAl30
    clear hHeld hAl30
    refine runH_25 (by kernel_rfl) (fun K hK => ?_)
    go_simp
    refine hK.out _ _ ?zs32 (fun hHeld => ?zr32)
    case zs32 => exact HH.out.step (below_five_at (Below.refl _ _) (Nat.le_refl _) _ _ _ _ _) HA.out.le
    clear hK K hHeld
    (try simp only [Act.put, List.setIfInBounds_toArray, List.set_cons_zero, List.set_cons_succ])
    refine wpAnyH_done (by kernel_rfl) ?_ _
    show K4 _ _
    exact HTail _ _ _ ⟨HH.out, HA.out, rfl⟩
  go_simp
  go_at_call 88
  refine (ptake_any _ _ _ d0 d1 x0 x1).mono ?_
  rintro e w33 ⟨rfl, hb⟩
  go_wp2_with fail
  refine hK.out _ _ ?zs33 (fun hHeld => ?zr33)
  case zs33 => exact hHeld.step hb hHeld.size
  clear hb hK K
  (try simp only [Act.put, List.setIfInBounds_toArray, List.set_cons_zero, List.set_cons_succ])
  refine run2H_8_24 (by kernel_rfl) (fun K hK => ?_) (fun K hK => ?_)
  rotate_left
  · have hHeldOld := hHeld
    go_simp
    refine hK.out _ _ ?zs34 (fun hHeld => ?zr34)
    case zs34 => exact hHeld.step ((Below.refl _ _).alloc (Nat.le_refl _) _) hHeld.size
    have hAl34 := AlAt.start hHeldOld
    clear hK K hHeldOld
    (try simp only [Act.put, List.setIfInBounds_toArray, List.set_cons_zero, List.set_cons_succ])
    refine runH_8 (by kernel_rfl) (fun K hK => ?_)
    go_simp
    go_at_call 88
    refine (ptake_any _ _ _ r0 r1 x0 x1).mono ?_
    rintro e w35 ⟨rfl, hb⟩
    go_wp2_with fail
    refine hK.out _ _ ?zs35 (fun hHeld => ?zr35)
    case zs35 => exact hHeld.step hb hHeld.size
    have hAl35 := hAl34.step hb hAl34.lt
    clear hAl34
    clear hb hK K
    (try simp only [Act.put, List.setIfInBounds_toArray, List.set_cons_zero, List.set_cons_succ])
    refine runH_12 (by kernel_rfl) (fun K hK => ?_)
    go_simp
    go_at_call 88
    refine (ptake_any _ _ _ t0 t1 x0 x1).mono ?_
    rintro e w36 ⟨rfl, hb⟩
    go_wp2_with fail
    refine hK.out _ _ ?zs36 (fun hHeld => ?zr36)
    case zs36 => exact hHeld.step hb hHeld.size
    have hAl36 := hAl35.step hb hAl35.lt
    clear hAl35
    clear hb hK K
    (try simp only [Act.put, List.setIfInBounds_toArray, List.set_cons_zero, List.set_cons_succ])
    refine runH_14 (by kernel_rfl) (fun K hK => ?_)
    go_simp
    go_at_call 59
    refine (rowOf_any _ _ hHeld.tab).mono ?_
    rintro e w37 ⟨rfl, hb⟩
    go_wp2_with fail
    refine hK.out _ _ ?zs37 (fun hHeld => ?zr37)
    case zs37 => exact hHeld.step hb hHeld.size
    have hAl37 := hAl36.step hb hAl36.lt
    clear hAl36
    clear hb hK K
    (try simp only [Act.put, List.setIfInBounds_toArray, List.set_cons_zero, List.set_cons_succ])
    refine' takeH_15 _ (by kernel_rfl) (by kernel_rfl) (by kernel_rfl) (fun _ _ _ h => h) (by rfl) ?zy38 hHeld ?zr38
    case zy38 => (intro w hSw; obtain ⟨_, _, c3, c4, c5, c6, c7, _, _, _⟩ := hSw; go_simp; try with_reducible rfl)
    (try simp only [Act.put, List.setIfInBounds_toArray, List.set_cons_zero, List.set_cons_succ])
    refine runH_16 (by kernel_rfl) (fun K hK => ?_)
    go_simp
    go_at_call 60
    refine (layoutOf_any _ _ f0 f1).mono ?_
    rintro e w39 ⟨rfl, hb⟩
    go_wp2_with fail
    refine hK.out _ _ ?zs39 (fun hHeld => ?zr39)
    case zs39 => exact hHeld.step hb hHeld.size
    have hAl39 := hAl37.step hb hAl37.lt
    clear hAl37
    clear hb hK K
    (try simp only [Act.put, List.setIfInBounds_toArray, List.set_cons_zero, List.set_cons_succ])
    refine' takeH_17 _ (by kernel_rfl) (by kernel_rfl) (by kernel_rfl) (fun _ _ _ h => h) (by rfl) ?zy40 hHeld ?zr40
    case zy40 => (intro w hSw; obtain ⟨_, _, c3, c4, c5, c6, c7, _, _, _⟩ := hSw; go_simp; try with_reducible rfl)
    (try simp only [Act.put, List.setIfInBounds_toArray, List.set_cons_zero, List.set_cons_succ])
    refine runH_21 (by kernel_rfl) (fun K hK => ?_)
    go_simp
    go_at_call 90
    refine (stake_any _ _ _ i0 i1 x0 x1).mono ?_
    rintro e w41 ⟨rfl, hb⟩
    go_wp2_with fail
    refine hK.out _ _ ?zs41 (fun hHeld => ?zr41)
    case zs41 => exact hHeld.step hb hHeld.size
    have hAl41 := hAl39.step hb hAl39.lt
    clear hAl39
    clear hb hK K
    (try simp only [Act.put, List.setIfInBounds_toArray, List.set_cons_zero, List.set_cons_succ])
    refine runH_22 (by kernel_rfl) (fun K hK => ?_)
    go_simp
    go_at_call 89
    refine (HWR.out _).mono ?_
    rintro e w42 ⟨rfl, hb⟩
    go_wp2_with fail
    refine hK.out _ _ ?zs42 (fun hHeld => ?zr42)
    case zs42 => exact hHeld.step hb hHeld.size
    have hAl42 := hAl41.step hb hAl41.lt
    clear hAl41
    clear hb hK K
    (try simp only [Act.put, List.setIfInBounds_toArray, List.set_cons_zero, List.set_cons_succ])
    refine' takeH_23 _ (by kernel_rfl) (by kernel_rfl) (by kernel_rfl) (fun _ _ _ h => h) (by rfl) ?zy43 hHeld ?zr43
    case zy43 => (intro w hSw; obtain ⟨_, _, c3, c4, c5, c6, c7, _, _, _⟩ := hSw; go_simp; try with_reducible rfl)
    (try simp only [Act.put, List.setIfInBounds_toArray, List.set_cons_zero, List.set_cons_succ])
    have q0 := hAl42.out 0 (by omega)
    have q1 := hAl42.out 1 (by omega)
    have q2 := hAl42.out 2 (by omega)
    have q3 := hAl42.out 3 (by omega)
    have q4 := hAl42.out 4 (by omega)
    have qf := hAl42.free
    have HH : Hid _ := hHeld
    have HA : Hid _ := hAl42
    clear hHeld hAl42
    refine runH_25 (by kernel_rfl) (fun K hK => ?_)
    go_simp
    refine hK.out _ _ ?zs44 (fun hHeld => ?zr44)
    case zs44 => exact HH.out.step (below_five_at (Below.refl _ _) (Nat.le_refl _) _ _ _ _ _) HA.out.le
    clear hK K hHeld
    (try simp only [Act.put, List.setIfInBounds_toArray, List.set_cons_zero, List.set_cons_succ])
    refine wpAnyH_done (by kernel_rfl) ?_ _
    show K4 _ _
    exact HTail _ _ _ ⟨HH.out, HA.out, rfl⟩
  go_simp
  go_at_call 88
  refine (ptake_any _ _ _ r0 r1 x0 x1).mono ?_
  rintro e w45 ⟨rfl, hb⟩
  go_wp2_with fail
  refine hK.out _ _ ?zs45 (fun hHeld => ?zr45)
  case zs45 => exact hHeld.step hb hHeld.size
  clear hb hK K
  (try simp only [Act.put, List.setIfInBounds_toArray, List.set_cons_zero, List.set_cons_succ])
  refine run2H_12_24 (by kernel_rfl) (fun K hK => ?_) (fun K hK => ?_)
  rotate_left
  · have hHeldOld := hHeld
    go_simp
    refine hK.out _ _ ?zs46 (fun hHeld => ?zr46)
    case zs46 => exact hHeld.step ((Below.refl _ _).alloc (Nat.le_refl _) _) hHeld.size
    have hAl46 := AlAt.start hHeldOld
    clear hK K hHeldOld
    (try simp only [Act.put, List.setIfInBounds_toArray, List.set_cons_zero, List.set_cons_succ])
    refine runH_12 (by kernel_rfl) (fun K hK => ?_)
    go_simp
    go_at_call 88
    refine (ptake_any _ _ _ t0 t1 x0 x1).mono ?_
    rintro e w47 ⟨rfl, hb⟩
    go_wp2_with fail
    refine hK.out _ _ ?zs47 (fun hHeld => ?zr47)
    case zs47 => exact hHeld.step hb hHeld.size
    have hAl47 := hAl46.step hb hAl46.lt
    clear hAl46
    clear hb hK K
    (try simp only [Act.put, List.setIfInBounds_toArray, List.set_cons_zero, List.set_cons_succ])
    refine runH_14 (by kernel_rfl) (fun K hK => ?_)
    go_simp
    go_at_call 59
    refine (rowOf_any _ _ hHeld.tab).mono ?_
    rintro e w48 ⟨rfl, hb⟩
    go_wp2_with fail
    refine hK.out _ _ ?zs48 (fun hHeld => ?zr48)
    case zs48 => exact hHeld.step hb hHeld.size
    have hAl48 := hAl47.step hb hAl47.lt
    clear hAl47
    clear hb hK K
    (try simp only [Act.put, List.setIfInBounds_toArray, List.set_cons_zero, List.set_cons_succ])
    refine' takeH_15 _ (by kernel_rfl) (by kernel_rfl) (by kernel_rfl) (fun _ _ _ h => h) (by rfl) ?zy49 hHeld ?zr49
    case zy49 => (intro w hSw; obtain ⟨_, _, c3, c4, c5, c6, c7, _, _, _⟩ := hSw; go_simp; try with_reducible rfl)
    (try simp only [Act.put, List.setIfInBounds_toArray, List.set_cons_zero, List.set_cons_succ])
    refine runH_16 (by kernel_rfl) (fun K hK => ?_)
    go_simp
    go_at_call 60
    refine (layoutOf_any _ _ f0 f1).mono ?_
    rintro e w50 ⟨rfl, hb⟩
    go_wp2_with fail
    refine hK.out _ _ ?zs50 (fun hHeld => ?zr50)
    case zs50 => exact hHeld.step hb hHeld.size
    have hAl50 := hAl48.step hb hAl48.lt
    clear hAl48
    clear hb hK K
    (try simp only [Act.put, List.setIfInBounds_toArray, List.set_cons_zero, List.set_cons_succ])
    refine' takeH_17 _ (by kernel_rfl) (by kernel_rfl) (by kernel_rfl) (fun _ _ _ h => h) (by rfl) ?zy51 hHeld ?zr51
    case zy51 => (intro w hSw; obtain ⟨_, _, c3, c4, c5, c6, c7, _, _, _⟩ := hSw; go_simp; try with_reducible rfl)
    (try simp only [Act.put, List.setIfInBounds_toArray, List.set_cons_zero, List.set_cons_succ])
    refine runH_21 (by kernel_rfl) (fun K hK => ?_)
    go_simp
    go_at_call 90
    refine (stake_any _ _ _ i0 i1 x0 x1).mono ?_
    rintro e w52 ⟨rfl, hb⟩
    go_wp2_with fail
    refine hK.out _ _ ?zs52 (fun hHeld => ?zr52)
    case zs52 => exact hHeld.step hb hHeld.size
    have hAl52 := hAl50.step hb hAl50.lt
    clear hAl50
    clear hb hK K
    (try simp only [Act.put, List.setIfInBounds_toArray, List.set_cons_zero, List.set_cons_succ])
    refine runH_22 (by kernel_rfl) (fun K hK => ?_)
    go_simp
    go_at_call 89
    refine (HWR.out _).mono ?_
    rintro e w53 ⟨rfl, hb⟩
    go_wp2_with fail
    refine hK.out _ _ ?zs53 (fun hHeld => ?zr53)
    case zs53 => exact hHeld.step hb hHeld.size
    have hAl53 := hAl52.step hb hAl52.lt
    clear hAl52
    clear hb hK K
    (try simp only [Act.put, List.setIfInBounds_toArray, List.set_cons_zero, List.set_cons_succ])
    refine' takeH_23 _ (by kernel_rfl) (by kernel_rfl) (by kernel_rfl) (fun _ _ _ h => h) (by rfl) ?zy54 hHeld ?zr54
    case zy54 => (intro w hSw; obtain ⟨_, _, c3, c4, c5, c6, c7, _, _, _⟩ := hSw; go_simp; try with_reducible rfl)
    (try simp only [Act.put, List.setIfInBounds_toArray, List.set_cons_zero, List.set_cons_succ])
    have q0 := hAl53.out 0 (by omega)
    have q1 := hAl53.out 1 (by omega)
    have q2 := hAl53.out 2 (by omega)
    have q3 := hAl53.out 3 (by omega)
    have q4 := hAl53.out 4 (by omega)
    have qf := hAl53.free
    have HH : Hid _ := hHeld
    have HA : Hid _ := hAl53
    clear hHeld hAl53
    refine runH_25 (by kernel_rfl) (fun K hK => ?_)
    go_simp
    refine hK.out _ _ ?zs55 (fun hHeld => ?zr55)
    case zs55 => exact HH.out.step (below_five_at (Below.refl _ _) (Nat.le_refl _) _ _ _ _ _) HA.out.le
    clear hK K hHeld
    (try simp only [Act.put, List.setIfInBounds_toArray, List.set_cons_zero, List.set_cons_succ])
    refine wpAnyH_done (by kernel_rfl) ?_ _
    show K4 _ _
    exact HTail _ _ _ ⟨HH.out, HA.out, rfl⟩
  go_simp
  go_at_call 88
  refine (ptake_any _ _ _ t0 t1 x0 x1).mono ?_
  rintro e w56 ⟨rfl, hb⟩
  go_wp2_with fail
  refine hK.out _ _ ?zs56 (fun hHeld => ?zr56)
  case zs56 => exact hHeld.step hb hHeld.size
  clear hb hK K
  (try simp only [Act.put, List.setIfInBounds_toArray, List.set_cons_zero, List.set_cons_succ])
  refine run2H_14_24 (by kernel_rfl) (fun K hK => ?_) (fun K hK => ?_)
  rotate_left
  · have hHeldOld := hHeld
    go_simp
    refine hK.out _ _ ?zs57 (fun hHeld => ?zr57)
    case zs57 => exact hHeld.step ((Below.refl _ _).alloc (Nat.le_refl _) _) hHeld.size
    have hAl57 := AlAt.start hHeldOld
    clear hK K hHeldOld
    (try simp only [Act.put, List.setIfInBounds_toArray, List.set_cons_zero, List.set_cons_succ])
    refine runH_14 (by kernel_rfl) (fun K hK => ?_)
    go_simp
    go_at_call 59
    refine (rowOf_any _ _ hHeld.tab).mono ?_
    rintro e w58 ⟨rfl, hb⟩
    go_wp2_with fail
    refine hK.out _ _ ?zs58 (fun hHeld => ?zr58)
    case zs58 => exact hHeld.step hb hHeld.size
    have hAl58 := hAl57.step hb hAl57.lt
    clear hAl57
    clear hb hK K
    (try simp only [Act.put, List.setIfInBounds_toArray, List.set_cons_zero, List.set_cons_succ])
    refine' takeH_15 _ (by kernel_rfl) (by kernel_rfl) (by kernel_rfl) (fun _ _ _ h => h) (by rfl) ?zy59 hHeld ?zr59
    case zy59 => (intro w hSw; obtain ⟨_, _, c3, c4, c5, c6, c7, _, _, _⟩ := hSw; go_simp; try with_reducible rfl)
    (try simp only [Act.put, List.setIfInBounds_toArray, List.set_cons_zero, List.set_cons_succ])
    refine runH_16 (by kernel_rfl) (fun K hK => ?_)
    go_simp
    go_at_call 60
    refine (layoutOf_any _ _ f0 f1).mono ?_
    rintro e w60 ⟨rfl, hb⟩
    go_wp2_with fail
    refine hK.out _ _ ?zs60 (fun hHeld => ?zr60)
    case zs60 => exact hHeld.step hb hHeld.size
    have hAl60 := hAl58.step hb hAl58.lt
    clear hAl58
    clear hb hK K
    (try simp only [Act.put, List.setIfInBounds_toArray, List.set_cons_zero, List.set_cons_succ])
    refine' takeH_17 _ (by kernel_rfl) (by kernel_rfl) (by kernel_rfl) (fun _ _ _ h => h) (by rfl) ?zy61 hHeld ?zr61
    case zy61 => (intro w hSw; obtain ⟨_, _, c3, c4, c5, c6, c7, _, _, _⟩ := hSw; go_simp; try with_reducible rfl)
    (try simp only [Act.put, List.setIfInBounds_toArray, List.set_cons_zero, List.set_cons_succ])
    refine runH_21 (by kernel_rfl) (fun K hK => ?_)
    go_simp
    go_at_call 90
    refine (stake_any _ _ _ i0 i1 x0 x1).mono ?_
    rintro e w62 ⟨rfl, hb⟩
    go_wp2_with fail
    refine hK.out _ _ ?zs62 (fun hHeld => ?zr62)
    case zs62 => exact hHeld.step hb hHeld.size
    have hAl62 := hAl60.step hb hAl60.lt
    clear hAl60
    clear hb hK K
    (try simp only [Act.put, List.setIfInBounds_toArray, List.set_cons_zero, List.set_cons_succ])
    refine runH_22 (by kernel_rfl) (fun K hK => ?_)
    go_simp
    go_at_call 89
    refine (HWR.out _).mono ?_
    rintro e w63 ⟨rfl, hb⟩
    go_wp2_with fail
    refine hK.out _ _ ?zs63 (fun hHeld => ?zr63)
    case zs63 => exact hHeld.step hb hHeld.size
    have hAl63 := hAl62.step hb hAl62.lt
    clear hAl62
    clear hb hK K
    (try simp only [Act.put, List.setIfInBounds_toArray, List.set_cons_zero, List.set_cons_succ])
    refine' takeH_23 _ (by kernel_rfl) (by kernel_rfl) (by kernel_rfl) (fun _ _ _ h => h) (by rfl) ?zy64 hHeld ?zr64
    case zy64 => (intro w hSw; obtain ⟨_, _, c3, c4, c5, c6, c7, _, _, _⟩ := hSw; go_simp; try with_reducible rfl)
    (try simp only [Act.put, List.setIfInBounds_toArray, List.set_cons_zero, List.set_cons_succ])
    have q0 := hAl63.out 0 (by omega)
    have q1 := hAl63.out 1 (by omega)
    have q2 := hAl63.out 2 (by omega)
    have q3 := hAl63.out 3 (by omega)
    have q4 := hAl63.out 4 (by omega)
    have qf := hAl63.free
    have HH : Hid _ := hHeld
    have HA : Hid _ := hAl63
    clear hHeld hAl63
    refine runH_25 (by kernel_rfl) (fun K hK => ?_)
    go_simp
    refine hK.out _ _ ?zs65 (fun hHeld => ?zr65)
    case zs65 => exact HH.out.step (below_five_at (Below.refl _ _) (Nat.le_refl _) _ _ _ _ _) HA.out.le
    clear hK K hHeld
    (try simp only [Act.put, List.setIfInBounds_toArray, List.set_cons_zero, List.set_cons_succ])
    refine wpAnyH_done (by kernel_rfl) ?_ _
    show K4 _ _
    exact HTail _ _ _ ⟨HH.out, HA.out, rfl⟩
  go_simp
  go_at_call 59
  refine (rowOf_any _ _ hHeld.tab).mono ?_
  rintro e w66 ⟨rfl, hb⟩
  go_wp2_with fail
  refine hK.out _ _ ?zs66 (fun hHeld => ?zr66)
  case zs66 => exact hHeld.step hb hHeld.size
  clear hb hK K
  (try simp only [Act.put, List.setIfInBounds_toArray, List.set_cons_zero, List.set_cons_succ])
  refine' takeH_15 _ (by kernel_rfl) (by kernel_rfl) (by kernel_rfl) (fun _ _ _ h => h) (by rfl) ?zy67 hHeld ?zr67
  case zy67 => (intro w hSw; obtain ⟨_, _, c3, c4, c5, c6, c7, _, _, _⟩ := hSw; go_simp; try with_reducible rfl)
  (try simp only [Act.put, List.setIfInBounds_toArray, List.set_cons_zero, List.set_cons_succ])
  refine run2H_16_24 (by kernel_rfl) (fun K hK => ?_) (fun K hK => ?_)
  rotate_left
  · have hHeldOld := hHeld
    go_simp
    refine hK.out _ _ ?zs68 (fun hHeld => ?zr68)
    case zs68 => exact hHeld.step ((Below.refl _ _).alloc (Nat.le_refl _) _) hHeld.size
    have hAl68 := AlAt.start hHeldOld
    clear hK K hHeldOld
    (try simp only [Act.put, List.setIfInBounds_toArray, List.set_cons_zero, List.set_cons_succ])
    refine runH_16 (by kernel_rfl) (fun K hK => ?_)
    go_simp
    go_at_call 60
    refine (layoutOf_any _ _ f0 f1).mono ?_
    rintro e w69 ⟨rfl, hb⟩
    go_wp2_with fail
    refine hK.out _ _ ?zs69 (fun hHeld => ?zr69)
    case zs69 => exact hHeld.step hb hHeld.size
    have hAl69 := hAl68.step hb hAl68.lt
    clear hAl68
    clear hb hK K
    (try simp only [Act.put, List.setIfInBounds_toArray, List.set_cons_zero, List.set_cons_succ])
    refine' takeH_17 _ (by kernel_rfl) (by kernel_rfl) (by kernel_rfl) (fun _ _ _ h => h) (by rfl) ?zy70 hHeld ?zr70
    case zy70 => (intro w hSw; obtain ⟨_, _, c3, c4, c5, c6, c7, _, _, _⟩ := hSw; go_simp; try with_reducible rfl)
    (try simp only [Act.put, List.setIfInBounds_toArray, List.set_cons_zero, List.set_cons_succ])
    refine runH_21 (by kernel_rfl) (fun K hK => ?_)
    go_simp
    go_at_call 90
    refine (stake_any _ _ _ i0 i1 x0 x1).mono ?_
    rintro e w71 ⟨rfl, hb⟩
    go_wp2_with fail
    refine hK.out _ _ ?zs71 (fun hHeld => ?zr71)
    case zs71 => exact hHeld.step hb hHeld.size
    have hAl71 := hAl69.step hb hAl69.lt
    clear hAl69
    clear hb hK K
    (try simp only [Act.put, List.setIfInBounds_toArray, List.set_cons_zero, List.set_cons_succ])
    refine runH_22 (by kernel_rfl) (fun K hK => ?_)
    go_simp
    go_at_call 89
    refine (HWR.out _).mono ?_
    rintro e w72 ⟨rfl, hb⟩
    go_wp2_with fail
    refine hK.out _ _ ?zs72 (fun hHeld => ?zr72)
    case zs72 => exact hHeld.step hb hHeld.size
    have hAl72 := hAl71.step hb hAl71.lt
    clear hAl71
    clear hb hK K
    (try simp only [Act.put, List.setIfInBounds_toArray, List.set_cons_zero, List.set_cons_succ])
    refine' takeH_23 _ (by kernel_rfl) (by kernel_rfl) (by kernel_rfl) (fun _ _ _ h => h) (by rfl) ?zy73 hHeld ?zr73
    case zy73 => (intro w hSw; obtain ⟨_, _, c3, c4, c5, c6, c7, _, _, _⟩ := hSw; go_simp; try with_reducible rfl)
    (try simp only [Act.put, List.setIfInBounds_toArray, List.set_cons_zero, List.set_cons_succ])
    have q0 := hAl72.out 0 (by omega)
    have q1 := hAl72.out 1 (by omega)
    have q2 := hAl72.out 2 (by omega)
    have q3 := hAl72.out 3 (by omega)
    have q4 := hAl72.out 4 (by omega)
    have qf := hAl72.free
    have HH : Hid _ := hHeld
    have HA : Hid _ := hAl72
    clear hHeld hAl72
    refine runH_25 (by kernel_rfl) (fun K hK => ?_)
    go_simp
    refine hK.out _ _ ?zs74 (fun hHeld => ?zr74)
    case zs74 => exact HH.out.step (below_five_at (Below.refl _ _) (Nat.le_refl _) _ _ _ _ _) HA.out.le
    clear hK K hHeld
    (try simp only [Act.put, List.setIfInBounds_toArray, List.set_cons_zero, List.set_cons_succ])
    refine wpAnyH_done (by kernel_rfl) ?_ _
    show K4 _ _
    exact HTail _ _ _ ⟨HH.out, HA.out, rfl⟩
  go_simp
  go_at_call 60
  refine (layoutOf_any _ _ f0 f1).mono ?_
  rintro e w75 ⟨rfl, hb⟩
  go_wp2_with fail
  refine hK.out _ _ ?zs75 (fun hHeld => ?zr75)
  case zs75 => exact hHeld.step hb hHeld.size
  clear hb hK K
  (try simp only [Act.put, List.setIfInBounds_toArray, List.set_cons_zero, List.set_cons_succ])
  refine' takeH_17 _ (by kernel_rfl) (by kernel_rfl) (by kernel_rfl) (fun _ _ _ h => h) (by rfl) ?zy76 hHeld ?zr76
  case zy76 => (intro w hSw; obtain ⟨_, _, c3, c4, c5, c6, c7, _, _, _⟩ := hSw; go_simp; try with_reducible rfl)
  (try simp only [Act.put, List.setIfInBounds_toArray, List.set_cons_zero, List.set_cons_succ])
  refine run2H_21_24 (by kernel_rfl) (fun K hK => ?_) (fun K hK => ?_)
  rotate_left
  · have hHeldOld := hHeld
    go_simp
    refine hK.out _ _ ?zs77 (fun hHeld => ?zr77)
    case zs77 => exact hHeld.step ((Below.refl _ _).alloc (Nat.le_refl _) _) hHeld.size
    have hAl77 := AlAt.start hHeldOld
    clear hK K hHeldOld
    (try simp only [Act.put, List.setIfInBounds_toArray, List.set_cons_zero, List.set_cons_succ])
    refine runH_21 (by kernel_rfl) (fun K hK => ?_)
    go_simp
    go_at_call 90
    refine (stake_any _ _ _ i0 i1 x0 x1).mono ?_
    rintro e w78 ⟨rfl, hb⟩
    go_wp2_with fail
    refine hK.out _ _ ?zs78 (fun hHeld => ?zr78)
    case zs78 => exact hHeld.step hb hHeld.size
    have hAl78 := hAl77.step hb hAl77.lt
    clear hAl77
    clear hb hK K
    (try simp only [Act.put, List.setIfInBounds_toArray, List.set_cons_zero, List.set_cons_succ])
    refine runH_22 (by kernel_rfl) (fun K hK => ?_)
    go_simp
    go_at_call 89
    refine (HWR.out _).mono ?_
    rintro e w79 ⟨rfl, hb⟩
    go_wp2_with fail
    refine hK.out _ _ ?zs79 (fun hHeld => ?zr79)
    case zs79 => exact hHeld.step hb hHeld.size
    have hAl79 := hAl78.step hb hAl78.lt
    clear hAl78
    clear hb hK K
    (try simp only [Act.put, List.setIfInBounds_toArray, List.set_cons_zero, List.set_cons_succ])
    refine' takeH_23 _ (by kernel_rfl) (by kernel_rfl) (by kernel_rfl) (fun _ _ _ h => h) (by rfl) ?zy80 hHeld ?zr80
    case zy80 => (intro w hSw; obtain ⟨_, _, c3, c4, c5, c6, c7, _, _, _⟩ := hSw; go_simp; try with_reducible rfl)
    (try simp only [Act.put, List.setIfInBounds_toArray, List.set_cons_zero, List.set_cons_succ])
    have q0 := hAl79.out 0 (by omega)
    have q1 := hAl79.out 1 (by omega)
    have q2 := hAl79.out 2 (by omega)
    have q3 := hAl79.out 3 (by omega)
    have q4 := hAl79.out 4 (by omega)
    have qf := hAl79.free
    have HH : Hid _ := hHeld
    have HA : Hid _ := hAl79
    clear hHeld hAl79
    refine runH_25 (by kernel_rfl) (fun K hK => ?_)
    go_simp
    refine hK.out _ _ ?zs81 (fun hHeld => ?zr81)
    case zs81 => exact HH.out.step (below_five_at (Below.refl _ _) (Nat.le_refl _) _ _ _ _ _) HA.out.le
    clear hK K hHeld
    (try simp only [Act.put, List.setIfInBounds_toArray, List.set_cons_zero, List.set_cons_succ])
    refine wpAnyH_done (by kernel_rfl) ?_ _
    show K4 _ _
    exact HTail _ _ _ ⟨HH.out, HA.out, rfl⟩
  go_simp
  go_at_call 90
  refine (stake_any _ _ _ i0 i1 x0 x1).mono ?_
  rintro e w82 ⟨rfl, hb⟩
  go_wp2_with fail
  refine hK.out _ _ ?zs82 (fun hHeld => ?zr82)
  case zs82 => exact hHeld.step hb hHeld.size
  clear hb hK K
  (try simp only [Act.put, List.setIfInBounds_toArray, List.set_cons_zero, List.set_cons_succ])
  refine run2H_22_24 (by kernel_rfl) (fun K hK => ?_) (fun K hK => ?_)
  rotate_left
  · have hHeldOld := hHeld
    go_simp
    refine hK.out _ _ ?zs83 (fun hHeld => ?zr83)
    case zs83 => exact hHeld.step ((Below.refl _ _).alloc (Nat.le_refl _) _) hHeld.size
    have hAl83 := AlAt.start hHeldOld
    clear hK K hHeldOld
    (try simp only [Act.put, List.setIfInBounds_toArray, List.set_cons_zero, List.set_cons_succ])
    refine runH_22 (by kernel_rfl) (fun K hK => ?_)
    go_simp
    go_at_call 89
    refine (HWR.out _).mono ?_
    rintro e w84 ⟨rfl, hb⟩
    go_wp2_with fail
    refine hK.out _ _ ?zs84 (fun hHeld => ?zr84)
    case zs84 => exact hHeld.step hb hHeld.size
    have hAl84 := hAl83.step hb hAl83.lt
    clear hAl83
    clear hb hK K
    (try simp only [Act.put, List.setIfInBounds_toArray, List.set_cons_zero, List.set_cons_succ])
    refine' takeH_23 _ (by kernel_rfl) (by kernel_rfl) (by kernel_rfl) (fun _ _ _ h => h) (by rfl) ?zy85 hHeld ?zr85
    case zy85 => (intro w hSw; obtain ⟨_, _, c3, c4, c5, c6, c7, _, _, _⟩ := hSw; go_simp; try with_reducible rfl)
    (try simp only [Act.put, List.setIfInBounds_toArray, List.set_cons_zero, List.set_cons_succ])
    have q0 := hAl84.out 0 (by omega)
    have q1 := hAl84.out 1 (by omega)
    have q2 := hAl84.out 2 (by omega)
    have q3 := hAl84.out 3 (by omega)
    have q4 := hAl84.out 4 (by omega)
    have qf := hAl84.free
    have HH : Hid _ := hHeld
    have HA : Hid _ := hAl84
    clear hHeld hAl84
    refine runH_25 (by kernel_rfl) (fun K hK => ?_)
    go_simp
    refine hK.out _ _ ?zs86 (fun hHeld => ?zr86)
    case zs86 => exact HH.out.step (below_five_at (Below.refl _ _) (Nat.le_refl _) _ _ _ _ _) HA.out.le
    clear hK K hHeld
    (try simp only [Act.put, List.setIfInBounds_toArray, List.set_cons_zero, List.set_cons_succ])
    refine wpAnyH_done (by kernel_rfl) ?_ _
    show K4 _ _
    exact HTail _ _ _ ⟨HH.out, HA.out, rfl⟩
  go_simp
  go_at_call 89
  refine (HWR.out _).mono ?_
  rintro e w87 ⟨rfl, hb⟩
  go_wp2_with fail
  refine hK.out _ _ ?zs87 (fun hHeld => ?zr87)
  case zs87 => exact hHeld.step hb hHeld.size
  clear hb hK K
  (try simp only [Act.put, List.setIfInBounds_toArray, List.set_cons_zero, List.set_cons_succ])
  refine' takeH_23 _ (by kernel_rfl) (by kernel_rfl) (by kernel_rfl) (fun _ _ _ h => h) (by rfl) ?zy88 hHeld ?zr88
  case zy88 => (intro w hSw; obtain ⟨_, _, c3, c4, c5, c6, c7, _, _, _⟩ := hSw; go_simp; try with_reducible rfl)
  (try simp only [Act.put, List.setIfInBounds_toArray, List.set_cons_zero, List.set_cons_succ])
  refine runH_24 (by kernel_rfl) (fun K hK => ?_)
  have hHeldOld := hHeld
  go_simp
  refine hK.out _ _ ?zs89 (fun hHeld => ?zr89)
  case zs89 => exact hHeld.step ((Below.refl _ _).alloc (Nat.le_refl _) _) hHeld.size
  have hAl89 := AlAt.start hHeldOld
  clear hK K hHeldOld
  (try simp only [Act.put, List.setIfInBounds_toArray, List.set_cons_zero, List.set_cons_succ])
  generalize World.alloc w87 (.cells #[.int .i64 0, .int .i64 0, .int .i64 0, .int .i64 0, .int .i64 0] 23) = WA at *
  have q0 := hAl89.out 0 (by omega)
  have q1 := hAl89.out 1 (by omega)
  have q2 := hAl89.out 2 (by omega)
  have q3 := hAl89.out 3 (by omega)
  have q4 := hAl89.out 4 (by omega)
  have qf := hAl89.free
  have HH : Hid _ := hHeld
  have HA : Hid _ := hAl89
  clear hHeld hAl89
  refine runH_25 (by kernel_rfl) (fun K hK => ?_)
  go_simp
  refine hK.out _ _ ?zs90 (fun hHeld => ?zr90)
  case zs90 => exact HH.out.step (below_five_at (Below.refl _ _) (Nat.le_refl _) _ _ _ _ _) HA.out.le
  clear hK K hHeld
  (try simp only [Act.put, List.setIfInBounds_toArray, List.set_cons_zero, List.set_cons_succ])
  refine wpAnyH_done (by kernel_rfl) ?_ _
  show K4 _ _
  exact HTail _ _ _ ⟨HH.out, HA.out, rfl⟩
end Go.Proofs.YtdcmdjeooklmjaaDoor

/-
  Walks: package code's shortRow.read, whole.
-/
namespace Go.Proofs.YtdcmdjeooklmjaaDoor
open Go.RowKit

set_option maxRecDepth 100000 in
set_option maxHeartbeats 4000000 in
theorem sread_no (r : Hm.RowC) (x : Int) (w : World) (hr : Hm.RowOk r) (x0 : 0 ≤ x) (x1 : x < 65536) (hm : Hm.matchS r x = false) :
    Calls Tryd.prog 69 #[rowRV r, .int .u16 x] w fun e w' => e = .returned (instOk 0 ⟨0, 0, 0, 0⟩ false) ∧ Below w.heap.size w w' := by
  have hmm : ¬ bits .and .u16 x r.mask = r.bits := by
    rw [u16_and x r.mask x0 x1 hr.mask.1 hr.mask.2]
    unfold Hm.matchS Hm.andI at hm
    simpa using hm
  unfold rowRV
  go_enter Tryd.func69, Tryd.ntmps69
  go_wp2
  exact bodyPost_ret (v := instOk 0 ⟨0, 0, 0, 0⟩ false) (by simp [results, Tryd.results69, go_sem, instOk]) rfl ⟨rfl, ((Below.refl _ _).alloc (Nat.le_refl _) _).alloc (by simp) _⟩

theorem sread_any (r : Hm.RowC) (x : Int) (w : World) (ht : Tab w) (hr : Hm.RowOk r) (hnt : r.not' = 0 ∨ r.not' = 1 ∨ r.not' = 2 ∨ r.not' = 5 ∨ r.not' = 8 ∨ r.not' = 16) (x0 : 0 ≤ x) (x1 : x < 65536) :
    Calls Tryd.prog 69 #[rowRV r, .int .u16 x] w fun e w' => e = .returned (instOk (Hm.readO r x) (Hm.readF r x) (Hm.readK r x)) ∧ Below w.heap.size w w' := by
  cases hm : Hm.matchS r x with
  | false =>
    rw [show Hm.readO r x = 0 by simp [Hm.readO, hm], show Hm.readF r x = ⟨0, 0, 0, 0⟩ by simp [Hm.readF, hm], show Hm.readK r x = false by simp [Hm.readK, hm]]
    exact sread_no r x w hr x0 x1 hm
  | true =>
    rw [show Hm.readO r x = r.op by simp [Hm.readO, hm], show Hm.readF r x = Hm.fldS r x by simp [Hm.readF, hm]]
    exact sread_yes r x w ht hr hnt x0 x1 hm
end Go.Proofs.YtdcmdjeooklmjaaDoor
