/-
  BK BQ in one text.
-/
import Derived.Test.YtdcmdjeooklmjaaDoorXA
import Derived.Test.YtdcmdjeooklmjaaDoorVJ
import Derived.ChangeKeysEq
set_option linter.unusedVariables false
set_option linter.unusedSimpArgs false
/-
  The worlds of Lively and Alike: a Setup's box, machines beside what is kept.
-/
namespace Go.Proofs.YtdcmdjeooklmjaaDoor
open Go.RowKit Go.PageMap Go.Maps
set_option maxRecDepth 100000
/-- From W to W' the blocks of F stay. -/
structure Kp (F : Nat → Prop) (W W' : World) : Prop where
  os : W'.os = W.os
  tape : W'.tape = W.tape
  output : W'.output = W.output
  size : W.heap.size ≤ W'.heap.size
  block : ∀ k, F k → W'.heap[k]? = W.heap[k]?
/-- A machine whose blocks are none of F. -/
structure MachAt (W : World) (F : Nat → Prop) (p : Nat) (M : Mc) : Prop where
  at' : ∃ L, HAt W p L M ∧ ∀ k, L.foot k → ¬ F k
  lt : ∀ k, F k → k < W.heap.size
section
variable {W W' : World} {F F' : Nat → Prop} {p : Nat} {M M' : Mc}
theorem MachAt.go (h : MachAt W F p M) (hb : Below W.heap.size W W') : MachAt W' F p M := by
  obtain ⟨L, hA, hf⟩ := h.at'
  exact ⟨⟨L, hA.below hb, hf⟩, fun k hk => Nat.lt_of_lt_of_le (h.lt k hk) hb.size⟩
theorem MachAt.less (h : MachAt W F p M) (hF : ∀ k, F' k → F k) : MachAt W F' p M := by
  obtain ⟨L, hA, hf⟩ := h.at'
  exact ⟨⟨L, hA, fun k hk hk' => hf k hk (hF k hk')⟩, fun k hk => h.lt k (hF k hk)⟩
/-- A new block is none of the machine's. -/
theorem MachAt.new (h : MachAt W F p M) (hb : Below W.heap.size W W') {g : Nat} (hg : W.heap.size ≤ g) (hg' : g < W'.heap.size) : MachAt W' (fun k => F k ∨ k = g) p M := by
  obtain ⟨L, hA, hf⟩ := h.at'
  refine ⟨⟨L, hA.below hb, fun k hk hk' => ?_⟩, fun k hk => ?_⟩
  · rcases hk' with hk' | rfl
    · exact hf k hk hk'
    · have := hA.at'.foot_lt hk; omega
  · rcases hk with hk | rfl
    · exact Nat.lt_of_lt_of_le (h.lt k hk) hb.size
    · exact hg'
theorem ma_Look (h : MachAt W F p M) :
    Calls Tryd.prog 28 #[.pointer (some ⟨p, 0, none⟩)] W fun e w' => e = .returned (lookV M) ∧ Below W.heap.size W w' := by
  obtain ⟨L, hA, hf⟩ := h.at'
  exact h_Look_any W p L M hA
theorem ma_Tick (x y : Bool) (h : MachAt W F p M) (ht : Tabs W) (hg : Good M) :
    Calls Tryd.prog 27 #[.pointer (some ⟨p, 0, none⟩), .bool x, .bool y] W fun e w' => e = .returned (.tuple #[]) ∧ MachAt w' F p (M.tick x y) ∧ Kp F W w' := by
  obtain ⟨L, hA, hf⟩ := h.at'
  refine (h_Tick_any W p L M x y hA ht hg.ok).mono ?_
  rintro e w' ⟨rfl, L', hA', hS⟩
  refine ⟨rfl, ⟨⟨L', hA', fun k hk hk' => ?_⟩, fun k hk => Nat.lt_of_lt_of_le (h.lt k hk) hS.size⟩, ⟨hS.os, hS.tape, hS.output, hS.size, fun k hk => hS.block k (h.lt k hk) (fun hk' => hf k hk' hk)⟩⟩
  rcases hS.foot k hk with h1 | h1
  · exact hf k h1 hk'
  · have := h.lt k hk'; omega
end
/-- The box of a Setup. -/
structure LvW (w : World) (S : Su) (rv pv : Value) (b : Nat) (W : World) : Prop where
  below : Below w.heap.size w W
  lo : w.heap.size ≤ b
  su : W.heap[b]? = some (.cells (suCells S rv pv) 53 (0, 0))
section
variable {w W W' : World} {S : Su} {rv pv : Value} {b p : Nat} {M : Mc} {F : Nat → Prop}
theorem LvW.lt (h : LvW w S rv pv b W) : b < W.heap.size := (Array.getElem?_eq_some_iff.1 h.su).1
theorem LvW.go (h : LvW w S rv pv b W) (hb : Below W.heap.size W W') : LvW w S rv pv b W' :=
  ⟨h.below.trans (hb.mono h.below.size), h.lo, by rw [hb.block _ h.lt]; exact h.su⟩
theorem LvW.kp (h : LvW w S rv pv b W) (hk : Kp F W W') (hF : ∀ k, k ≤ b → F k) : LvW w S rv pv b W' :=
  ⟨⟨hk.os.trans h.below.os, hk.tape.trans h.below.tape, hk.output.trans h.below.output, Nat.le_trans h.below.size hk.size, fun k hk' => (hk.block k (hF k (by have := h.lo; omega))).trans (h.below.block k hk')⟩, h.lo, by rw [hk.block b (hF b (Nat.le_refl _))]; exact h.su⟩
theorem LvW.start (w : World) (S : Su) (rv pv : Value) : LvW w S rv pv w.heap.size (w.alloc (.cells (suCells S rv pv) 53)) :=
  ⟨(Below.refl _ _).alloc (Nat.le_refl _) _, Nat.le_refl _, heap_alloc_new _ _⟩
theorem LvW.s0 (h : LvW w S rv pv b W) : W.cell? ⟨b, 0, none⟩ = some (.int .i64 S.line) := by simp only [World.cell?, h.su]; rfl
theorem LvW.s2 (h : LvW w S rv pv b W) : W.cell? ⟨b, 2, none⟩ = some (.bool S.fuse) := by simp only [World.cell?, h.su]; rfl
theorem LvW.range (h : LvW w S rv pv b W) : W.rangeAt b 0 (suCells S rv pv).toList := by
  intro j v hv
  simp only [World.cell?, h.su, Nat.zero_add]
  simpa using hv
/-- begun's machine, beside the box. -/
theorem lv_begun {line : Int} {fuse : Bool} (h : LvW w S rv pv b W) (ht : Tabs w) (hl : LineOk line) (hs : SuAt w S rv pv)
    (bg : ∀ W, Tabs W → SuAt W S rv pv → Calls Tryd.prog 25 #[.agg (suCells S rv pv), .int .i64 line, .bool fuse] W fun e w' => ∃ p L, e = .returned (.tuple #[.pointer (some ⟨p, 0, none⟩), .bool true]) ∧ HAt w' p L (begM S line fuse) ∧ Below W.heap.size W w' ∧ (∀ k, L.foot k → W.heap.size ≤ k) ∧ W.heap.size ≤ p) :
    Calls Tryd.prog 25 #[.agg (suCells S rv pv), .int .i64 line, .bool fuse] W fun e w' => ∃ p, e = .returned (.tuple #[.pointer (some ⟨p, 0, none⟩), .bool true]) ∧ MachAt w' (fun k => k ≤ b) p (begM S line fuse) ∧ LvW w S rv pv b w' := by
  refine (bg W (ht.below h.below (Nat.le_refl _)) (hs.go h.below)).mono ?_
  rintro e w' ⟨p, L, rfl, hA, hb, hf, _⟩
  have hlt := h.lt
  exact ⟨p, rfl, ⟨⟨L, hA, fun k hk hk' => by have := hf k hk; omega⟩, fun k hk => by have := hb.size; omega⟩, h.go hb⟩
end
/-- A round of Lively: the machine behind the tick, the States ahead of it and behind. -/
structure LvR (w : World) (S : Su) (rv pv : Value) (b p : Nat) (M : Mc) (gx gy : Nat) (LX LY : Array Value) (W : World) : Prop where
  lw : LvW w S rv pv b W
  m : MachAt W (fun k => k ≤ b) p M
  sx : W.heap[gx]? = some (.cells LX 61 (0, 0))
  sy : W.heap[gy]? = some (.cells LY 61 (0, 0))
section
variable {w W W' : World} {S : Su} {rv pv : Value} {b p gx gy : Nat} {M : Mc} {LX LY : Array Value}
theorem LvR.x (h : LvR w S rv pv b p M gx gy LX LY W) (i : Nat) : W.cell? ⟨gx, i, none⟩ = LX[i]? := by simp [World.cell?, h.sx]
theorem LvR.y (h : LvR w S rv pv b p M gx gy LX LY W) (i : Nat) : W.cell? ⟨gy, i, none⟩ = LY[i]? := by simp [World.cell?, h.sy]
theorem LvR.go (h : LvR w S rv pv b p M gx gy LX LY W) (hb : Below W.heap.size W W') : LvR w S rv pv b p M gx gy LX LY W' :=
  ⟨h.lw.go hb, h.m.go hb, by rw [hb.block _ (Array.getElem?_eq_some_iff.1 h.sx).1]; exact h.sx, by rw [hb.block _ (Array.getElem?_eq_some_iff.1 h.sy).1]; exact h.sy⟩
end
/-- A whole row is loaded by an operation that is guarded. -/
theorem wl_load_row_want {P : Program} {ops : Array Oper} {rest : List Oper} {o : Oper} {a : Act} {w : World} {Q : Exit → Act → World → Prop} (hw : Region.wanted o (yielded ops a.tmps) = true) (ty : TypeId) (x : Operand) (ho : o.op = .load ty x)
    (g : Nat) (hx : a.eval x = .pointer (some ⟨g, 0, none⟩)) (t : TypeId) (cs : Array Value) (fr : Nat × Nat) (d : TypeDesc) (hg : w.heap[g]? = some (.cells cs t fr))
    (hu : P.underlying ty = some d) (hd : (match d with | .struct _ | .array _ _ => true | _ => false) = true) (hi : (P.info? ty).map (·.size) = some cs.size)
    (h : wpList P ops Q rest (a.put o.dst (.agg cs)) w) : wpList P ops Q (o :: rest) a w :=
  wpList_step fun K hK => by rw [if_pos hw]; exact wp_load_row ty x ho g hx t cs fr d hg hu hd hi (hK _ _ h)
/-- The walk stops at a comparison of type t. -/
theorem stop_bin {P : Program} {ops : Array Oper} {rest : List Oper} {Q : Exit → Act → World → Prop} {a : Act} {w : World} {dst : Option Tmp} {op : BinOp} {t t2 ty : TypeId} {pos : String} {after : Array Edge} {x y : Operand} {g : Option (Nat × Bool)}
    (h : Hid (wpList P ops Q (⟨dst, .binOp op t x y t2, ty, pos, after, g⟩ :: rest) a w)) : wpList P ops Q (⟨dst, .binOp op t x y t2, ty, pos, after, g⟩ :: rest) a w := h
theorem wl_bin_want {P : Program} {ops : Array Oper} {rest : List Oper} {o : Oper} {a : Act} {w : World} {Q : Exit → Act → World → Prop} (hw : Region.wanted o (yielded ops a.tmps) = true) {op : BinOp} {t t2 : TypeId} {x y : Operand} (ho : o.op = .binOp op t x y t2)
    {xs ys : Array Value} (hx : a.eval x = .agg xs) (hy : a.eval y = .agg ys) (hm : P.eqGuardType P.depth t = false) {v : Value} (hr : (binOp op t (.agg xs) (.agg ys)).run P w = .ok v w)
    (h : wpList P ops Q rest (a.put o.dst v) w) : wpList P ops Q (o :: rest) a w :=
  wpList_step fun K hK => by
    rw [if_pos hw]
    unfold Oper.wp
    have e : (execOp a.eval o).run P w = .ok (.value v) w := by
      unfold execOp
      simp only [ho, hx, hy, Sem.run_bind, run_eqGuard_agg w op t x y xs ys hm, hr, Result.andThen_ok, Sem.run_pure]
    rw [e]; exact hK _ _ h
theorem wl_load_part_want {P : Program} {ops : Array Oper} {rest : List Oper} {o : Oper} {a : Act} {w : World} {Q : Exit → Act → World → Prop} (hw : Region.wanted o (yielded ops a.tmps) = true) {ty : TypeId} {x : Operand} (ho : o.op = .load ty x)
    {g off : Nat} (hx : a.eval x = .pointer (some ⟨g, off, none⟩)) {cs : Array Value} {d : TypeDesc} (hc : w.rangeAt g off cs.toList) (hu : P.underlying ty = some d) (hd : d.isRow = true) (hi : (P.info? ty).map (·.size) = some cs.size)
    (h : wpList P ops Q rest (a.put o.dst (.agg cs)) w) : wpList P ops Q (o :: rest) a w :=
  wpList_step fun K hK => by
    rw [if_pos hw]
    unfold Oper.wp
    rw [exec_load_part ho hx hc hu hd hi]
    exact hK _ _ h
end Go.Proofs.YtdcmdjeooklmjaaDoor

/-
  Two States that are the same, held against each other; likewise their registers.
-/
namespace Go.Proofs.YtdcmdjeooklmjaaDoor
open Go.RowKit Go.PageMap Go.Maps
set_option maxRecDepth 100000
theorem eqItems_same (w : World) (d : Nat) (xs : Array Value) : ∀ is : List Nat, (∀ i ∈ is, ∃ n, xs[i]? = some (.int .u32 n)) → (Op.eqItems (d + 1) 24 1 xs xs is).run Tryd.prog w = .ok true w
  | [], _ => by simp [Op.eqItems]
  | i :: is, h => by
    obtain ⟨n, hn⟩ := h i (by simp)
    have hp := run_part_plain (P := Tryd.prog) w (e := 24) (by kernel_rfl) (off := i * 1) (by rw [Nat.mul_one]; exact hn)
    have he := run_equalIn_int (P := Tryd.prog) w d 24 .u32 .u32 n n Tryd.underlying24
    have ih := eqItems_same w d xs is (fun j hj => h j (by simp [hj]))
    simp only [Op.eqItems, Sem.run_bind, hp, he, Result.andThen_ok, beq_self_eq_true, Bool.not_true, Bool.false_eq_true, if_false]
    exact ih
theorem cells_u32 : Tryd.prog.cellsOf 24 = 1 := by kernel_rfl
theorem info_u32 : ∃ i, Tryd.prog.info? 24 = some i := ⟨_, rfl⟩
theorem eqRegs_in (w : World) (d : Nat) (r : Nat → Int) : (Op.equalIn (d + 1 + 1) 59 (.agg (regsV r)) (.agg (regsV r))).run Tryd.prog w = .ok true w := by
  obtain ⟨i, hi⟩ := info_u32
  rw [run_equalIn_array w (d + 1) (regsV r) (regsV r) Tryd.underlying59 hi, cells_u32]
  exact eqItems_same w d _ _ (fun i hi => ⟨_, regsV_all r i (List.mem_range.1 hi)⟩)
/-- The registers of one and the same machine. -/
theorem eql_regs (w : World) (r : Nat → Int) : (binOp .eql 59 (.agg (regsV r)) (.agg (regsV r))).run Tryd.prog w = .ok (.bool true) w := by
  rw [run_eql_struct, show (10000 : Nat) = 9998 + 1 + 1 from rfl, eqRegs_in w 9998 r]; rfl
theorem part_regs (w : World) (M : Mc) : (part 59 (lookCells M) 5).run Tryd.prog w = .ok (.agg (regsV M.regs)) w := by kernel_rfl
theorem eqFields_step (w : World) (d : Nat) (K : Array Value) (f : Field) (fs : List Field) (a : Value) (hn : f.name ≠ "_") (p : (part f.type K f.offset).run Tryd.prog w = .ok a w) (q : (Op.equalIn d f.type a a).run Tryd.prog w = .ok true w) :
    (Op.eqFields d K K (f :: fs)).run Tryd.prog w = (Op.eqFields d K K fs).run Tryd.prog w := by
  simp only [Op.eqFields, ne_eq, hn, not_false_eq_true, if_true, Sem.run_bind, p, q, Result.andThen_ok, Bool.not_true, Bool.false_eq_true, if_false]
set_option maxHeartbeats 2000000 in
theorem eqState_gen (w : World) (d : Nat) (K R : Array Value) (a0 a2 a3 a4 : Int) (b1 : Bool) (h0 : K[0]? = some (.int .u32 a0)) (h1 : K[1]? = some (.bool b1)) (h2 : K[2]? = some (.int .i64 a2)) (h3 : K[3]? = some (.int .i64 a3)) (h4 : K[4]? = some (.int .i64 a4))
    (p5 : (part 59 K 5).run Tryd.prog w = .ok (.agg R) w) (q5 : (Op.equalIn (d + 1 + 1) 59 (.agg R) (.agg R)).run Tryd.prog w = .ok true w) :
    (Op.equalIn (d + 1 + 1 + 1) 61 (.agg K) (.agg K)).run Tryd.prog w = .ok true w := by
  have p0 := run_part_plain (P := Tryd.prog) w (e := 24) (by kernel_rfl) h0
  have p1 := run_part_plain (P := Tryd.prog) w (e := 4) (by kernel_rfl) h1
  have p2 := run_part_plain (P := Tryd.prog) w (e := 3) (by kernel_rfl) h2
  have p3 := run_part_plain (P := Tryd.prog) w (e := 3) (by kernel_rfl) h3
  have p4 := run_part_plain (P := Tryd.prog) w (e := 3) (by kernel_rfl) h4
  have q0 := run_equalIn_int (P := Tryd.prog) w (d + 1) 24 .u32 .u32 a0 a0 Tryd.underlying24
  have q1 := run_equalIn_bool (P := Tryd.prog) w (d + 1) 4 b1 b1 Tryd.underlying4
  have q2 := run_equalIn_int (P := Tryd.prog) w (d + 1) 3 .i64 .i64 a2 a2 Tryd.underlying3
  have q3 := run_equalIn_int (P := Tryd.prog) w (d + 1) 3 .i64 .i64 a3 a3 Tryd.underlying3
  have q4 := run_equalIn_int (P := Tryd.prog) w (d + 1) 3 .i64 .i64 a4 a4 Tryd.underlying3
  rw [run_equalIn_struct w (d + 1 + 1) 61 _ _ (by kernel_rfl) (by kernel_rfl)]
  simp only [Program.fieldsOf, Tryd.underlying61]
  rw [eqFields_step w (d + 1 + 1) K _ _ _ (by decide) p0 (q0.trans (by rw [beq_self_eq_true])), eqFields_step w (d + 1 + 1) K _ _ _ (by decide) p1 (q1.trans (by rw [beq_self_eq_true])), eqFields_step w (d + 1 + 1) K _ _ _ (by decide) p2 (q2.trans (by rw [beq_self_eq_true])), eqFields_step w (d + 1 + 1) K _ _ _ (by decide) p3 (q3.trans (by rw [beq_self_eq_true])), eqFields_step w (d + 1 + 1) K _ _ _ (by decide) p4 (q4.trans (by rw [beq_self_eq_true])), eqFields_step w (d + 1 + 1) K _ _ _ (by decide) p5 q5]
  simp only [Op.eqFields, Sem.run_pure]
theorem eqState_in (w : World) (d : Nat) (M : Mc) : (Op.equalIn (d + 1 + 1 + 1) 61 (.agg (lookCells M)) (.agg (lookCells M))).run Tryd.prog w = .ok true w :=
  eqState_gen w d (lookCells M) (regsV M.regs) M.pc M.cause M.done M.par.length (M.cause != 0) rfl rfl rfl rfl rfl (part_regs w M) (eqRegs_in w d M.regs)
theorem neq_state (w : World) (M : Mc) : (binOp .neq 61 (.agg (lookCells M)) (.agg (lookCells M))).run Tryd.prog w = .ok (.bool false) w := by
  rw [run_neq_struct, show (10000 : Nat) = 9997 + 1 + 1 + 1 from rfl, eqState_in w 9997 M]; rfl
end Go.Proofs.YtdcmdjeooklmjaaDoor
