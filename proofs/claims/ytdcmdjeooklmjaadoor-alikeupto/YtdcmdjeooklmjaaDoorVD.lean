/-
  N8 N9 NB in one text.
-/
import Derived.Test.YtdcmdjeooklmjaaDoorVA
import Derived.Test.YtdcmdjeooklmjaaDoorGN
import Derived.Deep.QuietTactic
import Derived.BigQuiet
set_option linter.unusedVariables false
set_option linter.unusedSimpArgs false
/-
  Walks: what a compute makes: combined, shifted, product, quotient.
-/
namespace Go.Proofs.YtdcmdjeooklmjaaDoor
open Go.RowKit Go.PageMap Go.Maps

def combC (op a b : Int) : Int :=
  if op = 19 ∨ op = 28 then (a + b) % 4294967296 else if op = 29 then (a - b) % 4294967296 else if op = 22 ∨ op = 33 then bits .xor .u32 a b else if op = 23 ∨ op = 36 then bits .or .u32 a b else
  if op = 24 ∨ op = 37 then bits .and .u32 a b else if op = 20 ∨ op = 31 then (if wrap32 a < wrap32 b then 1 else 0) else if a < b then 1 else 0
def shiftC (op a b : Int) : Int := if op = 25 ∨ op = 30 then a * 2 ^ b.toNat % 4294967296 else if op = 26 ∨ op = 34 then a / 2 ^ b.toNat else wrap32 a / 2 ^ b.toNat % 4294967296
def prodC (op a b : Int) : Int :=
  if op = 39 then wrap64 (wrap64 (wrap32 a) * wrap64 (wrap32 b)) / 4294967296 % 4294967296 else if op = 40 then wrap64 (wrap64 (wrap32 a) * wrap64 b) / 4294967296 % 4294967296 else
  if op = 41 then IntKind.u64.wrap (IntKind.u64.wrap a * IntKind.u64.wrap b) / 4294967296 % 4294967296 else a * b % 4294967296
def quoC (op a b : Int) : Int :=
  if b = 0 then (if op = 42 ∨ op = 43 then 4294967295 else a) else if op = 42 then wrap32 ((wrap32 a).tdiv (wrap32 b)) % 4294967296 else if op = 43 then a.tdiv b % 4294967296 else if op = 44 then (wrap32 a).tmod (wrap32 b) % 4294967296 else a.tmod b

set_option maxRecDepth 100000
theorem wrap32_ne {b : Int} (h0 : 0 ≤ b) (h1 : b < 4294967296) (h : b ≠ 0) : wrap32 b ≠ 0 := by
  unfold wrap32; omega
theorem m_product_any (w : World) (op a b : Int) :
    Calls Tryd.prog 185 #[.int .i64 op, .int .u32 a, .int .u32 b] w fun e w' => e = .returned (.int .u32 (prodC op a b)) ∧ w' = w := by
  go_enter Tryd.func185, Tryd.ntmps185
  go_wp2
  all_goals (go_ret; refine ⟨?_, rfl⟩; simp_all [prodC])
theorem m_shifted_any (w : World) (op a b : Int) (b0 : 0 ≤ b) (b1 : b < 32) :
    Calls Tryd.prog 187 #[.int .i64 op, .int .u32 a, .int .u32 b] w fun e w' => e = .returned (.int .u32 (shiftC op a b)) ∧ w' = w := by
  go_enter Tryd.func187, Tryd.ntmps187
  go_wp2
  all_goals (go_ret; refine ⟨?_, rfl⟩; simp_all [shiftC])
theorem m_quotient_any (w : World) (op a b : Int) (b0 : 0 ≤ b) (b1 : b < 4294967296) :
    Calls Tryd.prog 186 #[.int .i64 op, .int .u32 a, .int .u32 b] w fun e w' => e = .returned (.int .u32 (quoC op a b)) ∧ w' = w := by
  by_cases hb : b = 0
  · subst hb
    go_enter Tryd.func186, Tryd.ntmps186
    go_wp2
    all_goals (go_ret; refine ⟨?_, rfl⟩; simp_all [quoC])
  · have hw := wrap32_ne b0 b1 hb
    go_enter Tryd.func186, Tryd.ntmps186
    go_wp2
    all_goals (go_ret; refine ⟨?_, rfl⟩; simp_all [quoC])
theorem m_combined_any (w : World) (op a b : Int) :
    Calls Tryd.prog 188 #[.int .i64 op, .int .u32 a, .int .u32 b] w fun e w' => e = .returned (.int .u32 (combC op a b)) ∧ w' = w := by
  go_enter Tryd.func188, Tryd.ntmps188
  go_wp2
  all_goals (go_ret; refine ⟨?_, rfl⟩; simp_all [combC])
end Go.Proofs.YtdcmdjeooklmjaaDoor

/-
  Walks: code.FormatOf; a work's common part; compute's operand and result.
-/
namespace Go.Proofs.YtdcmdjeooklmjaaDoor
open Go.RowKit Go.PageMap Go.Maps

/-- What all works have in common. -/
structure Cm where
  op : Int
  rd : Nat
  rs1 : Nat
  rs2 : Nat
  imm : Int
  pc : Int
  n : Nat
def Cm.cells (c : Cm) : Array Value := #[.int .i64 c.op, .int .i64 c.rd, .int .i64 c.rs1, .int .i64 c.rs2, .int .i64 c.imm, .int .u32 c.pc, .int .i64 c.n]
def cmV (c : Cm) : Value := .agg #[.int .i64 c.op, .int .i64 c.rd, .int .i64 c.rs1, .int .i64 c.rs2, .int .i64 c.imm, .int .u32 c.pc, .int .i64 c.n]
structure CmOk (c : Cm) : Prop where
  rd : c.rd < 32
  rs1 : c.rs1 < 32
  rs2 : c.rs2 < 32
  pc0 : 0 ≤ c.pc
  pc1 : c.pc < 4294967296
  n : c.n = 1 ∨ c.n = 2
def Cm.next (c : Cm) : Int := (c.pc + 2 * c.n) % 4294967296
/-- The second operand. -/
def opdC (M : Mc) (c : Cm) : Int := if Hm.fmtOf c.op = 1 then M.regs c.rs2 else c.imm % 4294967296
def resC (c : Cm) (a b : Int) : Int :=
  if c.op = 1 then b * 4096 % 4294967296 else if c.op = 2 then (c.pc + b * 4096 % 4294967296) % 4294967296 else
  if c.op = 38 ∨ c.op = 39 ∨ c.op = 40 ∨ c.op = 41 then prodC c.op a b else if c.op = 42 ∨ c.op = 43 ∨ c.op = 44 ∨ c.op = 45 then quoC c.op a b else
  if c.op = 25 ∨ c.op = 30 ∨ c.op = 26 ∨ c.op = 34 ∨ c.op = 27 ∨ c.op = 35 then shiftC c.op a (b % 32) else combC c.op a b
/-- Registers hold numbers of 32 bits. -/
def RegsOk (M : Mc) : Prop := ∀ n, 0 ≤ M.regs n ∧ M.regs n < 4294967296

set_option maxRecDepth 100000
set_option maxHeartbeats 1000000 in
theorem m_fmtOf_any (op : Int) (w : World) (ht : Tab w) :
    Calls Tryd.prog 94 #[.int .i64 op] w fun e w' => e = .returned (.int .u8 (Hm.fmtOf op)) ∧ Below w.heap.size w w' := by
  have HT : Hid (Tab w) := ht
  clear ht
  have hfl := fld_row
  go_enter Tryd.func94, Tryd.ntmps94
  go_wp2_with fail
  refine (rowOf_any _ _ HT.out).mono ?_
  rintro e w1 ⟨rfl, hb⟩
  have HB : Hid (Below w.heap.size w w1) := hb
  clear hb
  go_wp2
  go_ret
  exact ⟨rfl, HB.out⟩
theorem m_next_any (w : World) (c : Cm) (h : CmOk c) :
    Calls Tryd.prog 129 #[cmV c] w fun e w' => e = .returned (.int .u32 c.next) ∧ Below w.heap.size w w' := by
  have hn : (c.pc + (c.n : Int) % 4294967296 * 2 % 4294967296) % 4294967296 = c.next := by unfold Cm.next; have := h.n; omega
  have HN : Hid _ := hn
  clear h hn
  unfold cmV
  go_enter Tryd.func129, Tryd.ntmps129
  go_wp2
  go_ret
  exact ⟨congrArg (fun x => Ending.returned (.int .u32 x)) HN.out, (Below.refl _ _).alloc (Nat.le_refl _) _⟩
theorem m_about_any (w : World) (c : Cm) :
    Calls Tryd.prog 167 #[cmV c] w fun e w' => e = .returned (cmV c) ∧ Below w.heap.size w w' := by
  unfold cmV
  go_enter Tryd.func167, Tryd.ntmps167
  go_wp2
  refine bodyPost_ret (v := cmV c) ?_ rfl ?_
  rotate_right
  · exact ⟨rfl, ((Below.refl _ _).alloc (Nat.le_refl _) _).alloc (by simp) _⟩
  rw [results_cell_one Tryd.results167]
  go_simp
  rfl
theorem At.drewN {W : World} {L : Lay} {M : Mc} (h : At W L M) (n : Nat) : At (W.drewN n) L M := h.blocks fun _ _ => rfl
theorem Steps.drewN (L : Lay) (w : World) (n : Nat) : Steps L w L (w.drewN n) := ⟨rfl, rfl, rfl, rfl, Nat.le_refl _, fun _ _ _ => rfl, fun _ h => .inl h⟩
theorem Below.drewNw {B : Nat} {a w : World} (h : Below B a w) (n : Nat) : Below B a (w.drewN n) := ⟨h.os, h.tape, h.output, h.size, h.block⟩
/-- A work's cells in a block. -/
def BoxAt (W : World) (B : Nat) (T : TypeId) (c : Cm) : Prop := W.heap[B]? = some (.cells c.cells T (0, 0))
theorem BoxAt.below {W W' : World} {B K : Nat} {T : TypeId} {c : Cm} (h : BoxAt W B T c) (hb : Below K W W') (hB : B < K) : BoxAt W' B T c := by rw [BoxAt, hb.block _ hB]; exact h
theorem BoxAt.cell {W : World} {B : Nat} {T : TypeId} {c : Cm} (h : BoxAt W B T c) : W.cell? ⟨B, 0, none⟩ = some (.int .i64 c.op) ∧ W.cell? ⟨B, 1, none⟩ = some (.int .i64 c.rd) ∧ W.cell? ⟨B, 2, none⟩ = some (.int .i64 c.rs1) ∧
    W.cell? ⟨B, 3, none⟩ = some (.int .i64 c.rs2) ∧ W.cell? ⟨B, 4, none⟩ = some (.int .i64 c.imm) ∧ W.cell? ⟨B, 5, none⟩ = some (.int .u32 c.pc) ∧ W.cell? ⟨B, 6, none⟩ = some (.int .i64 c.n) := by
  have hh : W.heap[B]? = some (.cells c.cells T (0, 0)) := h
  refine ⟨?_, ?_, ?_, ?_, ?_, ?_, ?_⟩ <;> simp [World.cell?, hh, Cm.cells]
theorem BoxAt.new (w : World) (T : TypeId) (c : Cm) : BoxAt (w.alloc (.cells c.cells T)) w.heap.size T c := heap_alloc_new _ _
theorem Tab.blocks {w w' : World} (h : Tab w) (hs : w.heap.size ≤ w'.heap.size) (hb : w'.heap[1]? = w.heap[1]?) : Tab w' := by
  refine ⟨Nat.lt_of_lt_of_le h.1 hs, fun k hk => ?_⟩
  rw [World.cell?_of_block (w := w) (w' := w') (a := ⟨1, k * 2, none⟩) hb, World.cell?_of_block (w := w) (w' := w') (a := ⟨1, k * 2 + 1, none⟩) hb]
  exact h.2 k hk
set_option maxHeartbeats 1000000 in
theorem m_operand_any (w : World) (L : Lay) (M : Mc) (c : Cm) (h : At w L M) (ht : Tab w) (hc : CmOk c) :
    Calls Tryd.prog 184 #[cmV c, .pointer (some ⟨L.b, 0, none⟩)] w fun e w' => e = .returned (.int .u32 (opdC M c)) ∧ Below w.heap.size w w' := by
  have hlt := h.cells.lt
  have HA : Hid (At w L M) := h
  have HT : Hid (Tab w) := ht
  have HC : Hid (CmOk c) := hc
  clear h ht hc
  unfold cmV
  go_enter Tryd.func184, Tryd.ntmps184
  go_wp2_with fail
  generalize hW : w.alloc _ = W0
  have HB0 : Hid (Below w.heap.size w W0) := by rw [Hid, ← hW]; exact (Below.refl _ _).alloc (Nat.le_refl _) _
  have HBx : Hid (BoxAt W0 w.heap.size 232 c) := by rw [Hid, ← hW]; exact BoxAt.new w _ c
  have hsz : W0.heap.size = w.heap.size + 1 := by rw [← hW]; simp
  have HSZ : Hid (W0.heap.size = w.heap.size + 1) := hsz
  clear hW hsz
  refine (m_fmtOf_any _ W0 (HT.out.below HB0.out HT.out.1)).mono ?_
  rintro e w1 ⟨rfl, hb1⟩
  have HB1 : Hid (Below w.heap.size w w1) := HB0.out.trans (hb1.mono (by have := HSZ.out; omega))
  obtain ⟨e0, e1, e2, e3, e4, e5, e6⟩ := (HBx.out.below hb1 (by have := HSZ.out; omega)).cell
  clear hb1 e5 e6 e1 e2
  have HA1 : Hid (At w1 L M) := HA.out.below HB1.out (Nat.le_refl _)
  by_cases hf : Hm.fmtOf c.op = 1
  · have HF : Hid (opdC M c = M.regs c.rs2) := by rw [Hid, opdC, if_pos hf]
    have hf' : (Hm.fmtOf c.op == 1) = true := by simp [hf]
    go_wp2_with fail
    go_quiet ((go_at_call 171; exact Calls.quiet_of_same (m_register_any _ L M c.rs2 (HA1.out.drewN _) HC.out.rs2)))
    go_wp2
    go_ret
    exact ⟨congrArg (fun x => Ending.returned (.int .u32 x)) HF.out.symm, Below.drewNw HB1.out _⟩
  · have HF : Hid (opdC M c = c.imm % 4294967296) := by rw [Hid, opdC, if_neg hf]
    have hf' : (Hm.fmtOf c.op == 1) = false := by simp [hf]
    go_wp2
    go_ret
    exact ⟨congrArg (fun x => Ending.returned (.int .u32 x)) HF.out.symm, HB1.out⟩
end Go.Proofs.YtdcmdjeooklmjaaDoor

/-
  Walks: compute's result.
-/
namespace Go.Proofs.YtdcmdjeooklmjaaDoor
open Go.RowKit Go.PageMap Go.Maps

theorem and31 (b : Int) (b0 : 0 ≤ b) (b1 : b < 4294967296) : bits .and .u32 b 31 = b % 32 := by
  rw [u32_and b 31 b0 b1 (by decide) (by decide)]
  obtain ⟨n, rfl⟩ := Int.eq_ofNat_of_zero_le b0
  have h := Nat.and_two_pow_sub_one_eq_mod n 5
  have e : ((n : Int).toNat &&& (31 : Int).toNat) = n % 32 := by simpa using h
  rw [e]; omega
theorem opdC_u32 (M : Mc) (c : Cm) (h : RegsOk M) : 0 ≤ opdC M c ∧ opdC M c < 4294967296 := by
  unfold opdC
  split
  · exact h _
  · omega
set_option maxRecDepth 100000
set_option maxHeartbeats 4000000 in
theorem m_result_any (w : World) (L : Lay) (M : Mc) (c : Cm) (h : At w L M) (ht : Tab w) (hc : CmOk c) (hr : RegsOk M) :
    Calls Tryd.prog 183 #[cmV c, .pointer (some ⟨L.b, 0, none⟩)] w fun e w' => e = .returned (.int .u32 (resC c (M.regs c.rs1) (opdC M c))) ∧ Below w.heap.size w w' := by
  have hlt := h.cells.lt
  obtain ⟨b0, b1⟩ := opdC_u32 M c hr
  have hand := and31 _ b0 b1
  have HA : Hid (At w L M) := h
  have HT : Hid (Tab w) := ht
  have HC : Hid (CmOk c) := hc
  clear h ht hc
  unfold cmV
  go_enter Tryd.func183, Tryd.ntmps183
  go_wp2_with fail
  generalize hW : w.alloc _ = W0
  have HB0 : Hid (Below w.heap.size w W0) := by rw [Hid, ← hW]; exact (Below.refl _ _).alloc (Nat.le_refl _) _
  have HBx : Hid (BoxAt W0 w.heap.size 232 c) := by rw [Hid, ← hW]; exact BoxAt.new w _ c
  have hsz : w.heap.size < W0.heap.size := by rw [← hW]; simp
  have hgl : 1 < w.heap.size := HT.out.1
  obtain ⟨e0, e1, e2, e3, e4, e5, e6⟩ := HBx.out.cell
  have HA0 : Hid (At W0 L M) := HA.out.below HB0.out (Nat.le_refl _)
  have HT0 : Hid (Tab W0) := HT.out.below HB0.out HT.out.1
  clear hW
  have HB00 : Hid (Below w.heap.size w W0.drew) := HB0.out.drew
  go_region_with (first
    | (go_at_call 171; refine (m_register_any _ L M c.rs1 (by first | exact HA0.out.drew | exact HA1.out) HC.out.rs1).mono ?_; rintro e w' ⟨rfl, rfl⟩)
    | (go_at_call 184; refine (m_operand_any W0.drew L M c HA0.out.drew (HT0.out.blocks (Nat.le_refl _) rfl) HC.out).mono ?_; rintro e w1 ⟨rfl, hb1⟩; have HA1 : Hid (At w1 L M) := HA0.out.drew.below hb1 (Nat.le_refl _); have HB1 : Hid (Below w.heap.size w w1) := HB00.out.trans (hb1.mono (Nat.le_of_lt hsz)); obtain ⟨f0, f1, f2, f3, f4, f5, f6⟩ := (BoxAt.below (W := W0.drew) HBx.out hb1 hsz).cell; clear hb1))
  all_goals clear e0 e1 e2 e3 e4 e5 e6 f1 f3 f4 f6
  all_goals (generalize hop : c.op = op at *; have HOP : Hid (c.op = op) := hop; clear hop)
  all_goals go_wp2_with (first
    | (go_at_call 185; refine (m_product_any _ _ _ _).mono ?_; rintro e w2 ⟨rfl, rfl⟩)
    | (go_at_call 186; refine (m_quotient_any _ _ _ _ b0 b1).mono ?_; rintro e w2 ⟨rfl, rfl⟩)
    | (go_at_call 187; refine (m_shifted_any _ _ _ _ (by omega) (by omega)).mono ?_; rintro e w2 ⟨rfl, rfl⟩)
    | (go_at_call 188; refine (m_combined_any _ _ _ _).mono ?_; rintro e w2 ⟨rfl, rfl⟩))
  all_goals (
    go_ret
    refine ⟨?_, HB1.out⟩
    have hop := HOP.out
    clear HA HT HC HB0 HBx HA0 HT0 HB00 hr hlt hsz hgl HB1 HA1 f0 f2 f5 HOP b0 b1 hand
    simp_all [resC])
end Go.Proofs.YtdcmdjeooklmjaaDoor
