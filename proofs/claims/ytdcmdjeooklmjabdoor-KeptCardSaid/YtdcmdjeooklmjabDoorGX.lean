/-
  BA BC in one text.
-/
import Derived.Test.YtdcmdjeooklmjabDoorGW
import Derived.Test.YtdcmdjeooklmjabDoorGO
import Derived.Test.YtdcmdjeooklmjabDoorGD2
set_option linter.unusedVariables false
set_option linter.unusedSimpArgs false
/-
  Walks: package code's shortRow.write (made by gen_BA.py).
-/
namespace Go.Proofs.YtdcmdjeooklmjabDoor
open Go.RowKit

/-- What stays as it was while write goes on: the row's block, the instruction's block. -/
structure WrAt (r : Hm.RowC) (o d s t i : Int) (w W : World) : Prop where
  below : Below w.heap.size w W
  size : w.heap.size + 2 ≤ W.heap.size
  c1 : W.cell? ⟨w.heap.size, 1, none⟩ = some (.int .u16 r.bits)
  c2 : W.cell? ⟨w.heap.size, 2, none⟩ = some (.int .u8 r.op)
  c3 : W.cell? ⟨w.heap.size, 3, none⟩ = some (.int .u8 r.rd)
  c4 : W.cell? ⟨w.heap.size, 4, none⟩ = some (.int .u8 r.rs1)
  c5 : W.cell? ⟨w.heap.size, 5, none⟩ = some (.int .u8 r.rs2)
  c6 : W.cell? ⟨w.heap.size, 6, none⟩ = some (.int .u8 r.imm)
  i1 : W.cell? ⟨w.heap.size + 1, 1, none⟩ = some (.int .i64 d)
  i2 : W.cell? ⟨w.heap.size + 1, 2, none⟩ = some (.int .i64 s)
  i3 : W.cell? ⟨w.heap.size + 1, 3, none⟩ = some (.int .i64 t)
  i4 : W.cell? ⟨w.heap.size + 1, 4, none⟩ = some (.int .i64 i)
  i0 : W.cell? ⟨w.heap.size + 1, 0, none⟩ = some (.int .i64 o)
  row : W.rangeAt w.heap.size 0 [.int .u16 r.mask, .int .u16 r.bits, .int .u8 r.op, .int .u8 r.rd, .int .u8 r.rs1, .int .u8 r.rs2, .int .u8 r.imm, .int .u8 r.not']
  tab : Tab W
theorem WrAt.step {r : Hm.RowC} {o d s t i : Int} {w W W' : World} {B : Nat} (h : WrAt r o d s t i w W) (hb : Below B W W') (hB : w.heap.size + 2 ≤ B) (ht : 0 < w.heap.size := by assumption) : WrAt r o d s t i w W' where
  below := h.below.trans (hb.mono (by omega))
  size := by have := hb.size; have := h.size; omega
  c1 := by rw [bcell hb _ _ (by omega)]; exact h.c1
  c2 := by rw [bcell hb _ _ (by omega)]; exact h.c2
  c3 := by rw [bcell hb _ _ (by omega)]; exact h.c3
  c4 := by rw [bcell hb _ _ (by omega)]; exact h.c4
  c5 := by rw [bcell hb _ _ (by omega)]; exact h.c5
  c6 := by rw [bcell hb _ _ (by omega)]; exact h.c6
  i1 := by rw [bcell hb _ _ (by omega)]; exact h.i1
  i2 := by rw [bcell hb _ _ (by omega)]; exact h.i2
  i3 := by rw [bcell hb _ _ (by omega)]; exact h.i3
  i4 := by rw [bcell hb _ _ (by omega)]; exact h.i4
  i0 := by rw [bcell hb _ _ (by omega)]; exact h.i0
  row := fun j v hv => by rw [bcell hb _ _ (by omega)]; exact h.row j v hv
  tab := h.tab.below hb (by omega)
theorem WrAt.start (r : Hm.RowC) (o d s t i : Int) (w : World) (ht : Tab w) : WrAt r o d s t i w ((w.alloc (.cells #[.int .u16 r.mask, .int .u16 r.bits, .int .u8 r.op, .int .u8 r.rd, .int .u8 r.rs1, .int .u8 r.rs2, .int .u8 r.imm, .int .u8 r.not'] 137)).alloc (.cells #[.int .i64 o, .int .i64 d, .int .i64 s, .int .i64 t, .int .i64 i] 39)) where
  below := ((Below.refl _ _).alloc (Nat.le_refl _) _).alloc (by simp) _
  size := by simp
  c1 := by simp
  c2 := by simp
  c3 := by simp
  c4 := by simp
  c5 := by simp
  c6 := by simp
  i1 := by simp
  i2 := by simp
  i3 := by simp
  i4 := by simp
  i0 := by simp
  row := by
    intro j v h
    rw [World.cell?_alloc_lt _ _ _ (by simp), World.cell?_alloc_new, Nat.zero_add]
    simpa using h
  tab := (ht.alloc _).alloc _
def wrV (p : Int) (b : Bool) : Value := .tuple #[.int .u16 p, .bool b]
theorem ret_wr {p p' : Int} {b b' : Bool} (h1 : p = p') (h2 : b = b') : Ending.returned (.tuple #[.int .u16 p, .bool b]) = .returned (wrV p' b') := by rw [h1, h2]; rfl
theorem or_u16 {a b : Int} (ha : Hm.U16 a) (hb : Hm.U16 b) : bits .or .u16 a b = Hm.orI a b := u16_or a b ha.1 ha.2 hb.1 hb.2

end Go.Proofs.YtdcmdjeooklmjabDoor

/-
  Walks: package code's Expand.
-/
namespace Go.Proofs.YtdcmdjeooklmjabDoor
open Go.RowKit

/-- A goal that the walk lets be. -/
theorem unhid {p : Prop} (h : Hid p) : p := h
def rowRL (r : Hm.RowC) : Array Value := #[.int .u16 r.mask, .int .u16 r.bits, .int .u8 r.op, .int .u8 r.rd, .int .u8 r.rs1, .int .u8 r.rs2, .int .u8 r.imm, .int .u8 r.not']
/-- Both tables lie in their variables' blocks. -/
structure Tabs (w : World) : Prop where
  tab : Tab w
  lt : 1 < w.heap.size
  row : ∀ k, k < 26 → w.rangeAt 1 (k * 8) (rowRL (Hm.rowC k)).toList
theorem Tabs.below {B : Nat} {w w' : World} (h : Tabs w) (hb : Below B w w') (hB : w.heap.size ≤ B) : Tabs w' where
  tab := h.tab.below hb (Nat.lt_of_lt_of_le h.tab.1 hB)
  lt := Nat.lt_of_lt_of_le h.lt hb.size
  row := fun k hk j v hv => by rw [bcell hb _ _ (Nat.lt_of_lt_of_le h.lt hB)]; exact h.row k hk j v hv
theorem Tabs.alloc {w : World} (h : Tabs w) (o : Obj) : Tabs (w.alloc o) := h.below ((Below.refl _ _).alloc (Nat.le_refl _) o) (Nat.le_refl _)

set_option maxRecDepth 100000 in
set_option maxHeartbeats 4000000 in
theorem cexpand_any (x : Int) (w : World) (ht : Tabs w) (x0 : 0 ≤ x) (x1 : x < 65536) :
    Calls Tryd.prog 49 #[.int .u16 x] w fun e w' => e = .returned (decVal (Hm.expC x)) ∧ Below w.heap.size w w' := by
  have HT : Hid (Tabs w) := ht
  clear ht
  have hand : bits .and .u16 x 3 = x % 4 := by
    rw [u16_and x 3 x0 x1 (by decide) (by decide)]
    obtain ⟨n, rfl⟩ := Int.eq_ofNat_of_zero_le x0
    rw [Int.toNat_natCast, show (3 : Int).toNat = 2 ^ 2 - 1 from rfl, Nat.and_two_pow_sub_one_eq_mod]
    omega
  by_cases hw : x % 4 = 3
  · have HD : Hid (Hm.expC x = ⟨0, ⟨0, 0, 0, 0⟩, 3⟩) := by simp [Hid, Hm.expC, hw]
    have hand' : bits .and .u16 x 3 = 3 := by rw [hand, hw]
    clear hand
    go_enter Tryd.func49, Tryd.ntmps49
    go_wp2
    exact bodyPost_ret (v := decVal ⟨0, ⟨0, 0, 0, 0⟩, 3⟩) (by simp [results, Tryd.results49, go_sem, decVal]) rfl ⟨ret_dec (by rw [HD.out]), (Below.refl _ _).alloc (Nat.le_refl _) _⟩
  · have HE : Hid (Hm.expC x = Hm.expCFrom x 26 0) := by simp [Hid, Hm.expC, hw]
    have hand' : (bits .and .u16 x 3 == 3) = false := by rw [hand]; simpa using hw
    clear hand
    go_enter Tryd.func49, Tryd.ntmps49
    go_wp2
    go_loopw [11] (fun o wr => ∃ k : Nat, k ≤ 26 ∧ o = .int .i64 k ∧ Hm.expCFrom x (26 - k) k = Hm.expC x ∧ DecAt w wr) (fun o _ => 26 - (intOf o).toNat)
    case atStart => exact ⟨0, by omega, rfl, HE.out.symm, DecAt.start w⟩
    case round =>
      obtain ⟨k, hk, rfl, hd0, hat⟩ := hrel
      have HD : Hid (Hm.expCFrom x (26 - k) k = Hm.expC x) := hd0
      clear hd0
      by_cases hlt : k < 26
      · have HTr : Hid (Tabs wr) := HT.out.below hat.below (Nat.le_refl _)
        have HROW : Hid (wr.rangeAt 1 (k * 8) (rowRL (Hm.rowC k)).toList) := HTr.out.row k hlt
        have hgl := HTr.out.lt
        go_wp2_with ((with_reducible refine' wl_load_at HROW.out ?zq1 ?zq2 ?zq3 ?zq4 ?zq5); (case zq1 => rfl); (case zq2 => exact Tryd.underlying137); (case zq3 => rfl); (case zq4 => kernel_rfl))
        refine (sread_any (Hm.rowC k) x _ HTr.out.tab (Hm.row_ok hlt) (Hm.not_all hlt) x0 x1).mono ?_
        rintro e w1 ⟨rfl, hb⟩
        have hat1 := hat.step hb hat.size
        clear hb hat HROW hgl
        cases hr : Hm.readK (Hm.rowC k) x with
        | false =>
          have HD2 : Hid (Hm.expCFrom x (26 - (k + 1)) (k + 1) = Hm.expC x) := by
            have := HD.out
            rw [show 26 - k = (26 - (k + 1)) + 1 from by omega, Hm.expCFrom_no hr] at this
            exact this
          generalize Hm.readO (Hm.rowC k) x = ro at *
          generalize Hm.readF (Hm.rowC k) x = rf at *
          unfold instOk
          clear hr
          go_wp2
          go_roundw
          case rel => exact ⟨k + 1, by omega, by go_num, HD2.out, hat1.step ((Below.refl _ _).alloc (Nat.le_refl _) _) hat1.size⟩
          case measure => simp [intOf]; omega
        | true =>
          have hm : Hm.matchS (Hm.rowC k) x = true := by unfold Hm.readK at hr; cases h : Hm.matchS (Hm.rowC k) x <;> simp_all
          have HD2 : Hid (Hm.expC x = ⟨(Hm.rowC k).op, Hm.fldS (Hm.rowC k) x, 0⟩) := by
            have := HD.out
            rw [show 26 - k = (26 - (k + 1)) + 1 from by omega, Hm.expCFrom_yes hr] at this
            exact this.symm
          rw [show Hm.readO (Hm.rowC k) x = (Hm.rowC k).op by simp [Hm.readO, hm], show Hm.readF (Hm.rowC k) x = Hm.fldS (Hm.rowC k) x by simp [Hm.readF, hm]]
          clear hr hm
          have r0 := hat1.out 0 (by omega)
          have r1 := hat1.out 1 (by omega)
          have r2 := hat1.out 2 (by omega)
          have r3 := hat1.out 3 (by omega)
          have r4 := hat1.out 4 (by omega)
          have hfr := hat1.free
          have hz1 := hat1.size
          have HB4 : Hid (Below w.heap.size w w1) := hat1.below
          clear hat1
          generalize Hm.fldS (Hm.rowC k) x = fl at *
          generalize (Hm.rowC k).op = ro at *
          unfold instOk
          have j0 : (w1.alloc (.cells #[.int .i64 ro, .int .i64 fl.d, .int .i64 fl.r, .int .i64 fl.t, .int .i64 fl.imm] 39)).cell? ⟨w.heap.size, 0, none⟩ = some (.int .i64 0) := by rw [World.cell?_alloc_lt _ _ _ hz1]; exact r0
          have j1 : (w1.alloc (.cells #[.int .i64 ro, .int .i64 fl.d, .int .i64 fl.r, .int .i64 fl.t, .int .i64 fl.imm] 39)).cell? ⟨w.heap.size, 1, none⟩ = some (.int .i64 0) := by rw [World.cell?_alloc_lt _ _ _ hz1]; exact r1
          have j2 : (w1.alloc (.cells #[.int .i64 ro, .int .i64 fl.d, .int .i64 fl.r, .int .i64 fl.t, .int .i64 fl.imm] 39)).cell? ⟨w.heap.size, 2, none⟩ = some (.int .i64 0) := by rw [World.cell?_alloc_lt _ _ _ hz1]; exact r2
          have j3 : (w1.alloc (.cells #[.int .i64 ro, .int .i64 fl.d, .int .i64 fl.r, .int .i64 fl.t, .int .i64 fl.imm] 39)).cell? ⟨w.heap.size, 3, none⟩ = some (.int .i64 0) := by rw [World.cell?_alloc_lt _ _ _ hz1]; exact r3
          have j4 : (w1.alloc (.cells #[.int .i64 ro, .int .i64 fl.d, .int .i64 fl.r, .int .i64 fl.t, .int .i64 fl.imm] 39)).cell? ⟨w.heap.size, 4, none⟩ = some (.int .i64 0) := by rw [World.cell?_alloc_lt _ _ _ hz1]; exact r4
          have k0 : (w1.alloc (.cells #[.int .i64 ro, .int .i64 fl.d, .int .i64 fl.r, .int .i64 fl.t, .int .i64 fl.imm] 39)).cell? ⟨w1.heap.size, 0, none⟩ = some (.int .i64 ro) := by simp
          have k1 : (w1.alloc (.cells #[.int .i64 ro, .int .i64 fl.d, .int .i64 fl.r, .int .i64 fl.t, .int .i64 fl.imm] 39)).cell? ⟨w1.heap.size, 1, none⟩ = some (.int .i64 fl.d) := by simp
          have k2 : (w1.alloc (.cells #[.int .i64 ro, .int .i64 fl.d, .int .i64 fl.r, .int .i64 fl.t, .int .i64 fl.imm] 39)).cell? ⟨w1.heap.size, 2, none⟩ = some (.int .i64 fl.r) := by simp
          have k3 : (w1.alloc (.cells #[.int .i64 ro, .int .i64 fl.d, .int .i64 fl.r, .int .i64 fl.t, .int .i64 fl.imm] 39)).cell? ⟨w1.heap.size, 3, none⟩ = some (.int .i64 fl.t) := by simp
          have k4 : (w1.alloc (.cells #[.int .i64 ro, .int .i64 fl.d, .int .i64 fl.r, .int .i64 fl.t, .int .i64 fl.imm] 39)).cell? ⟨w1.heap.size, 4, none⟩ = some (.int .i64 fl.imm) := by simp
          have hf5 : ∀ i, (w1.alloc (.cells #[.int .i64 ro, .int .i64 fl.d, .int .i64 fl.r, .int .i64 fl.t, .int .i64 fl.imm] 39)).frozen? ⟨w.heap.size, i, none⟩ = false := fun i => by
            have := ((Below.refl w1.heap.size w1).alloc (Nat.le_refl _) (.cells #[.int .i64 ro, .int .i64 fl.d, .int .i64 fl.r, .int .i64 fl.t, .int .i64 fl.imm] 39)).frozen (p := ⟨w.heap.size, i, none⟩) hz1
            rw [this]; exact hfr i
          have HB5 : Hid (Below w.heap.size w (w1.alloc (.cells #[.int .i64 ro, .int .i64 fl.d, .int .i64 fl.r, .int .i64 fl.t, .int .i64 fl.imm] 39))) := HB4.out.alloc (by omega) _
          clear r0 r1 r2 r3 r4 hfr
          go_wp2_with ((with_reducible refine' wl_load_new (d := _) ?zw1 ?zw2 ?zw3 ?zw4 ?zw5); (case zw1 => rfl); (case zw2 => exact Tryd.underlying39); (case zw3 => rfl); (case zw4 => kernel_rfl); (refine unhid ?_))
          unfold Hid
          generalize w1.alloc (.cells #[.int .i64 ro, .int .i64 fl.d, .int .i64 fl.r, .int .i64 fl.t, .int .i64 fl.imm] 39) = W5 at *
          go_wp2
          exact bodyPost_ret (v := decVal ⟨ro, fl, 0⟩) (by simp [results, Tryd.results49, go_sem, decVal, j0, j1, j2, j3, j4]) rfl ⟨ret_dec (by rw [HD2.out]), below_five HB5.out _ _ _ _ _⟩
      · have HD2 : Hid (Hm.expC x = ⟨0, ⟨0, 0, 0, 0⟩, 2⟩) := by
          have := HD.out
          rw [show 26 - k = 0 from by omega] at this
          exact this.symm
        have r0 := hat.out 0 (by omega)
        have r1 := hat.out 1 (by omega)
        have r2 := hat.out 2 (by omega)
        have r3 := hat.out 3 (by omega)
        have r4 := hat.out 4 (by omega)
        have hfr := hat.free
        have HB4 : Hid (Below w.heap.size w wr) := hat.below
        clear hat HD
        go_wp2
        exact bodyPost_ret (v := decVal ⟨0, ⟨0, 0, 0, 0⟩, 2⟩) (by simp [results, Tryd.results49, go_sem, decVal, r0, r1, r2, r3, r4]) rfl ⟨ret_dec (by rw [HD2.out]), below_five HB4.out _ _ _ _ _⟩
end Go.Proofs.YtdcmdjeooklmjabDoor
