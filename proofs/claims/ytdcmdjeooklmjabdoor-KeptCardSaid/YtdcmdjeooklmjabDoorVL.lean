/-
  NS NT in one text.
-/
import Derived.Test.YtdcmdjeooklmjabDoorVK
set_option linter.unusedVariables false
set_option linter.unusedSimpArgs false
/-
  One compute on a machine of its own: what alone comes to.
-/
namespace Go.Proofs.YtdcmdjeooklmjabDoor
open Go.RowKit Go.PageMap Go.Maps
def aloneR (a b : Int) : Nat → Int := fun j => if j = 1 then a else if j = 2 then b else 0
def aloneRs2 (op : Int) : Nat := if 28 ≤ op then 2 else 0
def aloneC (op imm : Int) : Cm := ⟨op, 3, 1, aloneRs2 op, imm, 0, 2⟩
/-- An instruction whose bits are X. -/
structure AloneOk (op imm X : Int) : Prop where
  comp : IsComp op
  enc : Hm.encC op 3 1 (aloneRs2 op) imm = X
  err : Hm.errC op 3 1 (aloneRs2 op) imm = 0
  x0 : 0 ≤ X
  x1 : X < 4294967296
  wide : X % 4 = 3
  short : X % 32 ≠ 31
  dec : Hm.decC X = ⟨op, ⟨3, 1, aloneRs2 op, imm⟩, 0⟩
def aloneM1 (a b X : Int) : Mc := { newMc 0 8 false (aloneR a b) with mem := wrL (fun _ => 0) 0 (leB X), par := [], ahead := 0 }
theorem leB_get (X : Int) : ∀ j : Nat, j < 4 → (((leB X).getD j 0).toNat : Int) = X / 2 ^ (8 * j) % 256 := by
  intro j hj
  have : j = 0 ∨ j = 1 ∨ j = 2 ∨ j = 3 := by omega
  rcases this with rfl | rfl | rfl | rfl
  · show ((UInt8.ofNat (X % 256).toNat).toNat : Int) = _
    rw [byteNat _ (by omega) (by omega)]; simp
  · show ((UInt8.ofNat (X / 256 % 256).toNat).toNat : Int) = _
    rw [byteNat _ (by omega) (by omega)]; rfl
  · show ((UInt8.ofNat (X / 65536 % 256).toNat).toNat : Int) = _
    rw [byteNat _ (by omega) (by omega)]; rfl
  · show ((UInt8.ofNat (X / 16777216 % 256).toNat).toNat : Int) = _
    rw [byteNat _ (by omega) (by omega)]; rfl
theorem memX (X : Int) (x : Int) : wrL (fun _ => 0) 0 (leB X) x = if 0 ≤ x ∧ x < 4 then X / 2 ^ (8 * x.toNat) % 256 else 0 := by
  have hl : (leB X).length = 4 := rfl
  rw [wrL_at (leB X) (fun _ => 0) 0 (by decide) (by rw [hl]; decide) x, hl]
  by_cases c : 0 ≤ x ∧ x < 4
  · rw [if_pos (by omega), if_pos c, leB_get X _ (by omega)]
    simp
  · rw [if_neg (by omega), if_neg c]
theorem memX_ok (X : Int) : MemOk (wrL (fun _ => 0) 0 (leB X)) := by
  intro x
  rw [memX]
  split <;> omega
theorem numX (X : Int) (x0 : 0 ≤ X) (x1 : X < 4294967296) : numAt (wrL (fun _ => 0) 0 (leB X)) 0 2 = X % 65536 ∧ numAt (wrL (fun _ => 0) 0 (leB X)) 2 2 = X / 65536 ∧ numAt (wrL (fun _ => 0) 0 (leB X)) 4 2 = 0 ∧ numAt (wrL (fun _ => 0) 0 (leB X)) 6 2 = 0 := by
  have e1 : (2 : Int) ^ (8 * 1) = 256 := rfl
  have e0 : (2 : Int) ^ (8 * 0) = 1 := rfl
  have e2 : (2 : Int) ^ (8 * 2) = 65536 := rfl
  have e3 : (2 : Int) ^ (8 * 3) = 16777216 := rfl
  have m0 : wrL (fun _ => 0) 0 (leB X) 0 = X % 256 := by rw [memX, if_pos (by decide)]; show X / 2 ^ (8 * 0) % 256 = _; rw [e0]; omega
  have m1 : wrL (fun _ => 0) 0 (leB X) 1 = X / 256 % 256 := by rw [memX, if_pos (by decide)]; rfl
  have m2 : wrL (fun _ => 0) 0 (leB X) 2 = X / 65536 % 256 := by rw [memX, if_pos (by decide)]; rfl
  have m3 : wrL (fun _ => 0) 0 (leB X) 3 = X / 16777216 % 256 := by rw [memX, if_pos (by decide)]; rfl
  have m4 : ∀ x : Int, 4 ≤ x → wrL (fun _ => 0) 0 (leB X) x = 0 := fun x hx => by rw [memX, if_neg (by omega)]
  generalize wrL (fun _ => 0) 0 (leB X) = f at *
  refine ⟨?_, ?_, ?_, ?_⟩
  · show 0 + f ((0 + (0 : Nat)) % 4294967296) * 2 ^ (8 * 0) + f ((0 + (1 : Nat)) % 4294967296) * 2 ^ (8 * 1) = _
    rw [e0, e1, show ((0 : Int) + (0 : Nat)) % 4294967296 = 0 from rfl, show ((0 : Int) + (1 : Nat)) % 4294967296 = 1 from rfl, m0, m1]; omega
  · show 0 + f ((2 + (0 : Nat)) % 4294967296) * 2 ^ (8 * 0) + f ((2 + (1 : Nat)) % 4294967296) * 2 ^ (8 * 1) = _
    rw [e0, e1, show ((2 : Int) + (0 : Nat)) % 4294967296 = 2 from rfl, show ((2 : Int) + (1 : Nat)) % 4294967296 = 3 from rfl, m2, m3]; omega
  · show 0 + f ((4 + (0 : Nat)) % 4294967296) * 2 ^ (8 * 0) + f ((4 + (1 : Nat)) % 4294967296) * 2 ^ (8 * 1) = _
    rw [e0, e1, show ((4 : Int) + (0 : Nat)) % 4294967296 = 4 from rfl, show ((4 : Int) + (1 : Nat)) % 4294967296 = 5 from rfl, m4 4 (by decide), m4 5 (by decide)]; rfl
  · show 0 + f ((6 + (0 : Nat)) % 4294967296) * 2 ^ (8 * 0) + f ((6 + (1 : Nat)) % 4294967296) * 2 ^ (8 * 1) = _
    rw [e0, e1, show ((6 : Int) + (0 : Nat)) % 4294967296 = 6 from rfl, show ((6 : Int) + (1 : Nat)) % 4294967296 = 7 from rfl, m4 6 (by decide), m4 7 (by decide)]; rfl
theorem alone_fetch (a b X : Int) (x0 : 0 ≤ X) (x1 : X < 4294967296) : (aloneM1 a b X).fetch = { aloneM1 a b X with par := [(0, X % 65536), (2, X / 65536), (4, 0), (6, 0)], ahead := 8 } := by
  obtain ⟨n0, n1, n2, n3⟩ := numX X x0 x1
  have hl : (aloneM1 a b X).left = 4 := rfl
  unfold Mc.fetch
  rw [hl, if_pos (by show 0 + 4 ≤ 48; decide)]
  simp only [Mc.fetchN, Mc.fetch1, aloneM1, newMc, List.nil_append, List.cons_append]
  simp only [show ((0 : Int) + 2) % 4294967296 = 2 from rfl, show ((2 : Int) + 2) % 4294967296 = 4 from rfl, show ((4 : Int) + 2) % 4294967296 = 6 from rfl, show ((6 : Int) + 2) % 4294967296 = 8 from rfl, n0, n1, n2, n3]
theorem alone_cut (a b op imm X : Int) (h : AloneOk op imm X) : cutC (aloneM1 a b X).fetch.par 0 = some (aloneC op imm) := by
  rw [alone_fetch a b X h.x0 h.x1]
  have h1 : Hm.expC (X % 65536) = ⟨0, ⟨0, 0, 0, 0⟩, 3⟩ := by unfold Hm.expC; rw [if_pos (by have := h.wide; omega)]
  have h2 : ¬ (X % 65536 % 32 = 31) := by have := h.short; omega
  simp only [cutC, List.getElem?_cons_zero, List.getElem?_cons_succ, h1, ne_eq, not_true, h2, or_self, if_false]
  rw [show X / 65536 * 65536 + X % 65536 = X by omega, h.dec]
  simp [cmOf, aloneC]
end Go.Proofs.YtdcmdjeooklmjabDoor

/-
  Walks: hartkeep's alone, of a compute.
-/
namespace Go.Proofs.YtdcmdjeooklmjabDoor
open Go.RowKit Go.PageMap Go.Maps
set_option maxRecDepth 100000
/-- The machine behind its one tick. -/
def aloneM2 (a b op imm X : Int) : Mc := ({ (aloneM1 a b X).fetch.comp (aloneC op imm) with done := wrap64 (((aloneM1 a b X).fetch.comp (aloneC op imm)).done + 1) } : Mc).clear false (aloneC op imm) 2
def aloneRes (a b op imm X : Int) : Int := resC (aloneC op imm) a (opdC (aloneM1 a b X).fetch (aloneC op imm))
theorem comp_ne (M : Mc) (c : Cm) (h : c.rd ≠ 0) : M.comp c = { M with regs := fun j => if j = c.rd then resC c (M.regs c.rs1) (opdC M c) else M.regs j, pc := c.next } := by unfold Mc.comp Mc.put; rw [if_neg h]
theorem alone_M2 (a b op imm X : Int) (h : AloneOk op imm X) : (aloneM2 a b op imm X).pc = 4 ∧ (aloneM2 a b op imm X).done = 1 ∧ (aloneM2 a b op imm X).regs 1 = a ∧ (aloneM2 a b op imm X).regs 2 = b ∧ (aloneM2 a b op imm X).regs 3 = aloneRes a b op imm X := by
  have hreg : (aloneM1 a b X).fetch.regs = zreg (aloneR a b) := by rw [alone_fetch a b X h.x0 h.x1]; rfl
  have hd : (aloneM1 a b X).fetch.done = 0 := by rw [alone_fetch a b X h.x0 h.x1]; rfl
  have hc := comp_ne (aloneM1 a b X).fetch (aloneC op imm) (show (3 : Nat) ≠ 0 by decide)
  have hr : (aloneM1 a b X).fetch.regs (aloneC op imm).rs1 = a := by rw [hreg]; rfl
  unfold aloneM2 Mc.clear
  rw [if_neg (by show ¬ (false = true ∨ (aloneC op imm).next ≠ (aloneC op imm).next); simp)]
  rw [hc]
  refine ⟨rfl, ?_, ?_, ?_, ?_⟩
  · show wrap64 ((aloneM1 a b X).fetch.done + 1) = 1
    rw [hd]; unfold wrap64; omega
  · show (if (1 : Nat) = 3 then (resC (aloneC op imm) ((aloneM1 a b X).fetch.regs (aloneC op imm).rs1) (opdC (aloneM1 a b X).fetch (aloneC op imm))) else (aloneM1 a b X).fetch.regs 1) = a
    rw [if_neg (by decide), hreg]; rfl
  · show (if (2 : Nat) = 3 then (resC (aloneC op imm) ((aloneM1 a b X).fetch.regs (aloneC op imm).rs1) (opdC (aloneM1 a b X).fetch (aloneC op imm))) else (aloneM1 a b X).fetch.regs 2) = b
    rw [if_neg (by decide), hreg]; rfl
  · show (if (3 : Nat) = 3 then (resC (aloneC op imm) ((aloneM1 a b X).fetch.regs (aloneC op imm).rs1) (opdC (aloneM1 a b X).fetch (aloneC op imm))) else (aloneM1 a b X).fetch.regs 3) = aloneRes a b op imm X
    rw [if_pos rfl, hr]; rfl
theorem alone_Tick (w : World) (p : Nat) (L : Lay) (a b op imm X : Int) (h : HAt w p L (aloneM1 a b X)) (ht : Tabs w) (ho : AloneOk op imm X) (a0 : 0 ≤ a) (a1 : a < 4294967296) (b0 : 0 ≤ b) (b1 : b < 4294967296) :
    Calls Tryd.prog 11 #[.pointer (some ⟨p, 0, none⟩), .bool false, .bool false] w fun e w' => e = .returned (.tuple #[]) ∧ ∃ L', HAt w' p L' (aloneM2 a b op imm X) ∧ Steps L w L' w' := by
  have hf := alone_fetch a b X ho.x0 ho.x1
  refine h_Tick_of w p L _ _ false false h (m_Tick_comp w L (aloneM1 a b X) (aloneC op imm) h.at' ht (memX_ok X) (.inr (.inl rfl)) ⟨by show (0 : Int) ≤ 0; decide, by show (0 : Int) < 4294967296; decide⟩ (by show 0 ≤ 48; decide) rfl rfl ?_ ?_ (alone_cut a b op imm X ho) ?_ ho.comp ?_)
  · rw [hf]
    intro q hq
    have hx0 := ho.x0; have hx1 := ho.x1
    simp only [List.mem_cons, List.not_mem_nil, or_false] at hq
    rcases hq with rfl | rfl | rfl | rfl <;> refine ⟨?_, ?_, ?_, ?_⟩ <;> dsimp only <;> omega
  · rw [hf]; show 4 ≤ 100; decide
  · rw [hf]; show 2 ≤ 4; decide
  · intro n
    show 0 ≤ zreg (aloneR a b) n ∧ zreg (aloneR a b) n < 4294967296
    unfold zreg aloneR
    split
    · decide
    · split
      · exact ⟨a0, a1⟩
      · split
        · exact ⟨b0, b1⟩
        · decide
/-- A machine that was made behind w: all that was in w is as it was. -/
structure Own (w : World) (L : Lay) (W : World) : Prop where
  below : Below w.heap.size w W
  foot : ∀ k, L.foot k → w.heap.size ≤ k
theorem own_start {w W : World} {L : Lay} (h : Below w.heap.size w W) (hf : ∀ k, L.foot k → w.heap.size ≤ k) : Own w L W := ⟨h, hf⟩
theorem Own.step {w W W' : World} {L L' : Lay} (h : Own w L W) (hs : Steps L W L' W') : Own w L' W' where
  below := h.below.trans ⟨hs.os, hs.tape, hs.output, hs.size, fun k hk => hs.block k (Nat.lt_of_lt_of_le hk h.below.size) (fun hf => by have := h.foot k hf; omega)⟩
  foot := fun k hk => (hs.foot k hk).elim (h.foot k) (fun h1 => Nat.le_trans h.below.size h1)
theorem Tabs.own {w W : World} {L : Lay} (h : Tabs w) (ho : Own w L W) : Tabs W := h.below ho.below (Nat.le_refl _)
theorem cfg_set (a b : Int) : ((cfgCells 0 8 false (fun _ => 0)).setIfInBounds 4 (.int .u32 a)).setIfInBounds 5 (.int .u32 b) = cfgCells 0 8 false (aloneR a b) := by kernel_rfl
set_option maxHeartbeats 4000000 in
theorem alone_any (w : World) (op a b imm X : Int) (ht : Tabs w) (ho : AloneOk op imm X) (a0 : 0 ≤ a) (a1 : a < 4294967296) (b0 : 0 ≤ b) (b1 : b < 4294967296) :
    Calls Tryd.prog 6 #[.int .i64 op, .int .u32 a, .int .u32 b, .int .i64 imm] w fun e w' => e = .returned (.tuple #[.int .u32 (aloneRes a b op imm X), .bool true]) ∧ Below w.heap.size w w' := by
  have HT : Hid (Tabs w) := ht
  have HO : Hid (AloneOk op imm X) := ho
  clear ht ho
  by_cases h28 : 28 ≤ op
  · have hrs : (aloneRs2 op : Int) = 2 := by simp [aloneRs2, h28]
    have HRS : Hid ((aloneRs2 op : Int) = 2) := hrs
    clear hrs
    go_enter Tryd.func6, Tryd.ntmps6
    go_wp2_with fail
    generalize hW : w.alloc _ = W0
    have HB0 : Hid (Below w.heap.size w W0) := by rw [Hid, ← hW]; exact (Below.refl _ _).alloc (Nat.le_refl _) _
    clear hW
    have hcall := hEncode op 3 1 2 imm W0 (HT.out.below HB0.out (Nat.le_refl _)).tab
    have henc := HO.out.enc
    have herr := HO.out.err
    rw [HRS.out] at henc herr
    rw [henc, herr] at hcall
    refine hcall.mono ?_
    clear hcall henc herr
    rintro e w1 ⟨rfl, hb1⟩
    have HB1 : Hid (Below w.heap.size w w1) := HB0.out.trans (hb1.mono HB0.out.size)
    clear hb1 HB0
    go_wp2_with (with_reducible refine' stop_build (t := 30) ?_)
    refine go_on ?_
    have HBU : Hid (Tryd.prog.built 30 [(1, .int .i64 8)] = some (cfgCells 0 8 false (fun _ => 0))) := by unfold Hid; kernel_rfl
    have hC0 : (cfgCells 0 8 false (fun _ => 0)).size = 35 := by kernel_rfl
    have hC1 : (cfgCells 0 8 false (fun _ => 0)).all (·.oneCell') = true := by kernel_rfl
    have HC4 : Hid ((cfgCells 0 8 false (fun _ => 0))[4]? = some (.int .u32 0) ∧ (cfgCells 0 8 false (fun _ => 0))[5]? = some (.int .u32 0)) := ⟨by kernel_rfl, by kernel_rfl⟩
    have HCS : Hid (((cfgCells 0 8 false (fun _ => 0)).setIfInBounds 4 (.int .u32 a)).setIfInBounds 5 (.int .u32 b) = cfgCells 0 8 false (aloneR a b)) := cfg_set a b
    generalize cfgCells 0 8 false (fun _ => 0) = C at *
    refine wl_build (cells := C) ((congrArg (Tryd.prog.built 30) (by simp [Act.eval])).trans HBU.out) ?_
    go_wp2_with (with_reducible refine' stop_store (t := 30) ?_)
    refine go_on ?_
    generalize hW : w1.alloc _ = W2
    have HF2 : Hid (Below w1.heap.size w1 W2 ∧ ∃ Z : Array Value, W2.heap[w1.heap.size]? = some (.cells Z 30 (0, 0)) ∧ Z.size = 35) := by
      rw [Hid, ← hW]; exact ⟨(Below.refl _ _).alloc (Nat.le_refl _) _, _, heap_alloc_new _ _, rfl⟩
    clear hW
    obtain ⟨Z, hz1, hz2⟩ := HF2.out.2
    refine wl_store_row (cells := C) (g := w1.heap.size) (old := Z) (t' := 30) rfl rfl hz1 (by rw [hC0]; kernel_rfl) (by rw [hC0]; exact hz2) hC1 (fun W3 hW3 => ?_)
    have HF3 : Hid (Below w1.heap.size w1 W3 ∧ W3.heap[w1.heap.size]? = some (.cells C 30 (0, 0))) := by
      rw [Hid, hW3.out]
      exact ⟨HF2.out.1.trans ⟨rfl, rfl, rfl, by simp, fun k hk => setRow_other _ _ _ _ (by omega)⟩, setRow_heap _ _ _ _ _ _ hz1⟩
    clear hW3 hz1 hz2 HF2 HBU
    have g4 : W3.cell? ⟨w1.heap.size, 4, none⟩ = some (.int .u32 0) := by simp only [World.cell?, HF3.out.2]; exact HC4.out.1
    have g5 : W3.cell? ⟨w1.heap.size, 5, none⟩ = some (.int .u32 0) := by simp only [World.cell?, HF3.out.2]; exact HC4.out.2
    have f4 : W3.frozen? ⟨w1.heap.size, 4, none⟩ = false := by simp [World.frozen?, HF3.out.2]
    have f5 : W3.frozen? ⟨w1.heap.size, 5, none⟩ = false := by simp [World.frozen?, HF3.out.2]
    go_wp2_with (with_reducible refine' stop_load (t := 30) ?_)
    refine go_on ?_
    have HF4 : Hid (Below w1.heap.size w1 ((W3.setCell ⟨w1.heap.size, 4, none⟩ (.int .u32 a)).setCell ⟨w1.heap.size, 5, none⟩ (.int .u32 b)) ∧ ((W3.setCell ⟨w1.heap.size, 4, none⟩ (.int .u32 a)).setCell ⟨w1.heap.size, 5, none⟩ (.int .u32 b)).heap[w1.heap.size]? = some (.cells (cfgCells 0 8 false (aloneR a b)) 30 (0, 0))) := by
      refine ⟨(HF3.out.1.setCell (Nat.le_refl _) _).setCell (Nat.le_refl _) _, ?_⟩
      rw [← HCS.out]
      exact heap_setCell_same _ _ _ _ _ _ (heap_setCell_same _ _ _ _ _ _ HF3.out.2)
    generalize (W3.setCell ⟨w1.heap.size, 4, none⟩ (.int .u32 a)).setCell ⟨w1.heap.size, 5, none⟩ (.int .u32 b) = W4 at *
    have hK0 : (cfgCells 0 8 false (aloneR a b)).size = 35 := by kernel_rfl
    have HNEW : Hid (∀ W, Gl W → Calls Tryd.prog 7 #[.agg (cfgCells 0 8 false (aloneR a b))] W fun e w' => ∃ p L, e = .returned (.tuple #[.pointer (some ⟨p, 0, none⟩), .int .i64 0]) ∧ HAt w' p L (newMc 0 8 false (aloneR a b)) ∧ Below W.heap.size W w' ∧ (∀ k, L.foot k → W.heap.size ≤ k) ∧ W.heap.size ≤ p) := fun W hW => h_New_any W 0 8 false (aloneR a b) hW (.inr (.inl rfl)) rfl (by decide)
    generalize cfgCells 0 8 false (aloneR a b) = K at *
    refine wpList_load_row rfl _ _ rfl w1.heap.size rfl 30 K (0, 0) _ HF4.out.2 Tryd.underlying30 rfl (by rw [hK0]; kernel_rfl) ?_
    clear g4 g5 f4 f5 HC4 HCS hC0 hC1 hK0 HF3
    have HB4 : Hid (Below w.heap.size w W4) := HB1.out.trans (HF4.out.1.mono HB1.out.size)
    clear HF4 HB1
    go_wp2_with (go_at_call 7; refine (HNEW.out W4 (HT.out.gl.le HB4.out.size)).mono ?_; rintro e w5 ⟨p, L, rfl, hA5, hb5, hf5, hp5⟩; have HA5 : Hid (HAt w5 p L (newMc 0 8 false (aloneR a b)) ∧ Below w.heap.size w w5 ∧ (∀ k, L.foot k → w.heap.size ≤ k) ∧ w.heap.size ≤ p) := ⟨hA5, HB4.out.trans (hb5.mono HB4.out.size), fun k hk => Nat.le_trans HB4.out.size (hf5 k hk), Nat.le_trans HB4.out.size hp5⟩; clear hA5 hb5 hf5 hp5)
    refine (little_any w5 X HO.out.x0 HO.out.x1).mono ?_
    rintro e w6 ⟨rfl, hb6⟩
    have HA6 : Hid (HAt w6 p L (newMc 0 8 false (aloneR a b)) ∧ Below w.heap.size w w6 ∧ (∀ k, L.foot k → w.heap.size ≤ k)) := ⟨HA5.out.1.below hb6, HA5.out.2.1.trans (hb6.mono HA5.out.2.1.size), HA5.out.2.2.1⟩
    clear hb6 HA5
    go_wp2_with (first
      | (go_at_call 9; refine (h_Poke_any w6 p L _ 0 _ HA6.out.1 (HT.out.gl.le HA6.out.2.1.size) (by decide) (by decide)).mono ?_; rintro e w7 ⟨rfl, L7, hA7, hS7⟩; have HA7 : Hid (HAt w7 p L7 (aloneM1 a b X)) := hA7; have HS7 : Hid (Own w L7 w7) := (own_start HA6.out.2.1 HA6.out.2.2).step hS7; clear hA7 hS7)
      | (go_at_call 11; refine (alone_Tick w7 p L7 a b op imm X HA7.out (HT.out.own HS7.out) HO.out a0 a1 b0 b1).mono ?_; rintro e w8 ⟨rfl, L8, hA8, hS8⟩; have HA8 : Hid (HAt w8 p L8 (aloneM2 a b op imm X)) := hA8; have HS8 : Hid (Own w L8 w8) := HS7.out.step hS8; clear hA8 hS8)
      | (go_at_call 12; refine (h_Look_any w8 p L8 _ HA8.out).mono ?_; rintro e w9 ⟨rfl, hb9⟩; have HB9 : Hid (Below w.heap.size w w9) := HS8.out.below.trans (hb9.mono HS8.out.below.size); clear hb9; unfold lookV; refine unhid ?_))
    obtain ⟨q1, q2, q3, q4, q5⟩ := alone_M2 a b op imm X HO.out
    have HLK : Hid ((lookCells (aloneM2 a b op imm X))[0]? = some (.int .u32 4) ∧ (lookCells (aloneM2 a b op imm X))[3]? = some (.int .i64 1) ∧ (lookCells (aloneM2 a b op imm X))[6]? = some (.int .u32 a) ∧ (lookCells (aloneM2 a b op imm X))[7]? = some (.int .u32 b) ∧ (lookCells (aloneM2 a b op imm X))[8]? = some (.int .u32 (aloneRes a b op imm X))) := by
      refine ⟨?_, ?_, ?_, ?_, ?_⟩
      · rw [← q1]; rfl
      · rw [← q2]; rfl
      · exact congrArg (fun z => some (Value.int .u32 z)) q3
      · exact congrArg (fun z => some (Value.int .u32 z)) q4
      · exact congrArg (fun z => some (Value.int .u32 z)) q5
    have hks : (lookCells (aloneM2 a b op imm X)).size = 37 := by kernel_rfl
    have hka : (lookCells (aloneM2 a b op imm X)).all (·.oneCell') = true := by kernel_rfl
    generalize lookCells (aloneM2 a b op imm X) = LK at *
    clear q1 q2 q3 q4 q5
    refine go_on ?_
    go_wp2_with (with_reducible refine' stop_store (t := 45) ?_)
    refine go_on ?_
    generalize hW : w9.alloc _ = WA
    have HFA : Hid (Below w.heap.size w WA ∧ ∃ Z : Array Value, WA.heap[w9.heap.size]? = some (.cells Z 45 (0, 0)) ∧ Z.size = 37) := by
      rw [Hid, ← hW]; exact ⟨HB9.out.alloc HB9.out.size _, _, heap_alloc_new _ _, rfl⟩
    clear hW
    obtain ⟨ZA, hz1, hz2⟩ := HFA.out.2
    refine wl_store_row (cells := LK) (g := w9.heap.size) (old := ZA) (t' := 45) rfl rfl hz1 (by rw [hks]; kernel_rfl) (by rw [hks]; exact hz2) hka (fun WB hWB => ?_)
    have HFB : Hid (Below w.heap.size w WB ∧ WB.heap[w9.heap.size]? = some (.cells LK 45 (0, 0))) := by
      rw [Hid, hWB.out]
      exact ⟨HFA.out.1.trans ⟨rfl, rfl, rfl, by simp, fun k hk => setRow_other _ _ _ _ (by have := HB9.out.size; omega)⟩, setRow_heap _ _ _ _ _ _ hz1⟩
    clear hWB hz1 hz2 HFA hks hka
    have c0 : WB.cell? ⟨w9.heap.size, 0, none⟩ = some (.int .u32 4) := by simp only [World.cell?, HFB.out.2]; exact HLK.out.1
    have c3 : WB.cell? ⟨w9.heap.size, 3, none⟩ = some (.int .i64 1) := by simp only [World.cell?, HFB.out.2]; exact HLK.out.2.1
    have c6 : WB.cell? ⟨w9.heap.size, 6, none⟩ = some (.int .u32 a) := by simp only [World.cell?, HFB.out.2]; exact HLK.out.2.2.1
    have c7 : WB.cell? ⟨w9.heap.size, 7, none⟩ = some (.int .u32 b) := by simp only [World.cell?, HFB.out.2]; exact HLK.out.2.2.2.1
    have c8 : WB.cell? ⟨w9.heap.size, 8, none⟩ = some (.int .u32 (aloneRes a b op imm X)) := by simp only [World.cell?, HFB.out.2]; exact HLK.out.2.2.2.2
    clear HLK
    go_wp2_with fail
    go_quiet (fail)
    go_wp2
    go_ret2
    exact ⟨rfl, Below.drewNw HFB.out.1 _⟩
  · have hrs : (aloneRs2 op : Int) = 0 := by simp [aloneRs2, h28]
    have HRS : Hid ((aloneRs2 op : Int) = 0) := hrs
    clear hrs
    go_enter Tryd.func6, Tryd.ntmps6
    go_wp2_with fail
    generalize hW : w.alloc _ = W0
    have HB0 : Hid (Below w.heap.size w W0) := by rw [Hid, ← hW]; exact (Below.refl _ _).alloc (Nat.le_refl _) _
    clear hW
    have hcall := hEncode op 3 1 0 imm W0 (HT.out.below HB0.out (Nat.le_refl _)).tab
    have henc := HO.out.enc
    have herr := HO.out.err
    rw [HRS.out] at henc herr
    rw [henc, herr] at hcall
    refine hcall.mono ?_
    clear hcall henc herr
    rintro e w1 ⟨rfl, hb1⟩
    have HB1 : Hid (Below w.heap.size w w1) := HB0.out.trans (hb1.mono HB0.out.size)
    clear hb1 HB0
    go_wp2_with (with_reducible refine' stop_build (t := 30) ?_)
    refine go_on ?_
    have HBU : Hid (Tryd.prog.built 30 [(1, .int .i64 8)] = some (cfgCells 0 8 false (fun _ => 0))) := by unfold Hid; kernel_rfl
    have hC0 : (cfgCells 0 8 false (fun _ => 0)).size = 35 := by kernel_rfl
    have hC1 : (cfgCells 0 8 false (fun _ => 0)).all (·.oneCell') = true := by kernel_rfl
    have HC4 : Hid ((cfgCells 0 8 false (fun _ => 0))[4]? = some (.int .u32 0) ∧ (cfgCells 0 8 false (fun _ => 0))[5]? = some (.int .u32 0)) := ⟨by kernel_rfl, by kernel_rfl⟩
    have HCS : Hid (((cfgCells 0 8 false (fun _ => 0)).setIfInBounds 4 (.int .u32 a)).setIfInBounds 5 (.int .u32 b) = cfgCells 0 8 false (aloneR a b)) := cfg_set a b
    generalize cfgCells 0 8 false (fun _ => 0) = C at *
    refine wl_build (cells := C) ((congrArg (Tryd.prog.built 30) (by simp [Act.eval])).trans HBU.out) ?_
    go_wp2_with (with_reducible refine' stop_store (t := 30) ?_)
    refine go_on ?_
    generalize hW : w1.alloc _ = W2
    have HF2 : Hid (Below w1.heap.size w1 W2 ∧ ∃ Z : Array Value, W2.heap[w1.heap.size]? = some (.cells Z 30 (0, 0)) ∧ Z.size = 35) := by
      rw [Hid, ← hW]; exact ⟨(Below.refl _ _).alloc (Nat.le_refl _) _, _, heap_alloc_new _ _, rfl⟩
    clear hW
    obtain ⟨Z, hz1, hz2⟩ := HF2.out.2
    refine wl_store_row (cells := C) (g := w1.heap.size) (old := Z) (t' := 30) rfl rfl hz1 (by rw [hC0]; kernel_rfl) (by rw [hC0]; exact hz2) hC1 (fun W3 hW3 => ?_)
    have HF3 : Hid (Below w1.heap.size w1 W3 ∧ W3.heap[w1.heap.size]? = some (.cells C 30 (0, 0))) := by
      rw [Hid, hW3.out]
      exact ⟨HF2.out.1.trans ⟨rfl, rfl, rfl, by simp, fun k hk => setRow_other _ _ _ _ (by omega)⟩, setRow_heap _ _ _ _ _ _ hz1⟩
    clear hW3 hz1 hz2 HF2 HBU
    have g4 : W3.cell? ⟨w1.heap.size, 4, none⟩ = some (.int .u32 0) := by simp only [World.cell?, HF3.out.2]; exact HC4.out.1
    have g5 : W3.cell? ⟨w1.heap.size, 5, none⟩ = some (.int .u32 0) := by simp only [World.cell?, HF3.out.2]; exact HC4.out.2
    have f4 : W3.frozen? ⟨w1.heap.size, 4, none⟩ = false := by simp [World.frozen?, HF3.out.2]
    have f5 : W3.frozen? ⟨w1.heap.size, 5, none⟩ = false := by simp [World.frozen?, HF3.out.2]
    go_wp2_with (with_reducible refine' stop_load (t := 30) ?_)
    refine go_on ?_
    have HF4 : Hid (Below w1.heap.size w1 ((W3.setCell ⟨w1.heap.size, 4, none⟩ (.int .u32 a)).setCell ⟨w1.heap.size, 5, none⟩ (.int .u32 b)) ∧ ((W3.setCell ⟨w1.heap.size, 4, none⟩ (.int .u32 a)).setCell ⟨w1.heap.size, 5, none⟩ (.int .u32 b)).heap[w1.heap.size]? = some (.cells (cfgCells 0 8 false (aloneR a b)) 30 (0, 0))) := by
      refine ⟨(HF3.out.1.setCell (Nat.le_refl _) _).setCell (Nat.le_refl _) _, ?_⟩
      rw [← HCS.out]
      exact heap_setCell_same _ _ _ _ _ _ (heap_setCell_same _ _ _ _ _ _ HF3.out.2)
    generalize (W3.setCell ⟨w1.heap.size, 4, none⟩ (.int .u32 a)).setCell ⟨w1.heap.size, 5, none⟩ (.int .u32 b) = W4 at *
    have hK0 : (cfgCells 0 8 false (aloneR a b)).size = 35 := by kernel_rfl
    have HNEW : Hid (∀ W, Gl W → Calls Tryd.prog 7 #[.agg (cfgCells 0 8 false (aloneR a b))] W fun e w' => ∃ p L, e = .returned (.tuple #[.pointer (some ⟨p, 0, none⟩), .int .i64 0]) ∧ HAt w' p L (newMc 0 8 false (aloneR a b)) ∧ Below W.heap.size W w' ∧ (∀ k, L.foot k → W.heap.size ≤ k) ∧ W.heap.size ≤ p) := fun W hW => h_New_any W 0 8 false (aloneR a b) hW (.inr (.inl rfl)) rfl (by decide)
    generalize cfgCells 0 8 false (aloneR a b) = K at *
    refine wpList_load_row rfl _ _ rfl w1.heap.size rfl 30 K (0, 0) _ HF4.out.2 Tryd.underlying30 rfl (by rw [hK0]; kernel_rfl) ?_
    clear g4 g5 f4 f5 HC4 HCS hC0 hC1 hK0 HF3
    have HB4 : Hid (Below w.heap.size w W4) := HB1.out.trans (HF4.out.1.mono HB1.out.size)
    clear HF4 HB1
    go_wp2_with (go_at_call 7; refine (HNEW.out W4 (HT.out.gl.le HB4.out.size)).mono ?_; rintro e w5 ⟨p, L, rfl, hA5, hb5, hf5, hp5⟩; have HA5 : Hid (HAt w5 p L (newMc 0 8 false (aloneR a b)) ∧ Below w.heap.size w w5 ∧ (∀ k, L.foot k → w.heap.size ≤ k) ∧ w.heap.size ≤ p) := ⟨hA5, HB4.out.trans (hb5.mono HB4.out.size), fun k hk => Nat.le_trans HB4.out.size (hf5 k hk), Nat.le_trans HB4.out.size hp5⟩; clear hA5 hb5 hf5 hp5)
    refine (little_any w5 X HO.out.x0 HO.out.x1).mono ?_
    rintro e w6 ⟨rfl, hb6⟩
    have HA6 : Hid (HAt w6 p L (newMc 0 8 false (aloneR a b)) ∧ Below w.heap.size w w6 ∧ (∀ k, L.foot k → w.heap.size ≤ k)) := ⟨HA5.out.1.below hb6, HA5.out.2.1.trans (hb6.mono HA5.out.2.1.size), HA5.out.2.2.1⟩
    clear hb6 HA5
    go_wp2_with (first
      | (go_at_call 9; refine (h_Poke_any w6 p L _ 0 _ HA6.out.1 (HT.out.gl.le HA6.out.2.1.size) (by decide) (by decide)).mono ?_; rintro e w7 ⟨rfl, L7, hA7, hS7⟩; have HA7 : Hid (HAt w7 p L7 (aloneM1 a b X)) := hA7; have HS7 : Hid (Own w L7 w7) := (own_start HA6.out.2.1 HA6.out.2.2).step hS7; clear hA7 hS7)
      | (go_at_call 11; refine (alone_Tick w7 p L7 a b op imm X HA7.out (HT.out.own HS7.out) HO.out a0 a1 b0 b1).mono ?_; rintro e w8 ⟨rfl, L8, hA8, hS8⟩; have HA8 : Hid (HAt w8 p L8 (aloneM2 a b op imm X)) := hA8; have HS8 : Hid (Own w L8 w8) := HS7.out.step hS8; clear hA8 hS8)
      | (go_at_call 12; refine (h_Look_any w8 p L8 _ HA8.out).mono ?_; rintro e w9 ⟨rfl, hb9⟩; have HB9 : Hid (Below w.heap.size w w9) := HS8.out.below.trans (hb9.mono HS8.out.below.size); clear hb9; unfold lookV; refine unhid ?_))
    obtain ⟨q1, q2, q3, q4, q5⟩ := alone_M2 a b op imm X HO.out
    have HLK : Hid ((lookCells (aloneM2 a b op imm X))[0]? = some (.int .u32 4) ∧ (lookCells (aloneM2 a b op imm X))[3]? = some (.int .i64 1) ∧ (lookCells (aloneM2 a b op imm X))[6]? = some (.int .u32 a) ∧ (lookCells (aloneM2 a b op imm X))[7]? = some (.int .u32 b) ∧ (lookCells (aloneM2 a b op imm X))[8]? = some (.int .u32 (aloneRes a b op imm X))) := by
      refine ⟨?_, ?_, ?_, ?_, ?_⟩
      · rw [← q1]; rfl
      · rw [← q2]; rfl
      · exact congrArg (fun z => some (Value.int .u32 z)) q3
      · exact congrArg (fun z => some (Value.int .u32 z)) q4
      · exact congrArg (fun z => some (Value.int .u32 z)) q5
    have hks : (lookCells (aloneM2 a b op imm X)).size = 37 := by kernel_rfl
    have hka : (lookCells (aloneM2 a b op imm X)).all (·.oneCell') = true := by kernel_rfl
    generalize lookCells (aloneM2 a b op imm X) = LK at *
    clear q1 q2 q3 q4 q5
    refine go_on ?_
    go_wp2_with (with_reducible refine' stop_store (t := 45) ?_)
    refine go_on ?_
    generalize hW : w9.alloc _ = WA
    have HFA : Hid (Below w.heap.size w WA ∧ ∃ Z : Array Value, WA.heap[w9.heap.size]? = some (.cells Z 45 (0, 0)) ∧ Z.size = 37) := by
      rw [Hid, ← hW]; exact ⟨HB9.out.alloc HB9.out.size _, _, heap_alloc_new _ _, rfl⟩
    clear hW
    obtain ⟨ZA, hz1, hz2⟩ := HFA.out.2
    refine wl_store_row (cells := LK) (g := w9.heap.size) (old := ZA) (t' := 45) rfl rfl hz1 (by rw [hks]; kernel_rfl) (by rw [hks]; exact hz2) hka (fun WB hWB => ?_)
    have HFB : Hid (Below w.heap.size w WB ∧ WB.heap[w9.heap.size]? = some (.cells LK 45 (0, 0))) := by
      rw [Hid, hWB.out]
      exact ⟨HFA.out.1.trans ⟨rfl, rfl, rfl, by simp, fun k hk => setRow_other _ _ _ _ (by have := HB9.out.size; omega)⟩, setRow_heap _ _ _ _ _ _ hz1⟩
    clear hWB hz1 hz2 HFA hks hka
    have c0 : WB.cell? ⟨w9.heap.size, 0, none⟩ = some (.int .u32 4) := by simp only [World.cell?, HFB.out.2]; exact HLK.out.1
    have c3 : WB.cell? ⟨w9.heap.size, 3, none⟩ = some (.int .i64 1) := by simp only [World.cell?, HFB.out.2]; exact HLK.out.2.1
    have c6 : WB.cell? ⟨w9.heap.size, 6, none⟩ = some (.int .u32 a) := by simp only [World.cell?, HFB.out.2]; exact HLK.out.2.2.1
    have c7 : WB.cell? ⟨w9.heap.size, 7, none⟩ = some (.int .u32 b) := by simp only [World.cell?, HFB.out.2]; exact HLK.out.2.2.2.1
    have c8 : WB.cell? ⟨w9.heap.size, 8, none⟩ = some (.int .u32 (aloneRes a b op imm X)) := by simp only [World.cell?, HFB.out.2]; exact HLK.out.2.2.2.2
    clear HLK
    go_wp2_with fail
    go_quiet (fail)
    go_wp2
    go_ret2
    exact ⟨rfl, Below.drewNw HFB.out.1 _⟩
end Go.Proofs.YtdcmdjeooklmjabDoor
