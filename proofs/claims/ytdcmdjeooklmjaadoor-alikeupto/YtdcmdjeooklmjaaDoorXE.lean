/-
  BM BN BO in one text.
-/
import Derived.Test.YtdcmdjeooklmjaaDoorXC
import Derived.Test.YtdcmdjeooklmjaaDoorXB
import Derived.Test.YtdcmdjeooklmjaaDoorVJ
import Derived.Deep.CutBlock
set_option linter.unusedVariables false
set_option linter.unusedSimpArgs false
/-
  Two machines beside each other; Alike's round, plainly.
-/
namespace Go.Proofs.YtdcmdjeooklmjaaDoor
open Go.RowKit Go.PageMap Go.Maps
set_option maxRecDepth 100000
/-- Two machines, apart, beside the blocks of F. -/
structure TwoAt (W : World) (F : Nat → Prop) (pa pb : Nat) (A B : Mc) : Prop where
  at' : ∃ La Lb, HAt W pa La A ∧ HAt W pb Lb B ∧ (∀ k, La.foot k → ¬ F k ∧ ¬ Lb.foot k ∧ k ≠ pb) ∧ (∀ k, Lb.foot k → ¬ F k ∧ k ≠ pa)
  lt : ∀ k, F k → k < W.heap.size
theorem HAt.beside {w w' : World} {p : Nat} {L L1 L1' : Lay} {M : Mc} (h : HAt w p L M) (hs : Steps L1 w L1' w') (hd : ∀ k, L.foot k → ¬ L1.foot k) (hp : ¬ L1.foot p) : HAt w' p L M where
  at' := h.at'.beside hs hd
  cell := by rw [World.cell?_of_block (w := w) (a := ⟨p, 0, none⟩) (hs.block p h.lt hp)]; exact h.cell
  out := h.out
  lt := Nat.lt_of_lt_of_le h.lt hs.size
section
variable {W W' : World} {F F' : Nat → Prop} {pa pb : Nat} {A B : Mc}
theorem TwoAt.go (h : TwoAt W F pa pb A B) (hb : Below W.heap.size W W') : TwoAt W' F pa pb A B := by
  obtain ⟨La, Lb, hA, hB, h1, h2⟩ := h.at'
  exact ⟨⟨La, Lb, hA.below hb, hB.below hb, h1, h2⟩, fun k hk => Nat.lt_of_lt_of_le (h.lt k hk) hb.size⟩
theorem TwoAt.less (h : TwoAt W F pa pb A B) (hF : ∀ k, F' k → F k) : TwoAt W F' pa pb A B := by
  obtain ⟨La, Lb, hA, hB, h1, h2⟩ := h.at'
  exact ⟨⟨La, Lb, hA, hB, fun k hk => ⟨fun hk' => (h1 k hk).1 (hF k hk'), (h1 k hk).2⟩, fun k hk => ⟨fun hk' => (h2 k hk).1 (hF k hk'), (h2 k hk).2⟩⟩, fun k hk => h.lt k (hF k hk)⟩
theorem TwoAt.new (h : TwoAt W F pa pb A B) (hb : Below W.heap.size W W') {g : Nat} (hg : W.heap.size ≤ g) (hg' : g < W'.heap.size) : TwoAt W' (fun k => F k ∨ k = g) pa pb A B := by
  obtain ⟨La, Lb, hA, hB, h1, h2⟩ := h.at'
  refine ⟨⟨La, Lb, hA.below hb, hB.below hb, fun k hk => ⟨fun hk' => ?_, (h1 k hk).2⟩, fun k hk => ⟨fun hk' => ?_, (h2 k hk).2⟩⟩, fun k hk => ?_⟩
  · rcases hk' with hk' | rfl
    · exact (h1 k hk).1 hk'
    · have := hA.at'.foot_lt hk; omega
  · rcases hk' with hk' | rfl
    · exact (h2 k hk).1 hk'
    · have := hB.at'.foot_lt hk; omega
  · rcases hk with hk | rfl
    · exact Nat.lt_of_lt_of_le (h.lt k hk) hb.size
    · exact hg'
theorem ta_LookA (h : TwoAt W F pa pb A B) :
    Calls Tryd.prog 28 #[.pointer (some ⟨pa, 0, none⟩)] W fun e w' => e = .returned (lookV A) ∧ Below W.heap.size W w' := by
  obtain ⟨La, Lb, hA, hB, h1, h2⟩ := h.at'
  exact h_Look_any W pa La A hA
theorem ta_LookB (h : TwoAt W F pa pb A B) :
    Calls Tryd.prog 28 #[.pointer (some ⟨pb, 0, none⟩)] W fun e w' => e = .returned (lookV B) ∧ Below W.heap.size W w' := by
  obtain ⟨La, Lb, hA, hB, h1, h2⟩ := h.at'
  exact h_Look_any W pb Lb B hB
theorem ta_PeekA (a : Int) (n : Nat) (h : TwoAt W F pa pb A B) (hm : MemOk A.mem) (a0 : 0 ≤ a) (a1 : a < 4294967296) (hn : n ≤ 4096) :
    Calls Tryd.prog 30 #[.pointer (some ⟨pa, 0, none⟩), .int .u32 a, .int .i64 n] W fun e w' => e = .returned (.tuple #[.string ⟨(peekL A.mem a n).toArray⟩, .int .i64 0]) ∧ Below W.heap.size W w' := by
  obtain ⟨La, Lb, hA, hB, h1, h2⟩ := h.at'
  exact h_Peek_any W pa La A a n hA hm a0 a1 hn
theorem ta_PeekB (a : Int) (n : Nat) (h : TwoAt W F pa pb A B) (hm : MemOk B.mem) (a0 : 0 ≤ a) (a1 : a < 4294967296) (hn : n ≤ 4096) :
    Calls Tryd.prog 30 #[.pointer (some ⟨pb, 0, none⟩), .int .u32 a, .int .i64 n] W fun e w' => e = .returned (.tuple #[.string ⟨(peekL B.mem a n).toArray⟩, .int .i64 0]) ∧ Below W.heap.size W w' := by
  obtain ⟨La, Lb, hA, hB, h1, h2⟩ := h.at'
  exact h_Peek_any W pb Lb B a n hB hm a0 a1 hn
theorem ta_TickA (x y : Bool) (h : TwoAt W F pa pb A B) (ht : Tabs W) (hg : Good A) :
    Calls Tryd.prog 27 #[.pointer (some ⟨pa, 0, none⟩), .bool x, .bool y] W fun e w' => e = .returned (.tuple #[]) ∧ TwoAt w' F pa pb (A.tick x y) B ∧ Kp F W w' := by
  obtain ⟨La, Lb, hA, hB, h1, h2⟩ := h.at'
  refine (h_Tick_any W pa La A x y hA ht hg.ok).mono ?_
  rintro e w' ⟨rfl, La', hA', hS⟩
  refine ⟨rfl, ⟨⟨La', Lb, hA', hB.beside hS (fun k hk hk' => (h1 k hk').2.1 hk) (fun hk' => (h1 pb hk').2.2 rfl), fun k hk => ?_, h2⟩, fun k hk => Nat.lt_of_lt_of_le (h.lt k hk) hS.size⟩, ⟨hS.os, hS.tape, hS.output, hS.size, fun k hk => hS.block k (h.lt k hk) (fun hk' => (h1 k hk').1 hk)⟩⟩
  rcases hS.foot k hk with h3 | h3
  · exact h1 k h3
  · exact ⟨fun hk' => by have := h.lt k hk'; omega, fun hk' => by have := hB.at'.foot_lt hk'; omega, by have := hB.lt; omega⟩
theorem ta_TickB (x y : Bool) (h : TwoAt W F pa pb A B) (ht : Tabs W) (hg : Good B) :
    Calls Tryd.prog 27 #[.pointer (some ⟨pb, 0, none⟩), .bool x, .bool y] W fun e w' => e = .returned (.tuple #[]) ∧ TwoAt w' F pa pb A (B.tick x y) ∧ Kp F W w' := by
  obtain ⟨La, Lb, hA, hB, h1, h2⟩ := h.at'
  refine (h_Tick_any W pb Lb B x y hB ht hg.ok).mono ?_
  rintro e w' ⟨rfl, Lb', hB', hS⟩
  refine ⟨rfl, ⟨⟨La, Lb', hA.beside hS (fun k hk => (h1 k hk).2.1) (fun hk' => (h2 pa hk').2 rfl), hB', fun k hk => ⟨(h1 k hk).1, fun hk' => ?_, (h1 k hk).2.2⟩, fun k hk => ?_⟩, fun k hk => Nat.lt_of_lt_of_le (h.lt k hk) hS.size⟩, ⟨hS.os, hS.tape, hS.output, hS.size, fun k hk => hS.block k (h.lt k hk) (fun hk' => (h2 k hk').1 hk)⟩⟩
  · rcases hS.foot k hk' with h3 | h3
    · exact (h1 k hk).2.1 h3
    · have := hA.at'.foot_lt hk; omega
  · rcases hS.foot k hk with h3 | h3
    · exact h2 k h3
    · exact ⟨fun hk' => by have := h.lt k hk'; omega, by have := hA.lt; omega⟩
end
theorem TwoAt.other {W W' : World} {F : Nat → Prop} {pa pb g : Nat} {A B : Mc} (h : TwoAt W F pa pb A B) (hg : F g) (hpa : pa ≠ g) (hpb : pb ≠ g) (hb : ∀ k, k ≠ g → W'.heap[k]? = W.heap[k]?) (hs : W'.heap.size = W.heap.size) : TwoAt W' F pa pb A B := by
  obtain ⟨La, Lb, hA, hB, h1, h2⟩ := h.at'
  refine ⟨⟨La, Lb, ⟨hA.at'.blocks fun k hk => hb k (fun e => (h1 k hk).1 (e ▸ hg)), ?_, hA.out, by rw [hs]; exact hA.lt⟩, ⟨hB.at'.blocks fun k hk => hb k (fun e => (h2 k hk).1 (e ▸ hg)), ?_, hB.out, by rw [hs]; exact hB.lt⟩, h1, h2⟩, fun k hk => by rw [hs]; exact h.lt k hk⟩
  · rw [World.cell?_of_block (w := W) (a := ⟨pa, 0, none⟩) (hb pa hpa)]; exact hA.cell
  · rw [World.cell?_of_block (w := W) (a := ⟨pb, 0, none⟩) (hb pb hpb)]; exact hB.cell
/-- A round of Alike: both machines, and the States that were told. -/
structure AlX (w : World) (S : Su) (rv pv : Value) (b pa pb gx gy : Nat) (A B : Mc) (W : World) : Prop where
  lw : LvW w S rv pv b W
  two : TwoAt W (fun k => (k ≤ b ∨ k = gx) ∨ k = gy) pa pb A B
  sx : W.heap[gx]? = some (.cells (lookCells A) 61 (0, 0))
  sy : W.heap[gy]? = some (.cells (lookCells B) 61 (0, 0))
  bx : b < gx
  xy : gx < gy
section
variable {w W W' : World} {S : Su} {rv pv : Value} {b pa pb gx gy : Nat} {A B : Mc}
theorem AlX.go (h : AlX w S rv pv b pa pb gx gy A B W) (hb : Below W.heap.size W W') : AlX w S rv pv b pa pb gx gy A B W' :=
  ⟨h.lw.go hb, h.two.go hb, by rw [hb.block _ (Array.getElem?_eq_some_iff.1 h.sx).1]; exact h.sx, by rw [hb.block _ (Array.getElem?_eq_some_iff.1 h.sy).1]; exact h.sy, h.bx, h.xy⟩
theorem AlX.x3 (h : AlX w S rv pv b pa pb gx gy A B W) : W.cell? ⟨gx, 3, none⟩ = some (.int .i64 A.done) := by simp only [World.cell?, h.sx]; rfl
theorem AlX.x1 (h : AlX w S rv pv b pa pb gx gy A B W) : W.cell? ⟨gx, 1, none⟩ = some (.bool (A.cause != 0)) := by simp only [World.cell?, h.sx]; rfl
theorem AlX.y3 (h : AlX w S rv pv b pa pb gx gy A B W) : W.cell? ⟨gy, 3, none⟩ = some (.int .i64 B.done) := by simp only [World.cell?, h.sy]; rfl
/-- The second's State is told anew. -/
theorem AlX.again {B' : Mc} (h : AlX w S rv pv b pa pb gx gy A B W) (h' : LvW w S rv pv b W') (ht : TwoAt W' (fun k => (k ≤ b ∨ k = gx) ∨ k = gy) pa pb A B') (hx : W'.heap[gx]? = some (.cells (lookCells A) 61 (0, 0))) (hy : W'.heap[gy]? = some (.cells (lookCells B) 61 (0, 0))) : AlX w S rv pv b pa pb gx gy A B' (W'.setRow gy (lookCells B')) := by
  have hne : ∀ p L M, HAt W' p L M → p ≠ gy := by
    rintro p L M hA rfl
    have := hA.cell
    simp only [World.cell?, hy] at this
    injection this with this
    cases this
  obtain ⟨La, Lb, hA, hB, _⟩ := ht.at'
  have hb : ∀ k, k ≠ gy → (W'.setRow gy (lookCells B')).heap[k]? = W'.heap[k]? := fun k hk => setRow_other _ _ _ _ hk
  have hbx := h.bx
  have hxy := h.xy
  have hlo := h'.lo
  refine ⟨⟨h'.below.trans ⟨rfl, rfl, rfl, by simp, fun k hk => hb k (by omega)⟩, h'.lo, by rw [hb b (by omega)]; exact h'.su⟩, ht.other (.inr rfl) (hne _ _ _ hA) (hne _ _ _ hB) hb (by simp), by rw [hb gx (by omega)]; exact hx, setRow_heap _ _ _ _ _ _ hy, h.bx, h.xy⟩
end
/-- begun's second machine. -/
theorem lv_begun_two {w W : World} {S : Su} {rv pv : Value} {b pa : Nat} {A : Mc} {line : Int} {fuse : Bool} (h : LvW w S rv pv b W) (hm : MachAt W (fun k => k ≤ b) pa A) (ht : Tabs w) (hs : SuAt w S rv pv)
    (bg : ∀ W, Tabs W → SuAt W S rv pv → Calls Tryd.prog 25 #[.agg (suCells S rv pv), .int .i64 line, .bool fuse] W fun e w' => ∃ p L, e = .returned (.tuple #[.pointer (some ⟨p, 0, none⟩), .bool true]) ∧ HAt w' p L (begM S line fuse) ∧ Below W.heap.size W w' ∧ (∀ k, L.foot k → W.heap.size ≤ k) ∧ W.heap.size ≤ p) :
    Calls Tryd.prog 25 #[.agg (suCells S rv pv), .int .i64 line, .bool fuse] W fun e w' => ∃ pb, e = .returned (.tuple #[.pointer (some ⟨pb, 0, none⟩), .bool true]) ∧ TwoAt w' (fun k => k ≤ b) pa pb A (begM S line fuse) ∧ LvW w S rv pv b w' := by
  obtain ⟨La, hA, hfa⟩ := hm.at'
  refine (bg W (ht.below h.below (Nat.le_refl _)) (hs.go h.below)).mono ?_
  rintro e w' ⟨pb, Lb, rfl, hB, hb, hf, hp⟩
  have hlt := h.lt
  have hpa := hA.lt
  refine ⟨pb, rfl, ⟨⟨La, Lb, hA.below hb, hB, fun k hk => ⟨hfa k hk, fun hk' => ?_, ?_⟩, fun k hk => ⟨fun hk' => ?_, ?_⟩⟩, fun k hk => by have := hb.size; omega⟩, h.go hb⟩
  · have := hf k hk'; have := hA.at'.foot_lt hk; omega
  · have := hA.at'.foot_lt hk; omega
  · have := hf k hk; omega
  · have := hf k hk; omega
/-! ### A round, plainly -/
/-- The second comes up to the first: n ticks of it. -/
def CatchUp (A A' B B' : Mc) (n : Nat) : Prop := (A'.cause = 0 ∧ ∃ j i, Catch A A' B' j i n) ∨ (A'.cause ≠ 0 ∧ n = 0 ∧ B' = B ∧ A'.done = B.done)
/-- What is known of the first tick. -/
structure First (A A' B : Mc) (n : Nat) : Prop where
  good : Good A'
  b : Good B
  nofuse : B.fuse = false
  d0 : 0 ≤ A.done
  d1 : A.done ≤ 2 * n
  e0 : 0 ≤ A'.done
  e1 : A'.done ≤ 2 * (n + 1)
  same : Arch A B
  halt : A'.cause ≠ 0 → (Arch B A' ∧ B.cause ≠ 0 ∨ Arch B.seq A' ∧ B.cause = 0 ∧ A'.done = B.done)
theorem first_tick {A B : Mc} {n : Nat} (f r : Bool) (h : Two A B n) (hn : n < 1152921504606846975) : First A (A.tick f r) B n ∧ CatchUp A (A.tick f r) B B 0 := by
  have hd0 := h.done0
  have hd1 := h.done1
  obtain ⟨g, d, _, _⟩ := tick_did f r h.a
  obtain ⟨d1, d2, _⟩ := did_done d ⟨hd0, by omega⟩
  obtain ⟨_, hc⟩ := two_tick f r h hn
  refine ⟨⟨g, h.b, h.nofuse, hd0, hd1, by omega, by omega, h.same, fun hne => ?_⟩, ?_⟩
  · rcases hc with ⟨c, _⟩ | ⟨_, e, k⟩
    · exact absurd c hne
    · rcases k with k | ⟨k1, k2⟩
      · exact .inl k
      · exact .inr ⟨k1, k2, e⟩
  · rcases hc with ⟨c, j, k⟩ | ⟨c, e, _⟩
    · exact .inl ⟨c, j, 0, k⟩
    · exact .inr ⟨c, rfl, rfl, e⟩
theorem catch_good {A A' B B' : Mc} {n m : Nat} (hf : First A A' B m) (h : CatchUp A A' B B' n) : Good B' ∧ B'.fuse = false ∧ 0 ≤ B'.done ∧ B'.done ≤ 2 * m + 2 := by
  have := hf.d0
  have := hf.d1
  rcases h with ⟨_, j, i, k⟩ | ⟨_, _, rfl, _⟩
  · have := k.di
    have := k.le
    have := k.two
    exact ⟨k.good, k.nofuse, by omega, by omega⟩
  · have := hf.same.done
    exact ⟨hf.b, hf.nofuse, by omega, by omega⟩
theorem catch_more {A A' B B' : Mc} {n m : Nat} (hf : First A A' B m) (hm : m < 1048576) (h : CatchUp A A' B B' n) (hlt : B'.done < A'.done) : CatchUp A A' B (B'.tick false false) (n + 1) := by
  have := hf.d0
  have := hf.d1
  rcases h with ⟨c, j, i, k⟩ | ⟨_, _, rfl, e⟩
  · have := k.di
    have := k.dj
    obtain ⟨i', k'⟩ := catch_step k (by omega) ⟨hf.d0, by omega⟩
    exact .inl ⟨c, j, i', k'⟩
  · omega
theorem catch_end {A A' B B' : Mc} {n m : Nat} (hf : First A A' B m) (h : CatchUp A A' B B' n) (hn : n = 4 ∨ ¬ B'.done < A'.done) : (A'.cause = 0 → Arch A' B') ∧ (A'.cause ≠ 0 → B' = B) := by
  rcases h with ⟨c, j, i, k⟩ | ⟨c, _, rfl, _⟩
  · refine ⟨fun _ => ?_, fun hne => absurd c hne⟩
    have hij : i = j := by
      rcases hn with rfl | hn
      · exact catch_four k
      · have := k.di
        have := k.dj
        have := k.le
        omega
    subst hij
    exact k.to.symm.trans k.at'
  · exact ⟨fun c' => absurd c' c, fun _ => rfl⟩
/-- The round's end. -/
theorem round_end {A A' B B' : Mc} {n m : Nat} (hf : First A A' B m) (hm : m < 1048576) (h : CatchUp A A' B B' n) (hn : n = 4 ∨ ¬ B'.done < A'.done) : (A'.cause = 0 → Two A' B' (m + 1)) ∧ (A'.cause ≠ 0 → Good (B'.tick false false) ∧ Two A' ((B'.tick false false).tick false false) (m + 1)) := by
  obtain ⟨h1, h2⟩ := catch_end hf h hn
  obtain ⟨g, nf, b0, b1⟩ := catch_good hf h
  refine ⟨fun c => ⟨hf.good, g, nf, h1 c, hf.e0, by have := hf.e1; push_cast; omega⟩, fun c => ?_⟩
  obtain rfl := h2 c
  obtain ⟨g1, _, _, f1⟩ := tick_did false false hf.b
  obtain ⟨g2, _, _, f2⟩ := tick_did false false g1
  refine ⟨g1, ⟨hf.good, g2, f2.trans (f1.trans hf.nofuse), two_halt hf.b ⟨b0, by omega⟩ c (hf.halt c), hf.e0, by have := hf.e1; push_cast; omega⟩⟩
end Go.Proofs.YtdcmdjeooklmjaaDoor

/-
  Walk: same.
-/
namespace Go.Proofs.YtdcmdjeooklmjaaDoor
open Go.RowKit Go.PageMap Go.Maps
set_option maxRecDepth 100000
/-- The two States that same asks for. -/
structure SmW (w : World) (gx gy : Nat) (A B : Mc) (W : World) : Prop where
  below : Below w.heap.size w W
  sx : W.heap[gx]? = some (.cells (lookCells A) 61 (0, 0))
  sy : W.heap[gy]? = some (.cells (lookCells B) 61 (0, 0))
theorem look_range (M : Mc) (W : World) (g : Nat) (h : W.heap[g]? = some (.cells (lookCells M) 61 (0, 0))) : W.rangeAt g 5 (regsV M.regs).toList := by
  intro j v hv
  obtain ⟨hj, rfl⟩ := regsV_get M.regs j v hv
  simp only [World.cell?, h]
  have e : lookCells M = #[.int .u32 M.pc, .bool (M.cause != 0), .int .i64 M.cause, .int .i64 M.done, .int .i64 M.par.length] ++ regsV M.regs := by kernel_rfl
  show (lookCells M)[5 + j]? = _
  rw [e, Array.getElem?_append_right (by simp), show 5 + j - (#[Value.int .u32 M.pc, .bool (M.cause != 0), .int .i64 M.cause, .int .i64 M.done, .int .i64 M.par.length] : Array Value).size = j by simp, regsV_all _ _ hj]
set_option maxHeartbeats 4000000 in
theorem same_any (w : World) (F : Nat → Prop) (pa pb : Nat) (A B : Mc) (h : TwoAt w F pa pb A B) (hs : Arch A B) :
    Calls Tryd.prog 29 #[.pointer (some ⟨pa, 0, none⟩), .pointer (some ⟨pb, 0, none⟩)] w fun e w' => e = .returned (.bool true) ∧ Below w.heap.size w w' := by
  have H0 : Hid (TwoAt w F pa pb A B) := h
  have HS : Hid (Arch A B) := hs
  clear h hs
  have hks : (lookCells A).size = 37 := by kernel_rfl
  have hka : (lookCells A).all (·.oneCell') = true := by kernel_rfl
  have hls : (lookCells B).size = 37 := by kernel_rfl
  have hla : (lookCells B).all (·.oneCell') = true := by kernel_rfl
  go_enter Tryd.func29, Tryd.ntmps29
  go_wp2_with fail
  refine Calls.mono (ta_LookA H0.out) ?_
  rintro e w4 ⟨rfl, hb4⟩
  have H4 : Hid (TwoAt w4 F pa pb A B ∧ Below w.heap.size w w4) := ⟨H0.out.go hb4, hb4⟩
  clear hb4 H0
  unfold lookV
  obtain ⟨LX, hLX⟩ : ∃ LX, LX = lookCells A := ⟨_, rfl⟩
  have HLX : Hid (LX = lookCells A) := hLX
  rw [← hLX] at hks hka ⊢
  clear hLX
  go_wp2_with (with_reducible refine' stop_store (t := 61) ?_)
  refine go_on ?_
  generalize hW : w4.alloc _ = WA
  have HFA : Hid (Below w4.heap.size w4 WA ∧ ∃ Z : Array Value, WA.heap[w4.heap.size]? = some (.cells Z 61 (0, 0)) ∧ Z.size = 37) := by
    rw [Hid, ← hW]; exact ⟨(Below.refl _ _).alloc (Nat.le_refl _) _, _, heap_alloc_new _ _, rfl⟩
  clear hW
  obtain ⟨ZA, hz1, hz2⟩ := HFA.out.2
  refine wl_store_row (cells := LX) (g := w4.heap.size) (old := ZA) (t' := 61) rfl rfl hz1 (by rw [hks]; kernel_rfl) (by rw [hks]; exact hz2) hka (fun WB hWB => ?_)
  have HFB : Hid (TwoAt WB F pa pb A B ∧ Below w.heap.size w WB ∧ WB.heap[w4.heap.size]? = some (.cells LX 61 (0, 0))) := by
    rw [Hid, hWB.out]
    have hb : Below w4.heap.size w4 (WA.setRow w4.heap.size LX) := HFA.out.1.trans ⟨rfl, rfl, rfl, by simp, fun k hk => setRow_other _ _ _ _ (by omega)⟩
    exact ⟨H4.out.1.go hb, H4.out.2.trans (hb.mono H4.out.2.size), setRow_heap _ _ _ _ _ _ hz1⟩
  clear hWB hz1 hz2 HFA hks hka H4
  generalize w4.heap.size = gx at *
  go_wp2_with fail
  refine Calls.mono (ta_LookB HFB.out.1) ?_
  rintro e w6 ⟨rfl, hb6⟩
  have H6 : Hid (Below w.heap.size w w6 ∧ w6.heap[gx]? = some (.cells LX 61 (0, 0))) := ⟨HFB.out.2.1.trans (hb6.mono HFB.out.2.1.size), by rw [hb6.block _ (Array.getElem?_eq_some_iff.1 HFB.out.2.2).1]; exact HFB.out.2.2⟩
  clear hb6 HFB
  unfold lookV
  obtain ⟨LY, hLY⟩ : ∃ LY, LY = lookCells B := ⟨_, rfl⟩
  have HLY : Hid (LY = lookCells B) := hLY
  rw [← hLY] at hls hla ⊢
  clear hLY
  go_wp2_with (with_reducible refine' stop_store (t := 61) ?_)
  refine go_on ?_
  generalize hW : w6.alloc _ = WA2
  have HFA : Hid (Below w6.heap.size w6 WA2 ∧ ∃ Z : Array Value, WA2.heap[w6.heap.size]? = some (.cells Z 61 (0, 0)) ∧ Z.size = 37) := by
    rw [Hid, ← hW]; exact ⟨(Below.refl _ _).alloc (Nat.le_refl _) _, _, heap_alloc_new _ _, rfl⟩
  clear hW
  obtain ⟨ZA2, hz1, hz2⟩ := HFA.out.2
  refine wl_store_row (cells := LY) (g := w6.heap.size) (old := ZA2) (t' := 61) rfl rfl hz1 (by rw [hls]; kernel_rfl) (by rw [hls]; exact hz2) hla (fun WC hWC => ?_)
  have HR : Hid (SmW w gx w6.heap.size A B WC) := by
    rw [Hid, hWC.out]
    have hb : Below w6.heap.size w6 (WA2.setRow w6.heap.size LY) := HFA.out.1.trans ⟨rfl, rfl, rfl, by simp, fun k hk => setRow_other _ _ _ _ (by omega)⟩
    refine ⟨H6.out.1.trans (hb.mono H6.out.1.size), ?_, ?_⟩
    · rw [hb.block _ (Array.getElem?_eq_some_iff.1 H6.out.2).1, ← HLX.out]; exact H6.out.2
    · rw [← HLY.out]; exact setRow_heap _ _ _ _ _ _ hz1
  clear hWC hz1 hz2 HFA hls hla H6 HLX HLY
  generalize w6.heap.size = gy at *
  have x0 : WC.cell? ⟨gx, 0, none⟩ = some (.int .u32 A.pc) := by simp only [World.cell?, HR.out.sx]; rfl
  have x1 : WC.cell? ⟨gx, 1, none⟩ = some (.bool (A.cause != 0)) := by simp only [World.cell?, HR.out.sx]; rfl
  have x2 : WC.cell? ⟨gx, 2, none⟩ = some (.int .i64 A.cause) := by simp only [World.cell?, HR.out.sx]; rfl
  have x3 : WC.cell? ⟨gx, 3, none⟩ = some (.int .i64 A.done) := by simp only [World.cell?, HR.out.sx]; rfl
  have y0 : WC.cell? ⟨gy, 0, none⟩ = some (.int .u32 A.pc) := by rw [← HS.out.pc]; simp only [World.cell?, HR.out.sy]; rfl
  have y1 : WC.cell? ⟨gy, 1, none⟩ = some (.bool (A.cause != 0)) := by rw [← HS.out.cause]; simp only [World.cell?, HR.out.sy]; rfl
  have y2 : WC.cell? ⟨gy, 2, none⟩ = some (.int .i64 A.cause) := by rw [← HS.out.cause]; simp only [World.cell?, HR.out.sy]; rfl
  have y3 : WC.cell? ⟨gy, 3, none⟩ = some (.int .i64 A.done) := by rw [← HS.out.done]; simp only [World.cell?, HR.out.sy]; rfl
  have HX5 : Hid (WC.rangeAt gx 5 (regsV A.regs).toList) := look_range A WC gx HR.out.sx
  have HY5 : Hid (WC.rangeAt gy 5 (regsV A.regs).toList) := by rw [Hid, ← HS.out.regs]; exact look_range B WC gy HR.out.sy
  have HEQ : Hid ((binOp .eql 59 (.agg (regsV A.regs)) (.agg (regsV A.regs))).run Tryd.prog WC = .ok (.bool true) WC) := eql_regs WC A.regs
  have hrs : (regsV A.regs).size = 32 := rfl
  generalize regsV A.regs = RR at *
  go_wp2_with (with_reducible refine' stop_load (t := 59) ?_)
  refine go_on ?_
  refine wl_load_part_want (by rfl) rfl rfl HX5.out Tryd.underlying59 rfl (by rw [hrs]; kernel_rfl) ?_
  go_wp2_with (with_reducible refine' stop_load (t := 59) ?_)
  refine go_on ?_
  refine wl_load_part_want (by rfl) rfl rfl HY5.out Tryd.underlying59 rfl (by rw [hrs]; kernel_rfl) ?_
  refine wl_bin_want (by rfl) rfl rfl rfl (by kernel_rfl) HEQ.out ?_
  go_wp2_with fail
  go_ret
  exact ⟨by simp, HR.out.below⟩
end Go.Proofs.YtdcmdjeooklmjaaDoor

/-
  Walk: the law Alike (made by gen_BO.py).
-/
namespace Go.Proofs.YtdcmdjeooklmjaaDoor
open Go.RowKit Go.PageMap Go.Maps
set_option maxRecDepth 100000
set_option maxHeartbeats 40000000 in
theorem alike_walk (S : Su) (rv pv av : Value) (T : List UInt8) (xs : List Int) (w : World) (ht : Tabs w) (hs : SuAt w S rv pv) (hT : T.length ≤ 1048576) (hxs : SlU w av xs) :
    Calls Tryd.prog 8 #[.agg (suCells S rv pv), .string ⟨T.toArray⟩, av] w fun e w' => e = .returned (.bool true) ∧ Below w.heap.size w w' := by
  have HT : Hid (Tabs w) := ht
  have HS : Hid (SuAt w S rv pv) := hs
  have HTL : Hid (T.length ≤ 1048576) := hT
  have HXB : Hid (∀ i : Nat, 0 ≤ xs.getD i 0 ∧ xs.getD i 0 < 4294967296) := hxs.bd
  have HXL : Hid (xs.length ≤ 9223372036854775807) := hxs.len
  obtain ⟨xa, xcap, rfl, hxc⟩ := hxs.at'
  have HXC : Hid (xs.length = 0 ∨ ∃ g o, xa = some ⟨g, o, none⟩ ∧ g < w.heap.size ∧ ∀ i : Nat, i < xs.length → w.cell? ⟨g, o + i, none⟩ = some (.int .u32 (xs.getD i 0))) := hxc
  clear ht hs hT hxs hxc
  have hcs : (suCells S rv pv).size = 6 := rfl
  have HW0 : Hid (LvW w S rv pv w.heap.size (w.alloc (.cells (suCells S rv pv) 53))) := LvW.start w S rv pv
  have HRG : Hid (∀ W, LvW w S rv pv w.heap.size W → W.rangeAt w.heap.size 0 (suCells S rv pv).toList) := fun W hW => hW.range
  go_enter Tryd.func8, Tryd.ntmps8
  go_upto_region 1 with fail
  generalize w.alloc (.cells (suCells S rv pv) 53) = W0 at *
  obtain ⟨b, hbb⟩ : ∃ b, b = w.heap.size := ⟨_, rfl⟩
  have HBB : Hid (b = w.heap.size) := hbb
  rw [← hbb] at HW0 HRG ⊢
  clear hbb
  have HLN : Hid (∀ W, Calls Tryd.prog 26 #[.int .i64 S.line] W fun e w' => e = .returned (.int .i64 (lineI S.line)) ∧ Below W.heap.size W w') := fun W => line_any _ W HS.out.line
  have HBG : Hid (∀ W, LvW w S rv pv b W → Calls Tryd.prog 25 #[.agg (suCells S rv pv), .int .i64 (lineI S.line), .bool S.fuse] W fun e w' => ∃ p, e = .returned (.tuple #[.pointer (some ⟨p, 0, none⟩), .bool true]) ∧ MachAt w' (fun k => k ≤ b) p (begM S (lineI S.line) S.fuse) ∧ LvW w S rv pv b w') := fun W hW => lv_begun hW HT.out (lineI_ok _) HS.out (fun W' ht' hs' => begun_walk S rv pv (lineI S.line) S.fuse W' ht' (lineI_ok _) hs')
  have HBG2 : Hid (∀ W p, LvW w S rv pv b W → MachAt W (fun k => k ≤ b) p (begM S (lineI S.line) S.fuse) → Calls Tryd.prog 25 #[.agg (suCells S rv pv), .int .i64 4, .bool false] W fun e w' => ∃ pb, e = .returned (.tuple #[.pointer (some ⟨pb, 0, none⟩), .bool true]) ∧ TwoAt w' (fun k => k ≤ b) p pb (begM S (lineI S.line) S.fuse) (begM S 4 false) ∧ LvW w S rv pv b w') := fun W p hW hm => lv_begun_two hW hm HT.out HS.out (fun W' ht' hs' => begun_walk S rv pv 4 false W' ht' (.inl rfl) hs')
  have HSU : Hid (∀ W, LvW w S rv pv b W → W.heap[b]? = some (.cells (suCells S rv pv) 53 (0, 0))) := fun W hW => hW.su
  generalize suCells S rv pv = C at *
  have HD0 : Hid (LvW w S rv pv b W0.drew) := HW0.out.go (Below.refl _ _).drew
  refine wp_region_held_drew (S := fun W => LvW w S rv pv b W) (by kernel_rfl) HD0.out (fun hHeld => ?_)
  generalize W0.drew = w1 at *
  clear HW0
  refine' takeH_0 (.agg C) (by kernel_rfl) (by kernel_rfl) (by kernel_rfl) (fun _ _ _ h => h) (by rfl) ?zy0 hHeld ?zr0
  case zy0 => (intro w' hSw; exact exec_load_part rfl rfl (HRG.out w' hSw) Tryd.underlying53 rfl (by rw [hcs]; kernel_rfl))
  (try simp only [Act.put, List.setIfInBounds_toArray, List.set_cons_zero, List.set_cons_succ])
  refine' takeH_1 _ (by kernel_rfl) (by kernel_rfl) (by kernel_rfl) (fun _ _ _ h => h) (by rfl) ?zy101 hHeld ?zr101
  case zy101 => (intro w' hSw; clear hSw; go_simp; try with_reducible rfl)
  (try simp only [Act.put, List.setIfInBounds_toArray, List.set_cons_zero, List.set_cons_succ])
  refine' takeH_2 _ (by kernel_rfl) (by kernel_rfl) (by kernel_rfl) (fun _ _ _ h => h) (by rfl) ?zy102 hHeld ?zr102
  case zy102 => (intro w' hSw; have c0 := LvW.s0 hSw; clear hSw; go_simp; try with_reducible rfl)
  (try simp only [Act.put, List.setIfInBounds_toArray, List.set_cons_zero, List.set_cons_succ])
  refine' takeH_4 _ (by kernel_rfl) (by kernel_rfl) (by kernel_rfl) (fun _ _ _ h => h) (by rfl) ?zy103 hHeld ?zr103
  case zy103 => (intro w' hSw; clear hSw; go_simp; try with_reducible rfl)
  (try simp only [Act.put, List.setIfInBounds_toArray, List.set_cons_zero, List.set_cons_succ])
  refine' takeH_5 _ (by kernel_rfl) (by kernel_rfl) (by kernel_rfl) (fun _ _ _ h => h) (by rfl) ?zy104 hHeld ?zr104
  case zy104 => (intro w' hSw; have c0 := LvW.s2 hSw; clear hSw; go_simp; try with_reducible rfl)
  (try simp only [Act.put, List.setIfInBounds_toArray, List.set_cons_zero, List.set_cons_succ])
  refine runH_3 (by kernel_rfl) (fun K hK => ?_)
  go_simp
  go_at_call 26
  refine Calls.mono (HLN.out w1) ?_
  rintro e w2 ⟨rfl, hb2⟩
  have H2 : Hid (LvW w S rv pv b w2) := HD0.out.go hb2
  clear hb2
  go_wp2_with fail
  refine hK.out _ _ H2.out (fun hHeld2 => ?_)
  clear hK K hHeld
  have hHeld := hHeld2
  clear hHeld2
  (try simp only [Act.put, List.setIfInBounds_toArray, List.set_cons_zero, List.set_cons_succ])
  refine runH_6 (by kernel_rfl) (fun K hK => ?_)
  go_simp
  go_at_call 25
  refine Calls.mono (HBG.out w2 H2.out) ?_
  rintro e w3 ⟨p, rfl, hm3, hl3⟩
  have HM3 : Hid (MachAt w3 (fun k => k ≤ b) p (begM S (lineI S.line) S.fuse)) := hm3
  have HL3 : Hid (LvW w S rv pv b w3) := hl3
  clear hm3 hl3
  go_wp2_with fail
  refine hK.out _ _ HL3.out (fun hHeld2 => ?_)
  clear hK K hHeld
  have hHeld := hHeld2
  clear hHeld2
  (try simp only [Act.put, List.setIfInBounds_toArray, List.set_cons_zero, List.set_cons_succ])
  refine' takeH_7 _ (by kernel_rfl) (by kernel_rfl) (by kernel_rfl) (fun _ _ _ h => h) (by rfl) ?zy105 hHeld ?zr105
  case zy105 => (intro w' hSw; clear hSw; go_simp; try with_reducible rfl)
  (try simp only [Act.put, List.setIfInBounds_toArray, List.set_cons_zero, List.set_cons_succ])
  refine' takeH_8 _ (by kernel_rfl) (by kernel_rfl) (by kernel_rfl) (fun _ _ _ h => h) (by rfl) ?zy106 hHeld ?zr106
  case zy106 => (intro w' hSw; clear hSw; go_simp; try with_reducible rfl)
  (try simp only [Act.put, List.setIfInBounds_toArray, List.set_cons_zero, List.set_cons_succ])
  refine' takeH_9 _ (by kernel_rfl) (by kernel_rfl) (by kernel_rfl) (fun _ _ _ h => h) (by rfl) ?zy107 hHeld ?zr107
  case zy107 => (intro w' hSw; clear hSw; go_simp; try with_reducible rfl)
  (try simp only [Act.put, List.setIfInBounds_toArray, List.set_cons_zero, List.set_cons_succ])
  refine' takeH_10 _ (by kernel_rfl) (by kernel_rfl) (by kernel_rfl) (fun _ _ _ h => h) (by rfl) ?zy108 hHeld ?zr108
  case zy108 => (intro w' hSw; clear hSw; go_simp; try with_reducible rfl)
  (try simp only [Act.put, List.setIfInBounds_toArray, List.set_cons_zero, List.set_cons_succ])
  refine' takeH_11 _ (by kernel_rfl) (by kernel_rfl) (by kernel_rfl) (fun _ _ _ h => h) (by rfl) ?zy109 hHeld ?zr109
  case zy109 => (intro w' hSw; clear hSw; go_simp; try with_reducible rfl)
  (try simp only [Act.put, List.setIfInBounds_toArray, List.set_cons_zero, List.set_cons_succ])
  refine wpAnyH_done (by kernel_rfl) ?_ _
  clear hHeld HD0 H2 HLN HBG
  go_wp2_with (with_reducible refine' stop_load (t := 53) ?_)
  refine go_on ?_
  refine wpList_load_row rfl _ _ rfl b rfl 53 C (0, 0) _ (HSU.out _ HL3.out) Tryd.underlying53 rfl (by rw [hcs]; kernel_rfl) ?_
  go_wp2_with fail
  refine Calls.mono (HBG2.out w3 p HL3.out HM3.out) ?_
  rintro e w4 ⟨pb, rfl, ht4, hl4⟩
  have H4 : Hid (LvW w S rv pv b w4 ∧ TwoAt w4 (fun k => k ≤ b) p pb (begM S (lineI S.line) S.fuse) (begM S 4 false)) := ⟨hl4, ht4⟩
  clear ht4 hl4 HBG2 HSU HL3 HM3
  have HTW : Hid (Two (begM S (lineI S.line) S.fuse) (begM S 4 false) 0) := ⟨beg_good S _ _ (lineI_ok _) HS.out.rs.bd, beg_good S _ _ (.inl rfl) HS.out.rs.bd, rfl, beg_arch S _ _ _ _, Int.le_refl _, by show (0 : Int) ≤ 2 * ((0 : Nat) : Int); decide⟩
  generalize begM S (lineI S.line) S.fuse = A0 at *
  generalize begM S 4 false = B0 at *
  go_wp2_with fail
  go_loopg [11] T.length (fun g iv wr => ∃ (i : Nat) (A B : Mc), i + g = T.length ∧ iv = .int .i64 i ∧ Hid (Two A B i) ∧ Hid (LvW w S rv pv b wr ∧ TwoAt wr (fun k => k ≤ b) p pb A B))
  case atStart => exact ⟨0, A0, B0, by omega, rfl, HTW, H4⟩
  case round =>
    obtain ⟨i, A, B, hi, rfl, htw, hrel⟩ := hrel
    clear HTW H4
    have hTL := HTL.out
    by_cases hlt : i < T.length
    · obtain ⟨x, hx⟩ : ∃ x : UInt8, (⟨T.toArray⟩ : ByteArray)[i]'(by show i < T.toArray.size; simpa using hlt) = x := ⟨_, rfl⟩
      obtain ⟨f, e1⟩ : ∃ f, (bits .and .u8 (x.toNat : Int) 1 != 0) = f := ⟨_, rfl⟩
      obtain ⟨r, e2⟩ : ∃ r, (bits .and .u8 (x.toNat : Int) 2 != 0) = r := ⟨_, rfl⟩
      go_upto_region 8 with fail
      have HD : Hid (LvW w S rv pv b wr.drew ∧ TwoAt wr.drew (fun k => k ≤ b) p pb A B) := ⟨hrel.out.1.go (Below.refl _ _).drew, hrel.out.2.go (Below.refl _ _).drew⟩
      refine wp_region_held_drew (S := fun W => LvW w S rv pv b W) (by kernel_rfl) HD.out.1 (fun hHeld => ?_)
      generalize wr.drew = w5 at *
      clear hrel
      refine' takeH_0 _ (by kernel_rfl) (by kernel_rfl) (by kernel_rfl) (fun _ _ _ h => h) (by rfl) ?zy201 hHeld ?zr201
      case zy201 => (intro w' hSw; clear hSw; go_simp; try with_reducible rfl)
      (try simp only [Act.put, List.setIfInBounds_toArray, List.set_cons_zero, List.set_cons_succ])
      refine' takeH_1 _ (by kernel_rfl) (by kernel_rfl) (by kernel_rfl) (fun _ _ _ h => h) (by rfl) ?zy202 hHeld ?zr202
      case zy202 => (intro w' hSw; clear hSw; go_simp; try with_reducible rfl)
      (try simp only [Act.put, List.setIfInBounds_toArray, List.set_cons_zero, List.set_cons_succ])
      refine' takeH_2 _ (by kernel_rfl) (by kernel_rfl) (by kernel_rfl) (fun _ _ _ h => h) (by rfl) ?zy203 hHeld ?zr203
      case zy203 => (intro w' hSw; clear hSw; go_simp; try with_reducible rfl)
      (try simp only [Act.put, List.setIfInBounds_toArray, List.set_cons_zero, List.set_cons_succ])
      refine' takeH_3 _ (by kernel_rfl) (by kernel_rfl) (by kernel_rfl) (fun _ _ _ h => h) (by rfl) ?zy204 hHeld ?zr204
      case zy204 => (intro w' hSw; clear hSw; go_simp; try with_reducible rfl)
      (try simp only [Act.put, List.setIfInBounds_toArray, List.set_cons_zero, List.set_cons_succ])
      refine' takeH_4 _ (by kernel_rfl) (by kernel_rfl) (by kernel_rfl) (fun _ _ _ h => h) (by rfl) ?zy205 hHeld ?zr205
      case zy205 => (intro w' hSw; clear hSw; go_simp; try with_reducible rfl)
      (try simp only [Act.put, List.setIfInBounds_toArray, List.set_cons_zero, List.set_cons_succ])
      refine' takeH_5 _ (by kernel_rfl) (by kernel_rfl) (by kernel_rfl) (fun _ _ _ h => h) (by rfl) ?zy206 hHeld ?zr206
      case zy206 => (intro w' hSw; clear hSw; go_simp; try with_reducible rfl)
      (try simp only [Act.put, List.setIfInBounds_toArray, List.set_cons_zero, List.set_cons_succ])
      refine' takeH_6 _ (by kernel_rfl) (by kernel_rfl) (by kernel_rfl) (fun _ _ _ h => h) (by rfl) ?zy207 hHeld ?zr207
      case zy207 => (intro w' hSw; clear hSw; go_simp; try with_reducible rfl)
      (try simp only [Act.put, List.setIfInBounds_toArray, List.set_cons_zero, List.set_cons_succ])
      refine' takeH_7 _ (by kernel_rfl) (by kernel_rfl) (by kernel_rfl) (fun _ _ _ h => h) (by rfl) ?zy208 hHeld ?zr208
      case zy208 => (intro w' hSw; clear hSw; go_simp; try with_reducible rfl)
      (try simp only [Act.put, List.setIfInBounds_toArray, List.set_cons_zero, List.set_cons_succ])
      refine' takeH_8 _ (by kernel_rfl) (by kernel_rfl) (by kernel_rfl) (fun _ _ _ h => h) (by rfl) ?zy209 hHeld ?zr209
      case zy209 => (intro w' hSw; clear hSw; go_simp; try with_reducible rfl)
      (try simp only [Act.put, List.setIfInBounds_toArray, List.set_cons_zero, List.set_cons_succ])
      refine' takeH_9 _ (by kernel_rfl) (by kernel_rfl) (by kernel_rfl) (fun _ _ _ h => h) (by rfl) ?zy210 hHeld ?zr210
      case zy210 => (intro w' hSw; clear hSw; go_simp; try with_reducible rfl)
      (try simp only [Act.put, List.setIfInBounds_toArray, List.set_cons_zero, List.set_cons_succ])
      refine' takeH_10 _ (by kernel_rfl) (by kernel_rfl) (by kernel_rfl) (fun _ _ _ h => h) (by rfl) ?zy211 hHeld ?zr211
      case zy211 => (intro w' hSw; clear hSw; go_simp; try with_reducible rfl)
      (try simp only [Act.put, List.setIfInBounds_toArray, List.set_cons_zero, List.set_cons_succ])
      refine runH_11 (by kernel_rfl) (fun K hK => ?_)
      go_simp
      go_at_call 27
      refine Calls.mono (ta_TickA f r HD.out.2 (HT.out.below HD.out.1.below (Nat.le_refl _)) htw.out.a) ?_
      rintro e w6 ⟨rfl, ht6, hk6⟩
      have H6 : Hid (LvW w S rv pv b w6 ∧ TwoAt w6 (fun k => k ≤ b) p pb (A.tick f r) B) := ⟨HD.out.1.kp hk6 (fun k hk => hk), ht6⟩
      clear ht6 hk6
      go_wp2_with fail
      refine hK.out _ _ H6.out.1 (fun hHeld2 => ?_)
      clear hK K hHeld hHeld2
      (try simp only [Act.put, List.setIfInBounds_toArray, List.set_cons_zero, List.set_cons_succ])
      refine wpAnyH_done (by kernel_rfl) ?_ _
      clear HD hx e1 e2
      obtain ⟨hf0, hc0⟩ := first_tick f r htw.out (show i < 1152921504606846975 by omega)
      have HF : Hid (First A (A.tick f r) B i) := hf0
      have HCU : Hid (CatchUp A (A.tick f r) B B 0) := hc0
      clear hf0 hc0 htw
      generalize A.tick f r = A' at *
      have hks : (lookCells A').size = 37 := by kernel_rfl
      have hka : (lookCells A').all (·.oneCell') = true := by kernel_rfl
      have hls : (lookCells B).size = 37 := by kernel_rfl
      have hla : (lookCells B).all (·.oneCell') = true := by kernel_rfl
      go_wp2_with fail
      refine Calls.mono (ta_LookA H6.out.2) ?_
      rintro e w7 ⟨rfl, hb7⟩
      have H7 : Hid (LvW w S rv pv b w7 ∧ TwoAt w7 (fun k => k ≤ b) p pb A' B) := ⟨H6.out.1.go hb7, H6.out.2.go hb7⟩
      clear hb7 H6
      unfold lookV
      obtain ⟨LX, hLX⟩ : ∃ LX, LX = lookCells A' := ⟨_, rfl⟩
      have HLX : Hid (LX = lookCells A') := hLX
      rw [← hLX] at hks hka ⊢
      clear hLX
      go_wp2_with (with_reducible refine' stop_store (t := 61) ?_)
      refine go_on ?_
      generalize hW : w7.alloc _ = WA
      have HFA : Hid (Below w7.heap.size w7 WA ∧ ∃ Z : Array Value, WA.heap[w7.heap.size]? = some (.cells Z 61 (0, 0)) ∧ Z.size = 37) := by
        rw [Hid, ← hW]; exact ⟨(Below.refl _ _).alloc (Nat.le_refl _) _, _, heap_alloc_new _ _, rfl⟩
      clear hW
      obtain ⟨ZA, hz1, hz2⟩ := HFA.out.2
      refine wl_store_row (cells := LX) (g := w7.heap.size) (old := ZA) (t' := 61) rfl rfl hz1 (by rw [hks]; kernel_rfl) (by rw [hks]; exact hz2) hka (fun WB hWB => ?_)
      have HFB : Hid (LvW w S rv pv b WB ∧ TwoAt WB (fun k => k ≤ b ∨ k = w7.heap.size) p pb A' B ∧ WB.heap[w7.heap.size]? = some (.cells LX 61 (0, 0)) ∧ b < w7.heap.size) := by
        rw [Hid, hWB.out]
        have hb : Below w7.heap.size w7 (WA.setRow w7.heap.size LX) := HFA.out.1.trans ⟨rfl, rfl, rfl, by simp, fun k hk => setRow_other _ _ _ _ (by omega)⟩
        have hh : (WA.setRow w7.heap.size LX).heap[w7.heap.size]? = some (.cells LX 61 (0, 0)) := setRow_heap _ _ _ _ _ _ hz1
        exact ⟨H7.out.1.go hb, H7.out.2.new hb (Nat.le_refl _) (Array.getElem?_eq_some_iff.1 hh).1, hh, H7.out.1.lt⟩
      clear hWB hz1 hz2 HFA hks hka H7
      generalize w7.heap.size = gx at *
      go_wp2_with fail
      refine Calls.mono (ta_LookB HFB.out.2.1) ?_
      rintro e w8 ⟨rfl, hb8⟩
      have H8 : Hid (LvW w S rv pv b w8 ∧ TwoAt w8 (fun k => k ≤ b ∨ k = gx) p pb A' B ∧ w8.heap[gx]? = some (.cells LX 61 (0, 0)) ∧ b < gx) := ⟨HFB.out.1.go hb8, HFB.out.2.1.go hb8, by rw [hb8.block _ (Array.getElem?_eq_some_iff.1 HFB.out.2.2.1).1]; exact HFB.out.2.2.1, HFB.out.2.2.2⟩
      clear hb8 HFB
      unfold lookV
      obtain ⟨LY, hLY⟩ : ∃ LY, LY = lookCells B := ⟨_, rfl⟩
      have HLY : Hid (LY = lookCells B) := hLY
      rw [← hLY] at hls hla ⊢
      clear hLY
      go_wp2_with (with_reducible refine' stop_store (t := 61) ?_)
      refine go_on ?_
      generalize hW : w8.alloc _ = WA2
      have HFA : Hid (Below w8.heap.size w8 WA2 ∧ ∃ Z : Array Value, WA2.heap[w8.heap.size]? = some (.cells Z 61 (0, 0)) ∧ Z.size = 37) := by
        rw [Hid, ← hW]; exact ⟨(Below.refl _ _).alloc (Nat.le_refl _) _, _, heap_alloc_new _ _, rfl⟩
      clear hW
      obtain ⟨ZA2, hz1, hz2⟩ := HFA.out.2
      refine wl_store_row (cells := LY) (g := w8.heap.size) (old := ZA2) (t' := 61) rfl rfl hz1 (by rw [hls]; kernel_rfl) (by rw [hls]; exact hz2) hla (fun WC hWC => ?_)
      have HR : Hid (AlX w S rv pv b p pb gx w8.heap.size A' B WC) := by
        rw [Hid, hWC.out]
        have hb : Below w8.heap.size w8 (WA2.setRow w8.heap.size LY) := HFA.out.1.trans ⟨rfl, rfl, rfl, by simp, fun k hk => setRow_other _ _ _ _ (by omega)⟩
        have hh : (WA2.setRow w8.heap.size LY).heap[w8.heap.size]? = some (.cells LY 61 (0, 0)) := setRow_heap _ _ _ _ _ _ hz1
        have hgx := (Array.getElem?_eq_some_iff.1 H8.out.2.2.1).1
        refine ⟨H8.out.1.go hb, H8.out.2.1.new hb (Nat.le_refl _) (Array.getElem?_eq_some_iff.1 hh).1, ?_, ?_, H8.out.2.2.2, hgx⟩
        · rw [hb.block _ hgx, ← HLX.out]; exact H8.out.2.2.1
        · rw [← HLY.out]; exact hh
      clear hWC hz1 hz2 HFA hls hla H8 HLX HLY
      generalize w8.heap.size = gy at *
      go_upto_block 2 with fail
      go_cut [14] from 63 to 77 (fun _ wx => Hid (∃ (B' : Mc) (n : Nat), CatchUp A A' B B' n ∧ (n = 4 ∨ ¬ B'.done < A'.done) ∧ AlX w S rv pv b p pb gx gy A' B' wx))
      case first =>
        go_wp2_with fail
        go_loopg [14] 4 (fun g nv wr => ∃ (n : Nat) (B' : Mc), n + g = 4 ∧ nv = .int .i64 n ∧ Hid (CatchUp A A' B B' n) ∧ Hid (AlX w S rv pv b p pb gx gy A' B' wr))
        case atStart => exact ⟨0, B, rfl, rfl, HCU, HR⟩
        case round =>
          obtain ⟨n, B', hn, rfl, hcu, hrel⟩ := hrel
          have x3 := hrel.out.x3
          have y3 := hrel.out.y3
          obtain ⟨hgB, -, -, -⟩ := catch_good HF.out hcu.out
          have HGB : Hid (Good B') := hgB
          clear hgB HR HCU
          by_cases h4 : n < 4
          · by_cases hd : B'.done < A'.done
            · have HCM : Hid (CatchUp A A' B (B'.tick false false) (n + 1)) := catch_more HF.out (by omega) hcu.out hd
              go_wp2_with fail
              refine Calls.mono (ta_TickB false false hrel.out.two (HT.out.below hrel.out.lw.below (Nat.le_refl _)) HGB.out) ?_
              rintro e w9 ⟨rfl, ht9, hk9⟩
              have H9 : Hid (LvW w S rv pv b w9 ∧ TwoAt w9 (fun k => (k ≤ b ∨ k = gx) ∨ k = gy) p pb A' (B'.tick false false) ∧ w9.heap[gx]? = some (.cells (lookCells A') 61 (0, 0)) ∧ w9.heap[gy]? = some (.cells (lookCells B') 61 (0, 0))) := ⟨hrel.out.lw.kp hk9 (fun k hk => .inl (.inl hk)), ht9, by rw [hk9.block gx (.inl (.inr rfl))]; exact hrel.out.sx, by rw [hk9.block gy (.inr rfl)]; exact hrel.out.sy⟩
              clear ht9 hk9
              generalize B'.tick false false = B2 at *
              have hls : (lookCells B2).size = 37 := by kernel_rfl
              have hla : (lookCells B2).all (·.oneCell') = true := by kernel_rfl
              go_wp2_with fail
              refine Calls.mono (ta_LookB H9.out.2.1) ?_
              rintro e w10 ⟨rfl, hb10⟩
              have H10 : Hid (LvW w S rv pv b w10 ∧ TwoAt w10 (fun k => (k ≤ b ∨ k = gx) ∨ k = gy) p pb A' B2 ∧ w10.heap[gx]? = some (.cells (lookCells A') 61 (0, 0)) ∧ w10.heap[gy]? = some (.cells (lookCells B') 61 (0, 0))) := ⟨H9.out.1.go hb10, H9.out.2.1.go hb10, by rw [hb10.block _ (Array.getElem?_eq_some_iff.1 H9.out.2.2.1).1]; exact H9.out.2.2.1, by rw [hb10.block _ (Array.getElem?_eq_some_iff.1 H9.out.2.2.2).1]; exact H9.out.2.2.2⟩
              clear hb10 H9
              unfold lookV
              obtain ⟨LZ, hLZ⟩ : ∃ LZ, LZ = lookCells B2 := ⟨_, rfl⟩
              have HLZ : Hid (LZ = lookCells B2) := hLZ
              rw [← hLZ] at hls hla ⊢
              clear hLZ
              go_wp2_with (with_reducible refine' stop_store (t := 61) ?_)
              refine go_on ?_
              refine wl_store_row (cells := LZ) (g := gy) (old := lookCells B') (t' := 61) rfl rfl H10.out.2.2.2 (by rw [hls]; kernel_rfl) (by rw [hls]; kernel_rfl) hla (fun WD hWD => ?_)
              have HR2 : Hid (AlX w S rv pv b p pb gx gy A' B2 WD) := by
                rw [Hid, hWD.out, HLZ.out]; exact hrel.out.again H10.out.1 H10.out.2.1 H10.out.2.2.1 H10.out.2.2.2
              clear hWD H10 hls hla HLZ
              go_wp2_with fail
              go_roundg (4 - (n + 1))
              case measure => omega
              case rel => exact ⟨n + 1, B2, by omega, by go_num, HCM, HR2⟩
            · go_wp2_with fail
              go_meet
              exact ⟨B', n, hcu.out, .inr hd, hrel.out⟩
          · go_wp2_with fail
            go_meet
            exact ⟨B', n, hcu.out, .inl (by omega), hrel.out⟩
      case rest =>
        obtain ⟨B', n, hcu, hn, hX⟩ := hcut.out
        have HRE : Hid ((A'.cause = 0 → Two A' B' (i + 1)) ∧ (A'.cause ≠ 0 → Good (B'.tick false false) ∧ Two A' ((B'.tick false false).tick false false) (i + 1))) := round_end HF.out (by omega) hcu hn
        have HGB : Hid (Good B') := (catch_good HF.out hcu).1
        have HX : Hid (AlX w S rv pv b p pb gx gy A' B' wc) := hX
        have x1 := hX.x1
        clear hX hcu hn hcut HR HCU HF
        obtain ⟨cb, hcb⟩ : ∃ cb, (A'.cause != 0) = cb := ⟨_, rfl⟩
        have HCB : Hid ((A'.cause != 0) = cb) := hcb
        rw [hcb] at x1
        clear hcb
        go_upto_if 79 with fail
        go_cut [79] from 80 to 83 (fun _ wx => Hid (∃ B2, Two A' B2 (i + 1) ∧ LvW w S rv pv b wx ∧ TwoAt wx (fun k => k ≤ b) p pb A' B2))
        case first =>
          cases hcc : cb with
          | false =>
            subst hcc
            go_wp2_with fail
            go_meet
            exact ⟨B', HRE.out.1 (by simpa using HCB.out), HX.out.lw, HX.out.two.less (fun k hk => .inl (.inl hk))⟩
          | true =>
            subst hcc
            have HTT : Hid (Good (B'.tick false false) ∧ Two A' ((B'.tick false false).tick false false) (i + 1)) := HRE.out.2 (by simpa using HCB.out)
            have H0 : Hid (LvW w S rv pv b wc ∧ TwoAt wc (fun k => k ≤ b) p pb A' B') := ⟨HX.out.lw, HX.out.two.less (fun k hk => .inl (.inl hk))⟩
            clear HRE HCB
            go_wp2_with fail
            refine Calls.mono (ta_TickB false false H0.out.2 (HT.out.below H0.out.1.below (Nat.le_refl _)) HGB.out) ?_
            rintro e w11 ⟨rfl, ht11, hk11⟩
            have H11 : Hid (LvW w S rv pv b w11 ∧ TwoAt w11 (fun k => k ≤ b) p pb A' (B'.tick false false)) := ⟨H0.out.1.kp hk11 (fun k hk => hk), ht11⟩
            clear ht11 hk11
            go_wp2_with fail
            refine Calls.mono (ta_TickB false false H11.out.2 (HT.out.below H11.out.1.below (Nat.le_refl _)) HTT.out.1) ?_
            rintro e w12 ⟨rfl, ht12, hk12⟩
            have H12 : Hid (LvW w S rv pv b w12 ∧ TwoAt w12 (fun k => k ≤ b) p pb A' ((B'.tick false false).tick false false)) := ⟨H11.out.1.kp hk12 (fun k hk => hk), ht12⟩
            clear ht12 hk12
            go_wp2_with fail
            go_meet
            exact ⟨_, HTT.out.2, H12.out.1, H12.out.2⟩
        case rest =>
          obtain ⟨B2, htw2, hlw2, htt2⟩ := hcut.out
          have HTW2 : Hid (Two A' B2 (i + 1)) := htw2
          have H13 : Hid (LvW w S rv pv b wc ∧ TwoAt wc (fun k => k ≤ b) p pb A' B2) := ⟨hlw2, htt2⟩
          clear htw2 hlw2 htt2 hcut HX HRE HGB HCB x1
          go_wp2_with fail
          refine Calls.mono (same_any wc _ p pb A' B2 H13.out.2 HTW2.out.same) ?_
          rintro e w13 ⟨rfl, hb13⟩
          have H14 : Hid (LvW w S rv pv b w13 ∧ TwoAt w13 (fun k => k ≤ b) p pb A' B2) := ⟨H13.out.1.go hb13, H13.out.2.go hb13⟩
          clear hb13 H13
          go_wp2_with fail
          go_roundg (T.length - (i + 1))
          case measure => omega
          case rel => exact ⟨i + 1, A', B2, by omega, by go_num, HTW2, H14⟩
    · have HAB : Hid (Two A B i) := htw
      have HST : Hid (LvW w S rv pv b wr ∧ TwoAt wr (fun k => k ≤ b) p pb A B) := hrel
      clear htw hrel
      go_wp2_with fail
      go_loopg [15] xs.length (fun g jv wr => ∃ j : Nat, j + g = xs.length ∧ jv = .int .i64 j ∧ Hid (LvW w S rv pv b wr ∧ TwoAt wr (fun k => k ≤ b) p pb A B))
      case atStart => exact ⟨0, by omega, rfl, HST⟩
      case round =>
        obtain ⟨j, hj, rfl, hrl⟩ := hrel
        clear HST
        have hXL := HXL.out
        by_cases hjl : j < xs.length
        · obtain ⟨g, o, rfl, hg, hc⟩ := HXC.out.resolve_left (by omega)
          have c1 : wr.cell? ⟨g, o + j, none⟩ = some (.int .u32 (xs.getD j 0)) := by
            rw [World.cell?_of_block (w := w) (a := ⟨g, o + j, none⟩) (hrl.out.1.below.block g hg)]; exact hc j hjl
          obtain ⟨x0, x1⟩ := HXB.out j
          generalize xs.getD j 0 = x at *
          have HPA : Hid (∀ W, TwoAt W (fun k => k ≤ b) p pb A B → Calls Tryd.prog 30 #[.pointer (some ⟨p, 0, none⟩), .int .u32 ((x - 8) % 4294967296), .int .i64 16] W fun e w' => e = .returned (.tuple #[.string ⟨(peekL A.mem ((x - 8) % 4294967296) 16).toArray⟩, .int .i64 0]) ∧ Below W.heap.size W w') := fun W hW => ta_PeekA _ 16 hW HAB.out.a.mem (by omega) (by omega) (by decide)
          have HPB : Hid (∀ W, TwoAt W (fun k => k ≤ b) p pb A B → Calls Tryd.prog 30 #[.pointer (some ⟨pb, 0, none⟩), .int .u32 ((x - 8) % 4294967296), .int .i64 16] W fun e w' => e = .returned (.tuple #[.string ⟨(peekL A.mem ((x - 8) % 4294967296) 16).toArray⟩, .int .i64 0]) ∧ Below W.heap.size W w') := fun W hW => by
            have h := ta_PeekB ((x - 8) % 4294967296) 16 hW HAB.out.b.mem (by omega) (by omega) (by decide)
            rw [HAB.out.same.mem] at h; exact h
          generalize peekL A.mem ((x - 8) % 4294967296) 16 = l at *
          clear hc
          go_wp2_with fail
          refine Calls.mono (HPA.out wr hrl.out.2) ?_
          rintro e w14 ⟨rfl, hb14⟩
          have H14 : Hid (LvW w S rv pv b w14 ∧ TwoAt w14 (fun k => k ≤ b) p pb A B) := ⟨hrl.out.1.go hb14, hrl.out.2.go hb14⟩
          have c2 : w14.cell? ⟨g, o + j, none⟩ = some (.int .u32 x) := by rw [below_cell hb14 (by have := hrl.out.1.below.size; omega)]; exact c1
          clear hb14 hrl c1
          go_wp2_with fail
          refine Calls.mono (HPB.out w14 H14.out.2) ?_
          rintro e w15 ⟨rfl, hb15⟩
          have H15 : Hid (LvW w S rv pv b w15 ∧ TwoAt w15 (fun k => k ≤ b) p pb A B) := ⟨H14.out.1.go hb15, H14.out.2.go hb15⟩
          clear hb15 H14 c2
          go_wp2_with fail
          go_roundg (xs.length - (j + 1))
          case measure => omega
          case rel => exact ⟨j + 1, by omega, by go_num, H15⟩
        · go_wp2
          go_ret
          exact ⟨rfl, hrl.out.1.below⟩
end Go.Proofs.YtdcmdjeooklmjaaDoor
