/-
  BI BJ in one text.
-/
import Derived.Test.YtdcmdjeooklmjaaDoorXA
import Derived.Deep.CutBlock
set_option linter.unusedVariables false
set_option linter.unusedSimpArgs false
/-
  begun's world: the box of its Setup, the Config that it fills; what Compress tells.
-/
namespace Go.Proofs.YtdcmdjeooklmjaaDoor
open Go.RowKit Go.PageMap Go.Maps
set_option maxRecDepth 100000
theorem lst_u16 (op d s t i : Int) : ∀ k : Nat, k ≤ 26 → 0 ≤ (Hm.lstC op d s t i k).1 ∧ (Hm.lstC op d s t i k).1 < 65536 ∧ ((Hm.lstC op d s t i k).2 = 0 ∨ (Hm.lstC op d s t i k).2 = 4)
  | 0, _ => ⟨by show (0 : Int) ≤ 0; decide, by show (0 : Int) < 65536; decide, .inr rfl⟩
  | k + 1, h => by
    rw [Hm.lstC]
    split
    · have := Hm.parC_u16 (Hm.row_ok (k := k) (by omega)) d s t i
      exact ⟨this.1, this.2, .inl rfl⟩
    · exact lst_u16 op d s t i k (by omega)
theorem comp_bd (op d s t i : Int) : 0 ≤ Hm.compC op d s t i ∧ Hm.compC op d s t i < 65536 := by
  unfold Hm.compC
  split
  · have := lst_u16 op d s t i 26 (Nat.le_refl _); omega
  · omega
theorem cfg_set (q line : Int) (fuse : Bool) (r : Nat → Int) (i : Nat) (hi : i < 32) (x : Int) : (cfgCells q line fuse r).setIfInBounds (3 + i) (.int .u32 x) = cfgCells q line fuse (fun j => if j = i then x else r j) := by
  apply Array.ext_getElem?
  intro k
  have hs : (cfgCells q line fuse r).size = 35 := by kernel_rfl
  have hs' : (cfgCells q line fuse (fun j => if j = i then x else r j)).size = 35 := by kernel_rfl
  by_cases hk : k < 35
  · by_cases e : 3 + i = k
    · subst e
      rw [Array.getElem?_setIfInBounds_self_of_lt (by omega)]
      unfold cfgCells
      rw [Array.getElem?_append_right (by simp)]
      rw [show 3 + i - (#[Value.int .u32 q, .int .i64 line, .bool fuse] : Array Value).size = i by simp, regsV_all _ _ hi]; simp
    · rw [Array.getElem?_setIfInBounds_ne e]
      unfold cfgCells
      by_cases h3 : k < 3
      · rw [Array.getElem?_append_left (by simpa using h3), Array.getElem?_append_left (by simpa using h3)]
      · rw [Array.getElem?_append_right (by simpa using h3), Array.getElem?_append_right (by simpa using h3)]
        rw [show k - (#[Value.int .u32 q, .int .i64 line, .bool fuse] : Array Value).size = k - 3 by simp, regsV_all _ _ (by omega), regsV_all _ _ (by omega)]
        show some (Value.int .u32 (r (k - 3))) = some (Value.int .u32 (if k - 3 = i then x else r (k - 3)))
        rw [if_neg (by omega)]
  · rw [Array.getElem?_eq_none (by simp [hs]; omega), Array.getElem?_eq_none (by omega)]
/-- The box of begun's Setup, and its Config. -/
structure BgW (w : World) (S : Su) (rv pv : Value) (q line : Int) (fuse : Bool) (r : Nat → Int) (b : Nat) (W : World) : Prop where
  below : Below w.heap.size w W
  lo : w.heap.size ≤ b
  su : W.heap[b]? = some (.cells (suCells S rv pv) 53 (0, 0))
  cf : W.heap[b + 1]? = some (.cells (cfgCells q line fuse r) 92 (0, 0))
section
variable {w W W' : World} {S : Su} {rv pv : Value} {q line : Int} {fuse : Bool} {r : Nat → Int} {b : Nat}
theorem BgW.lt (h : BgW w S rv pv q line fuse r b W) : b + 1 < W.heap.size := (Array.getElem?_eq_some_iff.1 h.cf).1
theorem BgW.go (h : BgW w S rv pv q line fuse r b W) (hb : Below W.heap.size W W') : BgW w S rv pv q line fuse r b W' :=
  ⟨h.below.trans (hb.mono h.below.size), h.lo, by rw [hb.block _ (by have := h.lt; omega)]; exact h.su, by rw [hb.block _ h.lt]; exact h.cf⟩
theorem BgW.s1 (h : BgW w S rv pv q line fuse r b W) : W.cell? ⟨b, 1, none⟩ = some (.int .i64 S.pc) := by simp only [World.cell?, h.su]; rfl
theorem BgW.s3 (h : BgW w S rv pv q line fuse r b W) : W.cell? ⟨b, 3, none⟩ = some rv := by simp only [World.cell?, h.su]; rfl
theorem BgW.s4 (h : BgW w S rv pv q line fuse r b W) : W.cell? ⟨b, 4, none⟩ = some pv := by simp only [World.cell?, h.su]; rfl
theorem BgW.s5 (h : BgW w S rv pv q line fuse r b W) : W.cell? ⟨b, 5, none⟩ = some (.string ⟨S.any.toArray⟩) := by simp only [World.cell?, h.su]; rfl
theorem BgW.c0 (h : BgW w S rv pv q line fuse r b W) : W.cell? ⟨b + 1, 0, none⟩ = some (.int .u32 q) := by simp only [World.cell?, h.cf]; kernel_rfl
theorem BgW.rc (h : BgW w S rv pv q line fuse r b W) {i : Nat} (hi : i < 32) : W.cell? ⟨b + 1, 3 + i, none⟩ = some (.int .u32 (r i)) := by
  simp only [World.cell?, h.cf]
  unfold cfgCells
  show (#[Value.int .u32 q, .int .i64 line, .bool fuse] ++ regsV r)[3 + i]? = _
  rw [Array.getElem?_append_right (by simp), show 3 + i - (#[Value.int .u32 q, .int .i64 line, .bool fuse] : Array Value).size = i by simp, regsV_all _ _ hi]
theorem BgW.rf (h : BgW w S rv pv q line fuse r b W) (i : Nat) : W.frozen? ⟨b + 1, i, none⟩ = false := by simp [World.frozen?, h.cf]
theorem BgW.set (h : BgW w S rv pv q line fuse r b W) {i : Nat} (hi : i < 32) (x : Int) : BgW w S rv pv q line fuse (fun j => if j = i then x else r j) b (W.setCell ⟨b + 1, 3 + i, none⟩ (.int .u32 x)) where
  below := h.below.setCell (by have := h.lo; show _ ≤ b + 1; omega) _
  lo := h.lo
  su := (Below.heap_setCell W ⟨b + 1, 3 + i, none⟩ (.int .u32 x) b (by simp)).trans h.su
  cf := by rw [← cfg_set q line fuse r i hi x]; exact heap_setCell_same _ _ _ _ _ _ h.cf
end
/-- With the machine. -/
structure BgH (w : World) (S : Su) (rv pv : Value) (q line : Int) (fuse : Bool) (r : Nat → Int) (b p : Nat) (M : Mc) (W : World) : Prop where
  bw : BgW w S rv pv q line fuse r b W
  at' : ∃ L, HAt W p L M ∧ ∀ k, L.foot k → b + 2 ≤ k
  lo : b + 2 ≤ p
section
variable {w W W' : World} {S : Su} {rv pv : Value} {q line : Int} {fuse : Bool} {r : Nat → Int} {b p : Nat} {M M' : Mc}
theorem BgH.go (h : BgH w S rv pv q line fuse r b p M W) (hb : Below W.heap.size W W') : BgH w S rv pv q line fuse r b p M W' := by
  obtain ⟨L, hA, hf⟩ := h.at'
  exact ⟨h.bw.go hb, ⟨L, hA.below hb, hf⟩, h.lo⟩
theorem BgH.step {L L' : Lay} (h : BgH w S rv pv q line fuse r b p M W) (hA : HAt W' p L' M') (hs : Steps L W L' W') (hf : ∀ k, L.foot k → b + 2 ≤ k) : BgH w S rv pv q line fuse r b p M' W' := by
  have hlt := h.bw.lt
  refine ⟨⟨⟨hs.os.trans h.bw.below.os, hs.tape.trans h.bw.below.tape, hs.output.trans h.bw.below.output, Nat.le_trans h.bw.below.size hs.size, fun k hk => (hs.block k (by have := h.bw.below.size; omega) (fun hf' => by have := hf k hf'; have := h.bw.lo; omega)).trans (h.bw.below.block k hk)⟩, h.bw.lo, (hs.block b (by omega) (fun hf' => by have := hf b hf'; omega)).trans h.bw.su, (hs.block (b + 1) (by omega) (fun hf' => by have := hf (b + 1) hf'; omega)).trans h.bw.cf⟩, ⟨L', hA, fun k hk => (hs.foot k hk).elim (hf k) (fun h1 => by omega)⟩, h.lo⟩
theorem bg_New (h : BgW w S rv pv q line fuse r b W) (ht : Tabs w) (hl : LineOk line) (hq : q % 2 = 0) (q0 : 0 ≤ q) :
    Calls Tryd.prog 53 #[.agg (cfgCells q line fuse r)] W fun e w' => ∃ p, e = .returned (.tuple #[.pointer (some ⟨p, 0, none⟩), .int .i64 0]) ∧ BgH w S rv pv q line fuse r b p (newMc q line fuse r) w' := by
  refine (h_New_any W q line fuse r (ht.gl.le h.below.size) hl hq q0).mono ?_
  rintro e w' ⟨p, L, rfl, hA, hb, hf, hp⟩
  have hlt := h.lt
  exact ⟨p, rfl, h.go hb, ⟨L, hA, fun k hk => by have := hf k hk; omega⟩, by omega⟩
theorem bg_Poke (a : Int) (l : List UInt8) (h : BgH w S rv pv q line fuse r b p M W) (ht : Tabs w) (a0 : 0 ≤ a) (a1 : a < 4294967296) :
    Calls Tryd.prog 55 #[.pointer (some ⟨p, 0, none⟩), .int .u32 a, .string ⟨l.toArray⟩] W fun e w' => e = .returned (.tuple #[]) ∧ BgH w S rv pv q line fuse r b p { M with mem := wrL M.mem a l, par := [], ahead := M.pc } w' := by
  obtain ⟨L, hA, hf⟩ := h.at'
  refine (h_Poke_any W p L M a ⟨l.toArray⟩ hA (ht.gl.le h.bw.below.size) a0 a1).mono ?_
  rintro e w' ⟨rfl, L', hA', hS⟩
  exact ⟨rfl, h.step hA' hS hf⟩
theorem bg_Peek (a : Int) (n : Nat) (h : BgH w S rv pv q line fuse r b p M W) (hm : MemOk M.mem) (a0 : 0 ≤ a) (a1 : a < 4294967296) (hn : n ≤ 4096) :
    Calls Tryd.prog 30 #[.pointer (some ⟨p, 0, none⟩), .int .u32 a, .int .i64 n] W fun e w' => e = .returned (.tuple #[.string ⟨(peekL M.mem a n).toArray⟩, .int .i64 0]) ∧ BgH w S rv pv q line fuse r b p M w' := by
  obtain ⟨L, hA, hf⟩ := h.at'
  exact (h_Peek_any W p L M a n hA hm a0 a1 hn).mono fun e w' ⟨he, hb⟩ => ⟨he, h.go hb⟩
end
theorem regs_fun (S : Su) : (fun j => if j < min 32 S.rs.length then S.rs.getD j 0 else 0) = S.regs := by
  funext j
  unfold Su.regs
  by_cases h : j < 32
  · rw [if_pos h]
    by_cases h2 : j < S.rs.length
    · rw [if_pos (by omega)]
    · rw [if_neg (by omega), List.getD_eq_getElem?_getD, List.getElem?_eq_none (by omega)]; rfl
  · rw [if_neg (by omega), if_neg h]
theorem bytes_app (x y : List UInt8) : (⟨x.toArray⟩ : ByteArray) ++ ⟨y.toArray⟩ = ⟨(x ++ y).toArray⟩ := ByteArray.mk_append_mk x y
theorem cut_two (c0 c1 c2 c3 : UInt8) : (⟨#[c0, c1, c2, c3]⟩ : ByteArray).extract 0 2 = ⟨[c0, c1].toArray⟩ := rfl
def rawArr (r : Raw5) : Array Value := #[.int .i64 r.op, .int .i64 r.rd, .int .i64 r.rs1, .int .i64 r.rs2, .int .i64 r.imm]
def instArr (i d s t m : Int) : Array Value := #[.int .i64 i, .int .i64 d, .int .i64 s, .int .i64 t, .int .i64 m]
end Go.Proofs.YtdcmdjeooklmjaaDoor

/-
  Walk: begun.
-/
namespace Go.Proofs.YtdcmdjeooklmjaaDoor
open Go.RowKit Go.PageMap Go.Maps
set_option maxRecDepth 100000
set_option maxHeartbeats 40000000 in
theorem begun_walk (S : Su) (rv pv : Value) (line : Int) (fuse : Bool) (w : World) (ht : Tabs w) (hl : LineOk line) (hs : SuAt w S rv pv) :
    Calls Tryd.prog 25 #[.agg (suCells S rv pv), .int .i64 line, .bool fuse] w fun e w' => ∃ p L, e = .returned (.tuple #[.pointer (some ⟨p, 0, none⟩), .bool true]) ∧ HAt w' p L (begM S line fuse) ∧ Below w.heap.size w w' ∧ (∀ k, L.foot k → w.heap.size ≤ k) ∧ w.heap.size ≤ p := by
  have HT : Hid (Tabs w) := ht
  have HS : Hid (SuAt w S rv pv) := hs
  have HL : Hid (LineOk line) := hl
  have HPK : Hid (∀ W, Calls Tryd.prog 44 #[.int .i64 S.pc, .int .i64 2147483648] W fun e w' => e = .returned (.int .i64 (Hm.pickI S.pc 2147483648)) ∧ w' = W) := fun W => pick_great _ _ _ hs.pc (by decide) (by decide)
  have hP := Hm.pick_bd S.pc 2147483648 (by decide)
  have HP0 : Hid (S.pc0 = 2 * Hm.pickI S.pc 2147483648) := rfl
  generalize Hm.pickI S.pc 2147483648 = P at *
  clear ht hs hl
  obtain ⟨ra, rcap, rfl, hrc⟩ := HS.out.rs.at'
  obtain ⟨pa, pcap, rfl, hpc⟩ := HS.out.ps.at'
  have HRC : Hid (S.rs.length = 0 ∨ ∃ g o, ra = some ⟨g, o, none⟩ ∧ g < w.heap.size ∧ ∀ i : Nat, i < S.rs.length → w.cell? ⟨g, o + i, none⟩ = some (.int .u32 (S.rs.getD i 0))) := hrc
  have HPC : Hid (S.ps.length = 0 ∨ ∃ g o, pa = some ⟨g, o, none⟩ ∧ g < w.heap.size ∧ ∀ (i : Nat) (r : Raw5), S.ps[i]? = some r → w.rangeAt g (o + i * 5) r.vs) := hpc
  clear hrc hpc
  unfold suCells
  go_enter Tryd.func25, Tryd.ntmps25
  go_wp2_with (first | (with_reducible refine' stop_build (t := 92) ?_) | (go_at_call 44; refine (HPK.out _).mono ?_; rintro e w1 ⟨rfl, rfl⟩))
  refine go_on ?_
  have HBU : Hid (Tryd.prog.built 92 [(0, .int .u32 (2 * P)), (1, .int .i64 line), (2, .bool fuse)] = some (cfgCells (2 * P) line fuse (fun _ => 0))) := by unfold Hid; kernel_rfl
  have hC0 : (cfgCells (2 * P) line fuse (fun _ => 0)).size = 35 := by kernel_rfl
  have hC1 : (cfgCells (2 * P) line fuse (fun _ => 0)).all (·.oneCell') = true := by kernel_rfl
  have HCE : Hid (∀ b W, Below w.heap.size w W → w.heap.size ≤ b → W.heap[b]? = some (.cells (suCells S (.slice ra S.rs.length rcap) (.slice pa S.ps.length pcap)) 53 (0, 0)) → W.heap[b + 1]? = some (.cells (cfgCells (2 * P) line fuse (fun _ => 0)) 92 (0, 0)) → BgW w S (.slice ra S.rs.length rcap) (.slice pa S.ps.length pcap) (2 * P) line fuse (fun _ => 0) b W) := fun b W h1 h2 h3 h4 => ⟨h1, h2, h3, h4⟩
  generalize cfgCells (2 * P) line fuse (fun _ => 0) = C at *
  refine wl_build (cells := C) ((congrArg (Tryd.prog.built 92) (by simp [Act.eval])).trans HBU.out) ?_
  go_wp2_with (with_reducible refine' stop_store (t := 92) ?_)
  refine go_on ?_
  generalize hW : World.alloc (World.alloc w _) _ = W2
  have HF2 : Hid (Below w.heap.size w W2 ∧ W2.heap[w.heap.size]? = some (.cells (suCells S (.slice ra S.rs.length rcap) (.slice pa S.ps.length pcap)) 53 (0, 0)) ∧ ∃ Z : Array Value, W2.heap[w.heap.size + 1]? = some (.cells Z 92 (0, 0)) ∧ Z.size = 35) := by
    rw [Hid, ← hW]
    refine ⟨((Below.refl _ _).alloc (Nat.le_refl _) _).alloc (by simp) _, ?_, _, by simpa using heap_alloc_new (w.alloc _) _, rfl⟩
    rw [Below.heap_alloc _ _ _ (by simp)]; exact heap_alloc_new _ _
  clear hW
  obtain ⟨Z, hz1, hz2⟩ := HF2.out.2.2
  refine wl_store_row (cells := C) (g := w.heap.size + 1) (old := Z) (t' := 92) rfl rfl hz1 (by rw [hC0]; kernel_rfl) (by rw [hC0]; exact hz2) hC1 (fun W3 hW3 => ?_)
  have HB : Hid (BgW w S (.slice ra S.rs.length rcap) (.slice pa S.ps.length pcap) (2 * P) line fuse (fun _ => 0) w.heap.size W3) := by
    rw [Hid, hW3.out]
    refine HCE.out _ _ (HF2.out.1.trans ⟨rfl, rfl, rfl, by simp, fun k hk => setRow_other _ _ _ _ (by omega)⟩) (Nat.le_refl _) ?_ (setRow_heap _ _ _ _ _ _ hz1)
    rw [setRow_other _ _ _ _ (by omega)]; exact HF2.out.2.1
  clear hW3 hz1 hz2 HF2 HBU HCE hC0 hC1
  obtain ⟨b, hbb⟩ : ∃ b, b = w.heap.size := ⟨_, rfl⟩
  have HBB : Hid (b = w.heap.size) := hbb
  rw [← hbb] at HB ⊢
  clear hbb
  go_upto_block 0 with fail
  go_cut [9] from 28 to 46 (fun _ wx => Hid (BgW w S (.slice ra S.rs.length rcap) (.slice pa S.ps.length pcap) (2 * P) line fuse S.regs b wx))
  case first =>
    go_wp2_with fail
    go_loopg [9] (min 32 S.rs.length) (fun g iv wr => ∃ i : Nat, i + g = min 32 S.rs.length ∧ iv = .int .i64 i ∧ Hid (BgW w S (.slice ra S.rs.length rcap) (.slice pa S.ps.length pcap) (2 * P) line fuse (fun j => if j < i then S.rs.getD j 0 else 0) b wr))
    case atStart => exact ⟨0, by omega, rfl, by simpa using HB⟩
    case round =>
      obtain ⟨i, hi, rfl, hrel⟩ := hrel
      have s3 := hrel.out.s3
      by_cases hlt : i < min 32 S.rs.length
      · have h32 : i < 32 := by omega
        have hrl : i < S.rs.length := by omega
        obtain ⟨g, o, rfl, hg, hc⟩ := HRC.out.resolve_left (by omega)
        have c1 : wr.cell? ⟨g, o + i, none⟩ = some (.int .u32 (S.rs.getD i 0)) := by
          rw [World.cell?_of_block (w := w) (a := ⟨g, o + i, none⟩) (hrel.out.below.block g hg)]; exact hc i hrl
        have c2 := hrel.out.rc h32
        have f2 := hrel.out.rf (3 + i)
        have HN : Hid (BgW w S (.slice (some ⟨g, o, none⟩) S.rs.length rcap) (.slice pa S.ps.length pcap) (2 * P) line fuse (fun j => if j < i + 1 then S.rs.getD j 0 else 0) b (wr.setCell ⟨b + 1, 3 + i, none⟩ (.int .u32 (S.rs.getD i 0)))) := by
          have h := hrel.out.set h32 (S.rs.getD i 0)
          have e : (fun j => if j = i then S.rs.getD i 0 else if j < i then S.rs.getD j 0 else 0) = (fun j => if j < i + 1 then S.rs.getD j 0 else 0) := by
            funext j
            by_cases e : j = i
            · subst e; rw [if_pos rfl, if_pos (by omega)]
            · rw [if_neg e]
              by_cases e2 : j < i
              · rw [if_pos e2, if_pos (by omega)]
              · rw [if_neg e2, if_neg (by omega)]
          rw [e] at h; exact h
        generalize S.rs.getD i 0 = x at c1 HN
        clear hc
        go_wp2_with fail
        go_roundg (min 32 S.rs.length - (i + 1))
        case measure => omega
        case rel => exact ⟨i + 1, by omega, by go_num, HN⟩
      · have HN : Hid (BgW w S (.slice ra S.rs.length rcap) (.slice pa S.ps.length pcap) (2 * P) line fuse S.regs b wr) := by
          rw [Hid, ← regs_fun S, ← show i = min 32 S.rs.length by omega]; exact hrel.out
        by_cases h32 : i < 32
        · have hrl : ¬ (i < S.rs.length) := by omega
          go_wp2_with fail
          go_meet
          exact HN
        · go_wp2_with fail
          go_meet
          exact HN
  case rest =>
    have HB2 := hcut
    clear HB hcut HRC
    have HNEW : Hid (∀ W, BgW w S (.slice ra S.rs.length rcap) (.slice pa S.ps.length pcap) (2 * P) line fuse S.regs b W → Calls Tryd.prog 53 #[.agg (cfgCells (2 * P) line fuse S.regs)] W fun e w' => ∃ p, e = .returned (.tuple #[.pointer (some ⟨p, 0, none⟩), .int .i64 0]) ∧ BgH w S (.slice ra S.rs.length rcap) (.slice pa S.ps.length pcap) (2 * P) line fuse S.regs b p (newMc (2 * P) line fuse S.regs) w') := fun W hW => bg_New hW HT.out HL.out (by omega) (by omega)
    go_wp2_with (with_reducible refine' stop_load (t := 92) ?_)
    refine go_on ?_
    have hblk := HB2.out.cf
    have hK0 : (cfgCells (2 * P) line fuse S.regs).size = 35 := by kernel_rfl
    generalize cfgCells (2 * P) line fuse S.regs = K at *
    refine wpList_load_row rfl _ _ rfl (b + 1) rfl 92 K (0, 0) _ hblk Tryd.underlying92 rfl (by rw [hK0]; kernel_rfl) ?_
    clear hblk hK0
    go_upto_block 2 with (go_at_call 53; refine (HNEW.out _ HB2.out).mono ?_; rintro e w5 ⟨p, rfl, hA5⟩; have H5 : Hid (BgH w S (.slice ra S.rs.length rcap) (.slice pa S.ps.length pcap) (2 * P) line fuse S.regs b p (newMc (2 * P) line fuse S.regs) w5) := hA5; clear hA5)
    clear HNEW HB2
    have HLE : Hid (nProg S ≤ 30 ∧ nProg S ≤ S.ps.length ∧ (nProg S = 30 ∨ nProg S = S.ps.length)) := by unfold Hid nProg; omega
    go_cut [6, 7, 12, 13, 14, 15, 16, 17, 18] from 58 to 108 (fun _ _ bv _ _ _ _ _ _ wx => bv = .string ⟨S.bytes.toArray⟩ ∧ Hid (BgH w S (.slice ra S.rs.length rcap) (.slice pa S.ps.length pcap) (2 * P) line fuse S.regs b p (newMc (2 * P) line fuse S.regs) wx))
    case first =>
      go_wp2_with fail
      generalize newMc (2 * P) line fuse S.regs = M0 at *
      go_loopg [12, 13] (nProg S) (fun g bv iv wr => ∃ (i : Nat) (l : List UInt8), i + g = nProg S ∧ bv = .string ⟨l.toArray⟩ ∧ iv = .int .i64 i ∧ Hid (l = progB S.ps i) ∧ Hid (BgH w S (.slice ra S.rs.length rcap) (.slice pa S.ps.length pcap) (2 * P) line fuse S.regs b p M0 wr))
      case atStart => exact ⟨0, [], by omega, rfl, rfl, rfl, H5⟩
      case round =>
        obtain ⟨i, l, hi, rfl, rfl, hl, hrel⟩ := hrel
        have s4 := hrel.out.bw.s4
        obtain ⟨n1, n2, n3⟩ := HLE.out
        have hll : l.length ≤ 120 := by rw [hl.out]; have := progB_len S.ps i; omega
        by_cases hlt : i < nProg S
        · have hpl : i < S.ps.length := by omega
          have h30 : i < 30 := by omega
          obtain ⟨g, o, rfl, hg, hc⟩ := HPC.out.resolve_left (by omega)
          obtain ⟨r, hr⟩ : ∃ r, S.ps[i]? = some r := ⟨_, List.getElem?_eq_getElem hpl⟩
          have HOK : Hid r.Ok := HS.out.ps.bd r (List.mem_of_getElem? hr)
          have HRG : Hid (wr.rangeAt g (o + i * 5) (rawArr r).toList) := fun j u hj => by
            rw [World.cell?_of_block (w := w) (a := ⟨g, o + i * 5 + j, none⟩) (hrel.out.bw.below.block g hg)]; exact hc i r hr j u hj
          have cim : wr.cell? ⟨g, o + i * 5 + 4, none⟩ = some (.int .i64 r.imm) := HRG.out 4 _ rfl
          clear hc
          go_wp2_with (with_reducible refine' stop_load (t := 37) ?_)
          refine go_on ?_
          refine wl_load_at (cs := rawArr r) (b := g) (o := o + i * 5) HRG.out rfl Tryd.underlying37 rfl (by kernel_rfl) ?_
          have hpk := Hm.pick_bd r.op 48 (by decide)
          have hlg : Hm.legalC r.i r.f.d r.f.r r.f.t r.f.imm = true := Hm.inst_legal r.i r.rd r.rs1 r.rs2 r.imm (by unfold Raw5.i; omega) (by unfold Raw5.i; omega)
          have HI : Hid (∀ W, Calls Tryd.prog 18 #[.agg (rawArr r)] W fun e w' => e = .returned (.agg #[.int .i64 r.i, .int .i64 r.f.d, .int .i64 r.f.r, .int .i64 r.f.t, .int .i64 r.f.imm]) ∧ Below W.heap.size W w') := fun W => (inst_any r.op r.rd r.rs1 r.rs2 r.imm W HOK.out.op HOK.out.rd HOK.out.rs1 HOK.out.rs2 HOK.out.imm).mono (by rintro e w' ⟨f, rfl, rfl, hb⟩; exact ⟨rfl, hb⟩)
          have HCo : Hid (∀ W, Tabs W → Calls Tryd.prog 21 #[.agg #[.int .i64 r.i, .int .i64 r.f.d, .int .i64 r.f.r, .int .i64 r.f.t, .int .i64 r.f.imm]] W fun e w' => e = .returned (.tuple #[.int .u16 (Hm.compC r.i r.f.d r.f.r r.f.t r.f.imm), .int .i64 (Hm.compCE r.i r.f.d r.f.r r.f.t r.f.imm)]) ∧ Below W.heap.size W w') := fun W hW => hCompress _ _ _ _ _ W hW
          have HEn : Hid (∀ W, Tabs W → Calls Tryd.prog 13 #[.agg #[.int .i64 r.i, .int .i64 r.f.d, .int .i64 r.f.r, .int .i64 r.f.t, .int .i64 r.f.imm]] W fun e w' => e = .returned (.tuple #[.int .u32 (Hm.encC r.i r.f.d r.f.r r.f.t r.f.imm), .int .i64 0]) ∧ Below W.heap.size W w') := fun W hW => by
            have h := hEncode r.i r.f.d r.f.r r.f.t r.f.imm W hW.tab
            rwa [show Hm.errC r.i r.f.d r.f.r r.f.t r.f.imm = 0 by unfold Hm.errC; rw [if_pos hlg]] at h
          have HPI : Hid (∀ W, Calls Tryd.prog 44 #[.int .i64 r.imm, .int .i64 3] W fun e w' => e = .returned (.int .i64 (Hm.pickI r.imm 3)) ∧ w' = W) := fun W => pick_any _ _ _ HOK.out.imm (by decide) (by decide)
          have hk3 := Hm.pick_bd r.imm 3 (by decide)
          have hcb := comp_bd r.i r.f.d r.f.r r.f.t r.f.imm
          have hxb := Hm.enc_u32 hlg
          have HBY : Hid (progB S.ps (i + 1) = progB S.ps i ++ (if decide (Hm.compCE r.i r.f.d r.f.r r.f.t r.f.imm = 0) && decide (0 < Hm.pickI r.imm 3) then (leB (Hm.compC r.i r.f.d r.f.r r.f.t r.f.imm)).take 2 else leB (Hm.encC r.i r.f.d r.f.r r.f.t r.f.imm))) := by
            unfold Hid
            rw [progB, hr]; rfl
          clear hpk hlg HRG HOK
          generalize rawArr r = RA at *
          generalize Hm.compC r.i r.f.d r.f.r r.f.t r.f.imm = cc at *
          generalize Hm.compCE r.i r.f.d r.f.r r.f.t r.f.imm = ce at *
          generalize Hm.encC r.i r.f.d r.f.r r.f.t r.f.imm = X at *
          generalize Hm.pickI r.imm 3 = k3 at *
          generalize r.i = ri at *
          generalize r.f.d = fd at *
          generalize r.f.r = fr at *
          generalize r.f.t = ft at *
          generalize r.f.imm = fm at *
          generalize r.imm = ri3 at *
          clear hr
          clear r
          have HLC : Hid (∀ W, Calls Tryd.prog 54 #[.int .u32 cc] W fun e w' => e = .returned (.string ⟨(leB cc).toArray⟩) ∧ Below W.heap.size W w') := fun W => little_any W cc hcb.1 (by omega)
          have HLX : Hid (∀ W, Calls Tryd.prog 54 #[.int .u32 X] W fun e w' => e = .returned (.string ⟨(leB X).toArray⟩) ∧ Below W.heap.size W w') := fun W => little_any W X hxb.1 hxb.2
          go_wp2_with fail
          refine (HI.out wr).mono ?_
          rintro e w6 ⟨rfl, hb6⟩
          have H6 : Hid (BgH w S (.slice ra S.rs.length rcap) (.slice (some ⟨g, o, none⟩) S.ps.length pcap) (2 * P) line fuse S.regs b p M0 w6 ∧ w6.cell? ⟨g, o + i * 5 + 4, none⟩ = some (.int .i64 ri3)) := ⟨hrel.out.go hb6, by rw [below_cell hb6 (by have := hrel.out.bw.below.size; omega)]; exact cim⟩
          clear hb6 hrel cim HI s4
          go_wp2_with (with_reducible refine' stop_load (t := 23) ?_)
          refine go_on ?_
          generalize hW : w6.alloc _ = W7
          have H7 : Hid (BgH w S (.slice ra S.rs.length rcap) (.slice (some ⟨g, o, none⟩) S.ps.length pcap) (2 * P) line fuse S.regs b p M0 W7 ∧ W7.cell? ⟨g, o + i * 5 + 4, none⟩ = some (.int .i64 ri3) ∧ W7.heap[w6.heap.size]? = some (.cells #[.int .i64 ri, .int .i64 fd, .int .i64 fr, .int .i64 ft, .int .i64 fm] 23 (0, 0))) := by
            have hb : Below w6.heap.size w6 W7 := by rw [← hW]; exact (Below.refl _ _).alloc (Nat.le_refl _) _
            refine ⟨H6.out.1.go hb, by rw [below_cell hb (by have := H6.out.1.bw.below.size; omega)]; exact H6.out.2, by rw [← hW]; exact heap_alloc_new _ _⟩
          clear hW H6
          generalize w6.heap.size = gx at *
          refine wpList_load_row rfl _ _ rfl gx rfl 23 #[.int .i64 ri, .int .i64 fd, .int .i64 fr, .int .i64 ft, .int .i64 fm] (0, 0) _ H7.out.2.2 Tryd.underlying23 rfl (by kernel_rfl) ?_
          go_wp2_with fail
          refine (HCo.out W7 (HT.out.below H7.out.1.bw.below (Nat.le_refl _))).mono ?_
          rintro e w8 ⟨rfl, hb8⟩
          have H8 : Hid (BgH w S (.slice ra S.rs.length rcap) (.slice (some ⟨g, o, none⟩) S.ps.length pcap) (2 * P) line fuse S.regs b p M0 w8 ∧ w8.cell? ⟨g, o + i * 5 + 4, none⟩ = some (.int .i64 ri3) ∧ w8.heap[gx]? = some (.cells #[.int .i64 ri, .int .i64 fd, .int .i64 fr, .int .i64 ft, .int .i64 fm] 23 (0, 0))) := ⟨H7.out.1.go hb8, by rw [below_cell hb8 (by have := H7.out.1.bw.below.size; omega)]; exact H7.out.2.1, by rw [hb8.block _ (Array.getElem?_eq_some_iff.1 H7.out.2.2).1]; exact H7.out.2.2⟩
          clear hb8 H7 HCo
          go_wp2_with (with_reducible refine' stop_load (t := 23) ?_)
          refine go_on ?_
          refine wpList_load_row rfl _ _ rfl gx rfl 23 #[.int .i64 ri, .int .i64 fd, .int .i64 fr, .int .i64 ft, .int .i64 fm] (0, 0) _ H8.out.2.2 Tryd.underlying23 rfl (by kernel_rfl) ?_
          go_wp2_with fail
          refine (HEn.out w8 (HT.out.below H8.out.1.bw.below (Nat.le_refl _))).mono ?_
          rintro e w9 ⟨rfl, hb9⟩
          have H9 : Hid (BgH w S (.slice ra S.rs.length rcap) (.slice (some ⟨g, o, none⟩) S.ps.length pcap) (2 * P) line fuse S.regs b p M0 w9) := H8.out.1.go hb9
          have cim : w9.cell? ⟨g, o + i * 5 + 4, none⟩ = some (.int .i64 ri3) := by rw [below_cell hb9 (by have := H8.out.1.bw.below.size; omega)]; exact H8.out.2.1
          have s4 := H9.out.bw.s4
          clear hb9 H8 HEn
          have hlim : ¬ (9223372036854775807 < l.length + 2) := by omega
          have hlim4 : ¬ (9223372036854775807 < l.length + 4) := by omega
          by_cases hsh : ce = 0 ∧ 0 < k3
          · obtain ⟨rfl, hk⟩ := hsh
            obtain ⟨c0, c1, c2, c3, hlv⟩ : ∃ c0 c1 c2 c3 : UInt8, leB cc = [c0, c1, c2, c3] := ⟨_, _, _, _, rfl⟩
            rw [hlv] at HLC
            have HNX : Hid (l ++ [c0, c1] = progB S.ps (i + 1)) := by
              rw [Hid, HBY.out, hl.out, hlv]
              simp [hk]
            clear hlv HBY HLX
            go_wp2_with (first | (go_at_call 44; refine (HPI.out _).mono ?_; rintro e w10 ⟨rfl, rfl⟩) | (go_at_call 54; refine (HLC.out _).mono ?_; rintro e w11 ⟨rfl, hb11⟩; have H11 : Hid (BgH w S (.slice ra S.rs.length rcap) (.slice (some ⟨g, o, none⟩) S.ps.length pcap) (2 * P) line fuse S.regs b p M0 w11) := H9.out.go hb11; clear hb11))
            go_roundg (nProg S - (i + 1))
            case measure => omega
            case rel => exact ⟨i + 1, l ++ [c0, c1], by omega, (by rw [cut_two, bytes_app]), by go_num, HNX, H11⟩
          · have HNX : Hid (l ++ leB X = progB S.ps (i + 1)) := by
              rw [Hid, HBY.out, hl.out, if_neg (by simp; omega)]
            obtain ⟨c0, c1, c2, c3, hlv⟩ : ∃ c0 c1 c2 c3 : UInt8, leB X = [c0, c1, c2, c3] := ⟨_, _, _, _, rfl⟩
            rw [hlv] at HLX HNX
            clear hlv HBY HLC
            by_cases hce : ce = 0
            · subst hce
              have hk : ¬ (0 < k3) := by omega
              clear hsh
              go_wp2_with (first | (go_at_call 44; refine (HPI.out _).mono ?_; rintro e w10 ⟨rfl, rfl⟩) | (go_at_call 54; refine (HLX.out _).mono ?_; rintro e w11 ⟨rfl, hb11⟩; have H11 : Hid (BgH w S (.slice ra S.rs.length rcap) (.slice (some ⟨g, o, none⟩) S.ps.length pcap) (2 * P) line fuse S.regs b p M0 w11) := H9.out.go hb11; clear hb11))
              go_roundg (nProg S - (i + 1))
              case measure => omega
              case rel => exact ⟨i + 1, l ++ [c0, c1, c2, c3], by omega, congrArg Value.string (bytes_app l [c0, c1, c2, c3]), by go_num, HNX, H11⟩
            · clear hsh
              go_wp2_with (first | (go_at_call 44; refine (HPI.out _).mono ?_; rintro e w10 ⟨rfl, rfl⟩) | (go_at_call 54; refine (HLX.out _).mono ?_; rintro e w11 ⟨rfl, hb11⟩; have H11 : Hid (BgH w S (.slice ra S.rs.length rcap) (.slice (some ⟨g, o, none⟩) S.ps.length pcap) (2 * P) line fuse S.regs b p M0 w11) := H9.out.go hb11; clear hb11))
              go_roundg (nProg S - (i + 1))
              case measure => omega
              case rel => exact ⟨i + 1, l ++ [c0, c1, c2, c3], by omega, congrArg Value.string (bytes_app l [c0, c1, c2, c3]), by go_num, HNX, H11⟩
        · have HE : Hid (l = S.bytes) := by rw [Hid, hl.out, show i = nProg S by omega]; rfl
          obtain rfl : l = S.bytes := HE.out
          by_cases h30 : i < S.ps.length
          · have hn30 : ¬ (i < 30) := by omega
            go_wp2_with fail
            go_meet
            exact ⟨rfl, hrel⟩
          · go_wp2_with fail
            go_meet
            exact ⟨rfl, hrel⟩
    case rest =>
      obtain ⟨rfl, H6⟩ := hcut
      clear H5 HLE HPC
      have hP2 : 0 ≤ 2 * P ∧ 2 * P < 4294967296 := by omega
      have hbl : S.bytes.length ≤ 120 := by
        have := progB_len S.ps (nProg S)
        have : nProg S ≤ 30 := Nat.min_le_right _ _
        unfold Su.bytes; omega
      have hal : S.any.length ≤ 1048576 := HS.out.any
      have hlim : ¬ (9223372036854775807 < S.bytes.length + S.any.length) := by omega
      have HPO : Hid (∀ W, BgH w S (.slice ra S.rs.length rcap) (.slice pa S.ps.length pcap) (2 * P) line fuse S.regs b p (newMc (2 * P) line fuse S.regs) W → Calls Tryd.prog 55 #[.pointer (some ⟨p, 0, none⟩), .int .u32 (2 * P), .string ((⟨S.bytes.toArray⟩ : ByteArray) ++ ⟨S.any.toArray⟩)] W fun e w' => e = .returned (.tuple #[]) ∧ BgH w S (.slice ra S.rs.length rcap) (.slice pa S.ps.length pcap) (2 * P) line fuse S.regs b p (begM S line fuse) w') := fun W hW => by
        have h := bg_Poke (2 * P) (S.bytes ++ S.any) hW HT.out hP2.1 hP2.2
        rw [bytes_app]
        have e : begM S line fuse = { newMc (2 * P) line fuse S.regs with mem := wrL (newMc (2 * P) line fuse S.regs).mem (2 * P) (S.bytes ++ S.any), par := [], ahead := (newMc (2 * P) line fuse S.regs).pc } := by unfold begM; rw [HP0.out]; rfl
        rw [e]; exact h
      have HPE : Hid (∀ W, BgH w S (.slice ra S.rs.length rcap) (.slice pa S.ps.length pcap) (2 * P) line fuse S.regs b p (begM S line fuse) W → Calls Tryd.prog 30 #[.pointer (some ⟨p, 0, none⟩), .int .u32 (2 * P), .int .i64 S.bytes.length] W fun e w' => e = .returned (.tuple #[.string ⟨S.bytes.toArray⟩, .int .i64 0]) ∧ BgH w S (.slice ra S.rs.length rcap) (.slice pa S.ps.length pcap) (2 * P) line fuse S.regs b p (begM S line fuse) w') := fun W hW => by
        have h := bg_Peek (2 * P) S.bytes.length hW (beg_good S line fuse HL.out HS.out.rs.bd).mem hP2.1 hP2.2 (by omega)
        have e := beg_peek S hal line fuse
        rw [HP0.out] at e
        rw [e] at h; exact h
      have s5 := H6.out.bw.s5
      have c0 := H6.out.bw.c0
      go_wp2_with (first | (go_at_call 55; refine (HPO.out _ H6.out).mono ?_; rintro e w7 ⟨rfl, h7⟩; have H7 : Hid (BgH w S (.slice ra S.rs.length rcap) (.slice pa S.ps.length pcap) (2 * P) line fuse S.regs b p (begM S line fuse) w7) := h7; have c7 := h7.bw.c0; clear h7) | (go_at_call 30; refine (HPE.out _ H7.out).mono ?_; rintro e w8 ⟨rfl, h8⟩; have H8 : Hid (BgH w S (.slice ra S.rs.length rcap) (.slice pa S.ps.length pcap) (2 * P) line fuse S.regs b p (begM S line fuse) w8) := h8; clear h8))
      go_ret2
      obtain ⟨L, hA, hf⟩ := H8.out.at'
      have hlo := H8.out.bw.lo
      exact ⟨p, L, rfl, hA, H8.out.bw.below, fun k hk => by have := hf k hk; omega, by have := H8.out.lo; omega⟩
end Go.Proofs.YtdcmdjeooklmjaaDoor
