/-
  NP NQ NR in one text.
-/
import Derived.Test.YtdcmdjeooklmjaaDoorVJ
set_option linter.unusedVariables false
set_option linter.unusedSimpArgs false
/-
  Walks: machine.New (made by gen_NP.py).
-/
namespace Go.Proofs.YtdcmdjeooklmjaaDoor
open Go.RowKit Go.PageMap Go.Maps
set_option maxRecDepth 100000
def cfgCells (pc line : Int) (fuse : Bool) (r : Nat → Int) : Array Value := #[.int .u32 pc, .int .i64 line, .bool fuse] ++ regsV r
def mcArr (pc line : Int) (fuse : Bool) (r : Nat → Int) (bm : Nat) : Array Value := regCells pc r ++ #[.map (some bm), .slice none 0 0, .int .u32 pc, .slice none 0 0, .int .u32 line, .bool fuse, .int .i64 0, .int .i64 0]
/-- A machine at its beginning. -/
def newMc (pc line : Int) (fuse : Bool) (r : Nat → Int) : Mc := ⟨pc, zreg r, fun _ => 0, [], pc, line, fuse, 0, 0⟩
theorem mcArr_get (pc line : Int) (fuse : Bool) (r : Nat → Int) (b bm : Nat) : (mcArr pc line fuse (zreg r) bm).size = 41 ∧ ∀ i, i < 41 → (mcArr pc line fuse (zreg r) bm)[i]? = some (mval (newMc pc line fuse r) ⟨b, bm, fun _ => none, .slice none 0 0, .slice none 0 0⟩ i) := by
  refine ⟨by kernel_rfl, fun i hi => ?_⟩
  have h0 : (regCells pc (zreg r)).size = 33 := by kernel_rfl
  unfold mcArr
  by_cases h1 : i < 33
  · rw [Array.getElem?_append_left (by omega)]
    unfold regCells
    by_cases h2 : i = 0
    · subst h2; rw [Array.getElem?_append_left (by simp)]; simp [mval, newMc]
    · rw [Array.getElem?_append_right (by simp; omega)]
      have h3 : i - (#[Value.int .u32 pc] : Array Value).size = i - 1 := rfl
      rw [h3, regsV_all _ _ (by omega)]
      unfold mval
      rw [if_neg h2, if_pos (by omega)]; rfl
  · rw [Array.getElem?_append_right (by omega), h0]
    have : i = 33 ∨ i = 34 ∨ i = 35 ∨ i = 36 ∨ i = 37 ∨ i = 38 ∨ i = 39 ∨ i = 40 := by omega
    rcases this with rfl | rfl | rfl | rfl | rfl | rfl | rfl | rfl <;> simp [mval, newMc]
structure NewS (w : World) (pc line : Int) (fuse : Bool) (r : Nat → Int) (W : World) : Prop where
  blk : W.heap[w.heap.size]? = some (.cells (cfgCells pc line fuse r) 92 (0, 0))
  below : Below w.heap.size w W
section
variable {w W W' : World} {pc line : Int} {fuse : Bool} {r : Nat → Int}
theorem NewS.c0 (h : NewS w pc line fuse r W) : W.cell? ⟨w.heap.size, 0, none⟩ = some (.int .u32 pc) := by simp only [World.cell?, h.blk]; kernel_rfl
theorem NewS.c1 (h : NewS w pc line fuse r W) : W.cell? ⟨w.heap.size, 1, none⟩ = some (.int .i64 line) := by simp only [World.cell?, h.blk]; kernel_rfl
theorem NewS.c2 (h : NewS w pc line fuse r W) : W.cell? ⟨w.heap.size, 2, none⟩ = some (.bool fuse) := by simp only [World.cell?, h.blk]; kernel_rfl
theorem NewS.regs (h : NewS w pc line fuse r W) : W.rangeAt w.heap.size 3 (regsV r).toList := by
  intro j v hv
  obtain ⟨hj, rfl⟩ := regsV_get r j v hv
  simp only [World.cell?, h.blk]
  show (#[Value.int .u32 pc, .int .i64 line, .bool fuse] ++ regsV r)[3 + j]? = _
  rw [Array.getElem?_append_right (by simp)]
  have h3 : 3 + j - (#[Value.int .u32 pc, .int .i64 line, .bool fuse] : Array Value).size = j := by simp
  rw [h3, regsV_all _ _ hj]
theorem NewS.step (h : NewS w pc line fuse r W) (hb : Below W.heap.size W W') : NewS w pc line fuse r W' :=
  ⟨by rw [hb.block _ (Array.getElem?_eq_some_iff.1 h.blk).1]; exact h.blk, h.below.trans (hb.mono h.below.size)⟩
end
/-- A new machine lies in its blocks. -/
theorem newAt {w W : World} {pc line : Int} {fuse : Bool} {r : Nat → Int} {bm : Nat} (hz : Gl w) (hbm : W.heap[bm]? = some (.map #[] 0)) (hb : w.heap.size ≤ bm) (hs : w.heap.size ≤ W.heap.size) :
    At (W.alloc (.cells (mcArr pc line fuse (zreg r) bm) 152)) ⟨W.heap.size, bm, fun _ => none, .slice none 0 0, .slice none 0 0⟩ (newMc pc line fuse r) := by
  have hlt : bm < W.heap.size := (Array.getElem?_eq_some_iff.1 hbm).1
  refine ⟨⟨_, heap_alloc_new _ _, (mcArr_get pc line fuse r W.heap.size bm).1, (mcArr_get pc line fuse r W.heap.size bm).2⟩, ⟨?_, (fun _ _ h => by cases h), (fun _ _ _ h => by cases h), (fun _ _ _ _ => rfl)⟩, World.ownsRow_nil _ _ _ _, ⟨0, [], by decide, by simp, World.ownsRow_nil _ _ _ _⟩, ?_⟩
  · have h0 : MapIs Tryd.prog 24 .u32 (W.alloc (.map #[] 0)) W.heap.size 0 (fun _ => none) := MapIs.made W
    obtain ⟨D, ⟨es, clock, h1, h2, h3, h4⟩, hd⟩ := h0
    rw [heap_alloc_new] at h1
    injection h1 with h1; injection h1 with h1 h1'
    subst h1; subst h1'
    exact ⟨D, ⟨#[], 0, by rw [Below.heap_alloc _ _ _ hlt]; exact hbm, h2, by simp, h4⟩, hd⟩
  · rintro k (h1 | h1 | ⟨q, h1⟩ | h1 | h1)
    · have e : k = W.heap.size := h1
      have := hz; unfold Gl at this; omega
    · have e : k = bm := h1
      have := hz; unfold Gl at this; omega
    · cases h1
    · cases h1
    · cases h1
end Go.Proofs.YtdcmdjeooklmjaaDoor

/-
  Walks: machine.New (made by gen_NP.py).
-/
namespace Go.Proofs.YtdcmdjeooklmjaaDoor
open Go.RowKit Go.PageMap Go.Maps
set_option maxRecDepth 100000
set_option maxHeartbeats 4000000 in
theorem m_New_any (w : World) (pc line : Int) (fuse : Bool) (r : Nat → Int) (hz : Gl w) (hl : LineOk line) (hpc : pc % 2 = 0) (p0 : 0 ≤ pc) :
    Calls Tryd.prog 77 #[.agg (cfgCells pc line fuse r)] w fun e w' => ∃ L, e = .returned (.tuple #[.pointer (some ⟨L.b, 0, none⟩), .int .i64 0]) ∧ At w' L (newMc pc line fuse r) ∧ Below w.heap.size w w' ∧ ∀ k, L.foot k → w.heap.size ≤ k := by
  have HZ : Hid (Gl w) := hz
  have HL : Hid (LineOk line) := hl
  have hline : line % 4294967296 = line := by rcases hl with h | h | h | h | h <;> omega
  have HLN : Hid (line % 4294967296 = line) := hline
  clear hline
  have hpm : (pc.tmod 2 != 0) = false := by rw [Int.tmod_eq_emod_of_nonneg p0, hpc]; rfl
  generalize hC : cfgCells pc line fuse r = C
  have hsz : C.size = 35 := by rw [← hC]; kernel_rfl
  have g0 : C[0]? = some (.int .u32 pc) := by rw [← hC]; kernel_rfl
  have g1 : C[1]? = some (.int .i64 line) := by rw [← hC]; kernel_rfl
  have HC : Hid (cfgCells pc line fuse r = C) := hC
  clear hz hl hC
  go_enter Tryd.func77, Tryd.ntmps77
  go_wp2_with (with_reducible refine' stop_load (t := 3) ?_)
  generalize hW : w.alloc _ = W0
  have HS : Hid (NewS w pc line fuse r W0) := by
    rw [Hid, ← hW, ← HC.out]
    exact ⟨heap_alloc_new _ _, (Below.refl _ _).alloc (Nat.le_refl _) _⟩
  have c0 := HS.out.c0
  have c1 := HS.out.c1
  clear hW g0 g1 hsz
  refine go_on ?_
  go_wp2_with (go_at_call 102; refine (m_isLine_any line _ HL.out).mono ?_; rintro e w0 ⟨rfl, hw0⟩; rw [hw0]; clear hw0 w0)
  have HSD : Hid (NewS w pc line fuse r W0.drew) := ⟨HS.out.blk, HS.out.below.drew⟩
  clear c0 c1 HS
  refine wp_region_held_drew (S := NewS w pc line fuse r) (by kernel_rfl) HSD.out (fun hHeld => ?_)
  clear HSD
  generalize W0.drew = w2 at *
  refine' takeH_0 _ (by kernel_rfl) (by kernel_rfl) (by kernel_rfl) (fun _ _ _ h => h) (by rfl) ?zy1 hHeld ?zr1
  case zy1 => (intro w' hSw; clear hSw; go_simp; try with_reducible rfl)
  (try simp only [Act.put, List.setIfInBounds_toArray, List.set_cons_zero, List.set_cons_succ])
  refine' takeH_1 _ (by kernel_rfl) (by kernel_rfl) (by kernel_rfl) (fun _ _ _ h => h) (by rfl) ?zy2 hHeld ?zr2
  case zy2 => (intro w' hSw; have c0 := hSw.c0; have c1 := hSw.c1; have c2 := hSw.c2; clear hSw; go_simp; try with_reducible rfl)
  (try simp only [Act.put, List.setIfInBounds_toArray, List.set_cons_zero, List.set_cons_succ])
  refine' takeH_2 _ (by kernel_rfl) (by kernel_rfl) (by kernel_rfl) (fun _ _ _ h => h) (by rfl) ?zy3 hHeld ?zr3
  case zy3 => (intro w' hSw; clear hSw; go_simp; try with_reducible rfl)
  (try simp only [Act.put, List.setIfInBounds_toArray, List.set_cons_zero, List.set_cons_succ])
  refine' takeH_3 (.agg (regsV r)) (by kernel_rfl) (by kernel_rfl) (by kernel_rfl) (fun _ _ _ h => h) (by rfl) ?zy4 hHeld ?zr4
  case zy4 => (intro w' hSw; exact exec_load_part rfl rfl (hSw.regs) Tryd.underlying59 rfl (by kernel_rfl))
  (try simp only [Act.put, List.setIfInBounds_toArray, List.set_cons_zero, List.set_cons_succ])
  refine' takeH_6 _ (by kernel_rfl) (by kernel_rfl) (by kernel_rfl) (fun _ _ _ h => h) (by rfl) ?zy5 hHeld ?zr5
  case zy5 => (intro w' hSw; clear hSw; go_simp; try with_reducible rfl)
  (try simp only [Act.put, List.setIfInBounds_toArray, List.set_cons_zero, List.set_cons_succ])
  refine' takeH_7 _ (by kernel_rfl) (by kernel_rfl) (by kernel_rfl) (fun _ _ _ h => h) (by rfl) ?zy6 hHeld ?zr6
  case zy6 => (intro w' hSw; have c0 := hSw.c0; have c1 := hSw.c1; have c2 := hSw.c2; clear hSw; go_simp; try with_reducible rfl)
  (try simp only [Act.put, List.setIfInBounds_toArray, List.set_cons_zero, List.set_cons_succ])
  refine' takeH_8 _ (by kernel_rfl) (by kernel_rfl) (by kernel_rfl) (fun _ _ _ h => h) (by rfl) ?zy7 hHeld ?zr7
  case zy7 => (intro w' hSw; clear hSw; go_simp; try with_reducible rfl)
  (try simp only [Act.put, List.setIfInBounds_toArray, List.set_cons_zero, List.set_cons_succ])
  refine' takeH_9 _ (by kernel_rfl) (by kernel_rfl) (by kernel_rfl) (fun _ _ _ h => h) (by rfl) ?zy8 hHeld ?zr8
  case zy8 => (intro w' hSw; clear hSw; go_simp; try with_reducible rfl)
  (try simp only [Act.put, List.setIfInBounds_toArray, List.set_cons_zero, List.set_cons_succ])
  refine' takeH_10 _ (by kernel_rfl) (by kernel_rfl) (by kernel_rfl) (fun _ _ _ h => h) (by rfl) ?zy9 hHeld ?zr9
  case zy9 => (intro w' hSw; have c0 := hSw.c0; have c1 := hSw.c1; have c2 := hSw.c2; clear hSw; go_simp; try with_reducible rfl)
  (try simp only [Act.put, List.setIfInBounds_toArray, List.set_cons_zero, List.set_cons_succ])
  refine' takeH_11 (.int .u32 line) (by kernel_rfl) (by kernel_rfl) (by kernel_rfl) (fun _ _ _ h => h) (by rfl) ?zy10 hHeld ?zr10
  case zy10 => (intro w' hSw; clear hSw; have hl0 := HLN.out; go_simp; first | done | (simp [IntKind.wrap_u32, hl0]))
  (try simp only [Act.put, List.setIfInBounds_toArray, List.set_cons_zero, List.set_cons_succ])
  refine' takeH_12 _ (by kernel_rfl) (by kernel_rfl) (by kernel_rfl) (fun _ _ _ h => h) (by rfl) ?zy11 hHeld ?zr11
  case zy11 => (intro w' hSw; clear hSw; go_simp; try with_reducible rfl)
  (try simp only [Act.put, List.setIfInBounds_toArray, List.set_cons_zero, List.set_cons_succ])
  refine' takeH_13 _ (by kernel_rfl) (by kernel_rfl) (by kernel_rfl) (fun _ _ _ h => h) (by rfl) ?zy12 hHeld ?zr12
  case zy12 => (intro w' hSw; have c0 := hSw.c0; have c1 := hSw.c1; have c2 := hSw.c2; clear hSw; go_simp; try with_reducible rfl)
  (try simp only [Act.put, List.setIfInBounds_toArray, List.set_cons_zero, List.set_cons_succ])
  refine runH_4 (by kernel_rfl) (fun K hK => ?_)
  generalize hRV : regsV r = RV at *
  go_simp
  go_at_call 103
  rw [← hRV]
  refine (m_newRegisters_any w2 pc r).mono ?_
  rintro e w3 ⟨rfl, hb3⟩
  have hHeld3 : NewS w pc line fuse r w3 := hHeld.step hb3
  generalize hRC : regCells pc (zreg r) = RC at *
  go_wp2_with fail
  refine hK.out _ _ hHeld3 (fun hHeld4 => ?_)
  clear hK K hHeld hHeld4 hb3
  (try simp only [Act.put, List.setIfInBounds_toArray, List.set_cons_zero, List.set_cons_succ])
  refine runH_5 (by kernel_rfl) (fun K hK => ?_)
  go_simp
  go_at_call 104
  refine (m_newMemory_any w3).mono ?_
  rintro e w5 ⟨bm, rfl, hbm, hb5, hbl⟩
  have hHeld : NewS w pc line fuse r w5 := hHeld3.step hb5
  have HBM : Hid (w5.heap[bm]? = some (.map #[] 0) ∧ w.heap.size ≤ bm) := ⟨hbm, Nat.le_trans hHeld3.below.size hbl⟩
  go_wp2_with fail
  refine hK.out _ _ hHeld (fun hHeld6 => ?_)
  clear hK K hHeld6 hbm hb5 hbl hHeld3
  (try simp only [Act.put, List.setIfInBounds_toArray, List.set_cons_zero, List.set_cons_succ])
  obtain ⟨KK, hKK⟩ : ∃ KK, KK = mcArr pc line fuse (zreg r) bm := ⟨_, rfl⟩
  have hks : KK.size = 41 := by rw [hKK]; kernel_rfl
  refine' takeH_14 (.agg KK) (by kernel_rfl) (by kernel_rfl) (by kernel_rfl) (fun _ _ _ h => h) (by rfl) ?zyA hHeld ?zrA
  case zyA => (intro w' hSw; rw [hKK, ← hRC]; clear hSw; kernel_rfl)
  (try simp only [Act.put, List.setIfInBounds_toArray, List.set_cons_zero, List.set_cons_succ])
  have HKK : Hid (KK = mcArr pc line fuse (zreg r) bm) := hKK
  clear hKK
  refine runH_15 (by kernel_rfl) (fun K hK => ?_)
  go_simp
  refine hK.out _ _ (hHeld.step ((Below.refl _ _).alloc (Nat.le_refl _) _)) (fun hHeld7 => ?_)
  clear hK K
  (try simp only [Act.put, List.setIfInBounds_toArray, List.set_cons_zero, List.set_cons_succ])
  have HAT : Hid (At (w5.alloc (.cells KK 152)) ⟨w5.heap.size, bm, fun _ => none, .slice none 0 0, .slice none 0 0⟩ (newMc pc line fuse r)) := by rw [Hid, HKK.out]; exact newAt HZ.out HBM.out.1 HBM.out.2 hHeld.below.size
  have HB8 : Hid (Below w.heap.size w (w5.alloc (.cells KK 152))) := hHeld7.below
  have HSZ : Hid (w.heap.size ≤ w5.heap.size) := hHeld.below.size
  clear hHeld
  generalize w5.alloc (.cells KK 152) = w8 at *
  have hHeld := hHeld7
  clear hHeld7
  refine' takeH_16 _ (by kernel_rfl) (by kernel_rfl) (by kernel_rfl) (fun _ _ _ h => h) (by rfl) ?zyB hHeld ?zrB
  case zyB => (intro w' hSw; clear hSw; go_simp; try with_reducible rfl)
  (try simp only [Act.put, List.setIfInBounds_toArray, List.set_cons_zero, List.set_cons_succ])
  refine' takeH_17 _ (by kernel_rfl) (by kernel_rfl) (by kernel_rfl) (fun _ _ _ h => h) (by rfl) ?zyC hHeld ?zrC
  case zyC => (intro w' hSw; clear hSw; go_simp; try with_reducible rfl)
  (try simp only [Act.put, List.setIfInBounds_toArray, List.set_cons_zero, List.set_cons_succ])
  refine wpAnyH_done (by kernel_rfl) ?_ _
  clear hHeld
  go_wp2
  go_ret2
  refine ⟨⟨w5.heap.size, bm, fun _ => none, .slice none 0 0, .slice none 0 0⟩, rfl, HAT.out, HB8.out, ?_⟩
  rintro k (h1 | h1 | ⟨q, h1⟩ | h1 | h1)
  · have e : k = w5.heap.size := h1
    rw [e]; exact HSZ.out
  · have e : k = bm := h1
    rw [e]; exact HBM.out.2
  · cases h1
  · cases h1
  · cases h1
end Go.Proofs.YtdcmdjeooklmjaaDoor

/-
  Walks: hart's New, Tick, Look; hartkeep's little.
-/
namespace Go.Proofs.YtdcmdjeooklmjaaDoor
open Go.RowKit Go.PageMap Go.Maps
set_option maxRecDepth 100000
set_option maxHeartbeats 2000000 in
theorem h_New_any (w : World) (pc line : Int) (fuse : Bool) (r : Nat → Int) (hz : Gl w) (hl : LineOk line) (hpc : pc % 2 = 0) (p0 : 0 ≤ pc) :
    Calls Tryd.prog 53 #[.agg (cfgCells pc line fuse r)] w fun e w' => ∃ p L, e = .returned (.tuple #[.pointer (some ⟨p, 0, none⟩), .int .i64 0]) ∧ HAt w' p L (newMc pc line fuse r) ∧ Below w.heap.size w w' ∧ (∀ k, L.foot k → w.heap.size ≤ k) ∧ w.heap.size ≤ p := by
  have HZ : Hid (Gl w) := hz
  have HL : Hid (LineOk line) := hl
  generalize hC : cfgCells pc line fuse r = C
  have hsz : C.size = 35 := by rw [← hC]; kernel_rfl
  have HC : Hid (cfgCells pc line fuse r = C) := hC
  clear hz hl hC
  go_enter Tryd.func53, Tryd.ntmps53
  go_wp2_with (with_reducible refine' stop_load (t := 92) ?_)
  refine go_on ?_
  refine wl_load_new (cells := C) rfl Tryd.underlying92 rfl (by rw [hsz]; kernel_rfl) ?_
  have HZ1 : Hid (Gl (w.alloc (.cells C 92))) := HZ.out.le (by simp)
  have HB1 : Hid (Below w.heap.size w (w.alloc (.cells C 92))) := (Below.refl _ _).alloc (Nat.le_refl _) _
  generalize w.alloc (.cells C 92) = W1 at *
  clear hsz
  go_wp2_with (go_at_call 77; rw [← HC.out]; refine (m_New_any W1 pc line fuse r HZ1.out HL.out hpc p0).mono ?_; rintro e w2 ⟨L, rfl, hA2, hb2, hf2⟩; have HA2 : Hid (At w2 L (newMc pc line fuse r) ∧ Below w.heap.size w w2 ∧ ∀ k, L.foot k → w.heap.size ≤ k) := ⟨hA2, HB1.out.trans (hb2.mono HB1.out.size), fun k hk => Nat.le_trans HB1.out.size (hf2 k hk)⟩; clear hA2 hb2 hf2)
  go_ret2
  have hA3 := HA2.out.1.alloc (.cells #[.pointer (some ⟨L.b, 0, none⟩)] 100)
  refine ⟨w2.heap.size, L, rfl, ⟨hA3, by simp, fun hf => Nat.lt_irrefl _ (HA2.out.1.foot_lt hf), by simp⟩, HA2.out.2.1.alloc HA2.out.2.1.size _, HA2.out.2.2, HA2.out.2.1.size⟩
theorem h_Tick_of (w : World) (p : Nat) (L : Lay) (M M' : Mc) (x y : Bool) (h : HAt w p L M)
    (ht : Calls Tryd.prog 56 #[.pointer (some ⟨L.b, 0, none⟩), .bool x, .bool y] w fun e w' => e = .returned (.tuple #[]) ∧ ∃ L', At w' L' M' ∧ Steps L w L' w') :
    Calls Tryd.prog 27 #[.pointer (some ⟨p, 0, none⟩), .bool x, .bool y] w fun e w' => e = .returned (.tuple #[]) ∧ ∃ L', HAt w' p L' M' ∧ Steps L w L' w' := by
  have hc := h.cell
  have HA : Hid (HAt w p L M) := h
  have HT : Hid (Calls Tryd.prog 56 #[.pointer (some ⟨L.b, 0, none⟩), .bool x, .bool y] w fun e w' => e = .returned (.tuple #[]) ∧ ∃ L', At w' L' M' ∧ Steps L w L' w') := ht
  clear h ht
  go_enter Tryd.func27, Tryd.ntmps27
  go_wp2_with (go_at_call 56; refine Calls.mono HT.out ?_; rintro e w1 ⟨rfl, L1, hA1, hS1⟩; have HA1 : Hid (HAt w1 p L1 M') := HA.out.steps hA1 hS1; have HS1 : Hid (Steps L w L1 w1) := hS1; clear hA1 hS1)
  go_end0
  exact ⟨rfl, L1, HA1.out, HS1.out⟩
set_option maxHeartbeats 2000000 in
theorem h_Look_any (w : World) (p : Nat) (L : Lay) (M : Mc) (h : HAt w p L M) :
    Calls Tryd.prog 28 #[.pointer (some ⟨p, 0, none⟩)] w fun e w' => e = .returned (lookV M) ∧ Below w.heap.size w w' := by
  have hc := h.cell
  have hlt := h.lt
  have HA : Hid (HAt w p L M) := h
  clear h
  go_enter Tryd.func28, Tryd.ntmps28
  go_wp2_with fail
  generalize hW : w.alloc _ = W0
  have HF : Hid (Below w.heap.size w W0 ∧ ∃ Z : Array Value, W0.heap[w.heap.size]? = some (.cells Z 61 (0, 0)) ∧ Z.size = 37) := by
    rw [Hid, ← hW]; exact ⟨(Below.refl _ _).alloc (Nat.le_refl _) _, _, heap_alloc_new _ _, by kernel_rfl⟩
  clear hW
  refine (m_Look_any W0 L M (HA.out.at'.below HF.out.1 (Nat.le_refl _))).mono ?_
  rintro e w1 ⟨rfl, hb1⟩
  obtain ⟨Z, hz1, hz2⟩ := HF.out.2
  have hlt0 := (Array.getElem?_eq_some_iff.1 hz1).1
  have HF1 : Hid (Below w.heap.size w w1 ∧ w1.heap[w.heap.size]? = some (.cells Z 61 (0, 0)) ∧ Z.size = 37) := ⟨HF.out.1.trans (hb1.mono HF.out.1.size), by rw [hb1.block _ hlt0]; exact hz1, hz2⟩
  clear hb1 hz1 hz2 hlt0 HF
  unfold lookV
  generalize hK : lookCells M = K
  have hks : K.size = 37 := by rw [← hK]; kernel_rfl
  have hka : K.all (·.oneCell') = true := by rw [← hK]; kernel_rfl
  have HK : Hid (lookCells M = K) := hK
  clear hK
  go_wp2_with (with_reducible refine' stop_store (t := 61) ?_)
  refine go_on ?_
  refine wl_store_row (cells := K) (g := w.heap.size) (old := Z) (t' := 61) rfl rfl HF1.out.2.1 (by rw [hks]; kernel_rfl) (by rw [hks]; exact HF1.out.2.2) hka (fun W3 hW3 => ?_)
  have H3 : Hid (Below w.heap.size w W3 ∧ W3.heap[w.heap.size]? = some (.cells K 61 (0, 0))) := by
    rw [Hid, hW3.out]
    exact ⟨HF1.out.1.trans ⟨rfl, rfl, rfl, by simp, fun k hk => setRow_other _ _ _ _ (by omega)⟩, setRow_heap _ _ _ _ _ _ HF1.out.2.1⟩
  clear hW3 HF1
  go_wp2
  refine bodyPost_ret (v := .agg K) ?_ rfl ⟨by rw [← HK.out]; rfl, H3.out.1⟩
  rw [results_cell_one Tryd.results28]
  exact run_loadVar_row _ _ 61 _ _ (0, 0) _ H3.out.2 Tryd.underlying61 rfl (by rw [hks]; kernel_rfl)
set_option maxHeartbeats 2000000 in
theorem little_any (w : World) (x : Int) (x0 : 0 ≤ x) (x1 : x < 4294967296) :
    Calls Tryd.prog 54 #[.int .u32 x] w fun e w' => e = .returned (.string ⟨(leB x).toArray⟩) ∧ Below w.heap.size w w' := by
  have hcv : (convert 133 9 (.slice (some ⟨w.heap.size, 0, none⟩) 4 4)).run Tryd.prog (w.alloc (.cells #[.int .u8 (x % 256), .int .u8 (x / 256 % 256), .int .u8 (x / 65536 % 256), .int .u8 (x / 16777216)] 5)) = .ok (.string ⟨(leB x).toArray⟩) (w.alloc (.cells #[.int .u8 (x % 256), .int .u8 (x / 256 % 256), .int .u8 (x / 65536 % 256), .int .u8 (x / 16777216)] 5)) := by
    refine run_convert_bytes_back (P := Tryd.prog) _ 133 9 5 ⟨w.heap.size, 0, none⟩ 4 (leB x) Tryd.underlying133 Tryd.underlying5 Tryd.underlying9 (fun j hj => ?_)
    rw [Addr.add_lit, Nat.zero_add, World.cell?_alloc_new]
    have hj4 : j = 0 ∨ j = 1 ∨ j = 2 ∨ j = 3 := by simp [leB] at hj; omega
    rcases hj4 with rfl | rfl | rfl | rfl
    · simp only [leB, List.getElem_cons_zero]; rw [byteNat _ (by omega) (by omega)]; rfl
    · simp only [leB, List.getElem_cons_zero, List.getElem_cons_succ]; rw [byteNat _ (by omega) (by omega)]; rfl
    · simp only [leB, List.getElem_cons_zero, List.getElem_cons_succ]; rw [byteNat _ (by omega) (by omega)]; rfl
    · simp only [leB, List.getElem_cons_zero, List.getElem_cons_succ]; rw [byteNat _ (by omega) (by omega), show x / 16777216 % 256 = x / 16777216 by omega]; rfl
  go_enter Tryd.func54, Tryd.ntmps54
  go_wp2
  go_ret
  exact ⟨rfl, (Below.refl _ _).alloc (Nat.le_refl _) _⟩
end Go.Proofs.YtdcmdjeooklmjaaDoor
