/-
  BL in one text.
-/
import Derived.Test.YtdcmdjeooklmjaaDoorXC
import Derived.Test.YtdcmdjeooklmjaaDoorXB
import Derived.Test.YtdcmdjeooklmjaaDoorVJ
set_option linter.unusedVariables false
set_option linter.unusedSimpArgs false
/-
  Walk: the law Lively (made by gen_BL.py).
-/
namespace Go.Proofs.YtdcmdjeooklmjaaDoor
open Go.RowKit Go.PageMap Go.Maps
set_option maxRecDepth 100000
theorem and_three (x : UInt8) : bits .and .u8 (x.toNat : Int) 3 = ((x.toNat % 4 : Nat) : Int) := by
  rw [u8_and _ _ (by omega) (by have := x.toNat_lt; omega) (by decide) (by decide)]
  have h := Nat.and_two_pow_sub_one_eq_mod x.toNat 2
  show ((x.toNat &&& 3 : Nat) : Int) = _
  rw [show (3 : Nat) = 2 ^ 2 - 1 from rfl, h]
theorem tick_bits (x : UInt8) : ∃ (t : Int) (f r : Bool), bits .and .u8 (x.toNat : Int) 3 = t ∧ (t = 0 ∧ f = false ∧ r = false ∨ t = 1 ∧ f = true ∧ r = false ∨ t = 2 ∧ f = false ∧ r = true ∨ t = 3 ∧ f = true ∧ r = true) := by
  have h : x.toNat % 4 = 0 ∨ x.toNat % 4 = 1 ∨ x.toNat % 4 = 2 ∨ x.toNat % 4 = 3 := by omega
  rcases h with h | h | h | h
  · exact ⟨0, false, false, by rw [and_three, h]; rfl, .inl ⟨rfl, rfl, rfl⟩⟩
  · exact ⟨1, true, false, by rw [and_three, h]; rfl, .inr (.inl ⟨rfl, rfl, rfl⟩)⟩
  · exact ⟨2, false, true, by rw [and_three, h]; rfl, .inr (.inr (.inl ⟨rfl, rfl, rfl⟩))⟩
  · exact ⟨3, true, true, by rw [and_three, h]; rfl, .inr (.inr (.inr ⟨rfl, rfl, rfl⟩))⟩
set_option maxHeartbeats 40000000 in
theorem lively_walk (S : Su) (rv pv : Value) (T : List UInt8) (w : World) (ht : Tabs w) (hs : SuAt w S rv pv) (hT : T.length ≤ 1048576) :
    Calls Tryd.prog 9 #[.agg (suCells S rv pv), .string ⟨T.toArray⟩] w fun e w' => e = .returned (.bool true) ∧ Below w.heap.size w w' := by
  have HT : Hid (Tabs w) := ht
  have HS : Hid (SuAt w S rv pv) := hs
  have HTL : Hid (T.length ≤ 1048576) := hT
  clear ht hs hT
  have hcs : (suCells S rv pv).size = 6 := rfl
  have HW0 : Hid (LvW w S rv pv w.heap.size (w.alloc (.cells (suCells S rv pv) 53))) := LvW.start w S rv pv
  have HRG : Hid (∀ W, LvW w S rv pv w.heap.size W → W.rangeAt w.heap.size 0 (suCells S rv pv).toList) := fun W hW => hW.range
  go_enter Tryd.func9, Tryd.ntmps9
  go_upto_region 1 with fail
  generalize w.alloc (.cells (suCells S rv pv) 53) = W0 at *
  obtain ⟨b, hbb⟩ : ∃ b, b = w.heap.size := ⟨_, rfl⟩
  have HBB : Hid (b = w.heap.size) := hbb
  rw [← hbb] at HW0 HRG ⊢
  clear hbb
  have HLN : Hid (∀ W, Calls Tryd.prog 26 #[.int .i64 S.line] W fun e w' => e = .returned (.int .i64 (lineI S.line)) ∧ Below W.heap.size W w') := fun W => line_any _ W HS.out.line
  have HBG : Hid (∀ W, LvW w S rv pv b W → Calls Tryd.prog 25 #[.agg (suCells S rv pv), .int .i64 (lineI S.line), .bool S.fuse] W fun e w' => ∃ p, e = .returned (.tuple #[.pointer (some ⟨p, 0, none⟩), .bool true]) ∧ MachAt w' (fun k => k ≤ b) p (begM S (lineI S.line) S.fuse) ∧ LvW w S rv pv b w') := fun W hW => lv_begun hW HT.out (lineI_ok _) HS.out (fun W' ht' hs' => begun_walk S rv pv (lineI S.line) S.fuse W' ht' (lineI_ok _) hs')
  generalize suCells S rv pv = C at *
  have HD0 : Hid (LvW w S rv pv b W0.drew) := HW0.out.go (Below.refl _ _).drew
  refine wp_region_held_drew (S := fun W => LvW w S rv pv b W) (by kernel_rfl) HD0.out (fun hHeld => ?_)
  generalize W0.drew = w1 at *
  clear HW0
  refine' takeH_0 (.agg C) (by kernel_rfl) (by kernel_rfl) (by kernel_rfl) (fun _ _ _ h => h) (by rfl) ?zy0 hHeld ?zr0
  case zy0 => (intro w' hSw; exact exec_load_part rfl rfl (HRG.out w' hSw) Tryd.underlying53 rfl (by rw [hcs]; kernel_rfl))
  (try simp only [Act.put, List.setIfInBounds_toArray, List.set_cons_zero, List.set_cons_succ])
  refine' takeH_1 _ (by kernel_rfl) (by kernel_rfl) (by kernel_rfl) (fun _ _ _ h => h) (by rfl) ?zy1 hHeld ?zr1
  case zy1 => (intro w' hSw; clear hSw; go_simp; try with_reducible rfl)
  (try simp only [Act.put, List.setIfInBounds_toArray, List.set_cons_zero, List.set_cons_succ])
  refine' takeH_2 _ (by kernel_rfl) (by kernel_rfl) (by kernel_rfl) (fun _ _ _ h => h) (by rfl) ?zy2 hHeld ?zr2
  case zy2 => (intro w' hSw; have c0 := LvW.s0 hSw; clear hSw; go_simp; try with_reducible rfl)
  (try simp only [Act.put, List.setIfInBounds_toArray, List.set_cons_zero, List.set_cons_succ])
  refine' takeH_4 _ (by kernel_rfl) (by kernel_rfl) (by kernel_rfl) (fun _ _ _ h => h) (by rfl) ?zy3 hHeld ?zr3
  case zy3 => (intro w' hSw; clear hSw; go_simp; try with_reducible rfl)
  (try simp only [Act.put, List.setIfInBounds_toArray, List.set_cons_zero, List.set_cons_succ])
  refine' takeH_5 _ (by kernel_rfl) (by kernel_rfl) (by kernel_rfl) (fun _ _ _ h => h) (by rfl) ?zy4 hHeld ?zr4
  case zy4 => (intro w' hSw; have c0 := LvW.s2 hSw; clear hSw; go_simp; try with_reducible rfl)
  (try simp only [Act.put, List.setIfInBounds_toArray, List.set_cons_zero, List.set_cons_succ])
  refine runH_3 (by kernel_rfl) (fun K hK => ?_)
  go_simp
  go_at_call 26
  refine Calls.mono (HLN.out w1) ?_
  rintro e w2 ⟨rfl, hb2⟩
  have H2 : Hid (LvW w S rv pv b w2) := HD0.out.go hb2
  clear hb2
  go_wp2_with fail
  refine hK.out _ _ H2.out (fun hHeld2 => ?_)
  clear hK K hHeld
  have hHeld := hHeld2
  clear hHeld2
  (try simp only [Act.put, List.setIfInBounds_toArray, List.set_cons_zero, List.set_cons_succ])
  refine runH_6 (by kernel_rfl) (fun K hK => ?_)
  go_simp
  go_at_call 25
  refine Calls.mono (HBG.out w2 H2.out) ?_
  rintro e w3 ⟨p, rfl, hm3, hl3⟩
  have HM3 : Hid (MachAt w3 (fun k => k ≤ b) p (begM S (lineI S.line) S.fuse)) := hm3
  have HL3 : Hid (LvW w S rv pv b w3) := hl3
  clear hm3 hl3
  go_wp2_with fail
  refine hK.out _ _ HL3.out (fun hHeld2 => ?_)
  clear hK K hHeld
  have hHeld := hHeld2
  clear hHeld2
  (try simp only [Act.put, List.setIfInBounds_toArray, List.set_cons_zero, List.set_cons_succ])
  refine' takeH_7 _ (by kernel_rfl) (by kernel_rfl) (by kernel_rfl) (fun _ _ _ h => h) (by rfl) ?zy5 hHeld ?zr5
  case zy5 => (intro w' hSw; clear hSw; go_simp; try with_reducible rfl)
  (try simp only [Act.put, List.setIfInBounds_toArray, List.set_cons_zero, List.set_cons_succ])
  refine' takeH_8 _ (by kernel_rfl) (by kernel_rfl) (by kernel_rfl) (fun _ _ _ h => h) (by rfl) ?zy6 hHeld ?zr6
  case zy6 => (intro w' hSw; clear hSw; go_simp; try with_reducible rfl)
  (try simp only [Act.put, List.setIfInBounds_toArray, List.set_cons_zero, List.set_cons_succ])
  refine' takeH_9 _ (by kernel_rfl) (by kernel_rfl) (by kernel_rfl) (fun _ _ _ h => h) (by rfl) ?zy7 hHeld ?zr7
  case zy7 => (intro w' hSw; clear hSw; go_simp; try with_reducible rfl)
  (try simp only [Act.put, List.setIfInBounds_toArray, List.set_cons_zero, List.set_cons_succ])
  refine' takeH_10 _ (by kernel_rfl) (by kernel_rfl) (by kernel_rfl) (fun _ _ _ h => h) (by rfl) ?zy8 hHeld ?zr8
  case zy8 => (intro w' hSw; clear hSw; go_simp; try with_reducible rfl)
  (try simp only [Act.put, List.setIfInBounds_toArray, List.set_cons_zero, List.set_cons_succ])
  refine' takeH_11 _ (by kernel_rfl) (by kernel_rfl) (by kernel_rfl) (fun _ _ _ h => h) (by rfl) ?zy9 hHeld ?zr9
  case zy9 => (intro w' hSw; clear hSw; go_simp; try with_reducible rfl)
  (try simp only [Act.put, List.setIfInBounds_toArray, List.set_cons_zero, List.set_cons_succ])
  refine wpAnyH_done (by kernel_rfl) ?_ _
  clear hHeld HD0 H2 HLN HBG
  have HLV : Hid (Live (begM S (lineI S.line) S.fuse) 0 0 ∧ (begM S (lineI S.line) S.fuse).fuse = S.fuse) := ⟨⟨beg_good S _ _ (lineI_ok _) HS.out.rs.bd, Int.le_refl _, by show (0 : Int) ≤ 2 * ((0 : Nat) : Int); decide, Nat.le_refl _, fun _ => by show ((0 : Nat) : Int) ≤ 2 * 0 + 0; decide⟩, rfl⟩
  generalize begM S (lineI S.line) S.fuse = M0 at *
  go_wp2_with fail
  go_loopg [7, 8] T.length (fun g cv iv wr => ∃ (i c : Nat) (M : Mc), i + g = T.length ∧ cv = .int .i64 c ∧ iv = .int .i64 i ∧ c ≤ i ∧ Hid (Live M i c ∧ M.fuse = S.fuse) ∧ Hid (LvW w S rv pv b wr ∧ MachAt wr (fun k => k ≤ b) p M))
  case atStart => exact ⟨0, 0, M0, by omega, rfl, rfl, Nat.le_refl _, HLV, ⟨HL3.out, HM3.out⟩⟩
  case round =>
    obtain ⟨i, c, M, hi, rfl, rfl, hci, hlv, hrel⟩ := hrel
    clear HLV HL3 HM3
    have hTL := HTL.out
    by_cases hlt : i < T.length
    · have hks : (lookCells M).size = 37 := by kernel_rfl
      have hka : (lookCells M).all (·.oneCell') = true := by kernel_rfl
      go_wp2_with fail
      refine Calls.mono (ma_Look hrel.out.2) ?_
      rintro e w4 ⟨rfl, hb4⟩
      have H4 : Hid (LvW w S rv pv b w4 ∧ MachAt w4 (fun k => k ≤ b) p M) := ⟨hrel.out.1.go hb4, hrel.out.2.go hb4⟩
      clear hb4 hrel
      unfold lookV
      obtain ⟨LX, hLX⟩ : ∃ LX, LX = lookCells M := ⟨_, rfl⟩
      have HLX : Hid (LX = lookCells M) := hLX
      rw [← hLX] at hks hka ⊢
      clear hLX
      go_wp2_with (with_reducible refine' stop_store (t := 61) ?_)
      refine go_on ?_
      generalize hW : w4.alloc _ = WA
      have HFA : Hid (Below w4.heap.size w4 WA ∧ ∃ Z : Array Value, WA.heap[w4.heap.size]? = some (.cells Z 61 (0, 0)) ∧ Z.size = 37) := by
        rw [Hid, ← hW]; exact ⟨(Below.refl _ _).alloc (Nat.le_refl _) _, _, heap_alloc_new _ _, rfl⟩
      clear hW
      obtain ⟨ZA, hz1, hz2⟩ := HFA.out.2
      refine wl_store_row (cells := LX) (g := w4.heap.size) (old := ZA) (t' := 61) rfl rfl hz1 (by rw [hks]; kernel_rfl) (by rw [hks]; exact hz2) hka (fun WB hWB => ?_)
      have HFB : Hid (LvW w S rv pv b WB ∧ MachAt WB (fun k => k ≤ b ∨ k = w4.heap.size) p M ∧ WB.heap[w4.heap.size]? = some (.cells LX 61 (0, 0))) := by
        rw [Hid, hWB.out]
        have hb : Below w4.heap.size w4 (WA.setRow w4.heap.size LX) := HFA.out.1.trans ⟨rfl, rfl, rfl, by simp, fun k hk => setRow_other _ _ _ _ (by omega)⟩
        have hh : (WA.setRow w4.heap.size LX).heap[w4.heap.size]? = some (.cells LX 61 (0, 0)) := setRow_heap _ _ _ _ _ _ hz1
        exact ⟨H4.out.1.go hb, H4.out.2.new hb (Nat.le_refl _) (Array.getElem?_eq_some_iff.1 hh).1, hh⟩
      clear hWB hz1 hz2 HFA hks hka H4
      generalize w4.heap.size = gx at *
      obtain ⟨x, hx⟩ : ∃ x : UInt8, (⟨T.toArray⟩ : ByteArray)[i]'(by show i < T.toArray.size; simpa using hlt) = x := ⟨_, rfl⟩
      obtain ⟨t, f, r, h3, htf⟩ := tick_bits x
      have HTF : Hid (t = 0 ∧ f = false ∧ r = false ∨ t = 1 ∧ f = true ∧ r = false ∨ t = 2 ∧ f = false ∧ r = true ∨ t = 3 ∧ f = true ∧ r = true) := htf
      have e1 : (bits .and .u8 t 1 != 0) = f := by rcases htf with ⟨rfl, rfl, rfl⟩ | ⟨rfl, rfl, rfl⟩ | ⟨rfl, rfl, rfl⟩ | ⟨rfl, rfl, rfl⟩ <;> rfl
      have e2 : (bits .and .u8 t 2 != 0) = r := by rcases htf with ⟨rfl, rfl, rfl⟩ | ⟨rfl, rfl, rfl⟩ | ⟨rfl, rfl, rfl⟩ | ⟨rfl, rfl, rfl⟩ <;> rfl
      clear htf
      go_wp2_with fail
      refine Calls.mono (ma_Tick f r HFB.out.2.1 (HT.out.below HFB.out.1.below (Nat.le_refl _)) hlv.out.1.good) ?_
      rintro e w5 ⟨rfl, hm5, hk5⟩
      obtain ⟨hln0, hst0⟩ := live_step f r hlv.out.1 (show i < 2305843009213693951 by omega)
      have HLN : Hid (Live (M.tick f r) (i + 1) (c + (if f = false ∧ r = false then 1 else 0)) ∧ (M.tick f r).fuse = S.fuse) := ⟨hln0, hst0.same.trans hlv.out.2⟩
      have HST : Hid (LiveStep M (M.tick f r) (c + (if f = false ∧ r = false then 1 else 0)) f r) := hst0
      clear hln0 hst0
      have hfu := hlv.out.2
      have HFU : Hid (M.fuse = S.fuse) := hfu
      have HM0 : Hid (0 ≤ M.done ∧ M.done ≤ 2 * i) := ⟨hlv.out.1.done0, hlv.out.1.done1⟩
      clear hfu hlv
      generalize M.tick f r = N at *
      have H5 : Hid (LvW w S rv pv b w5 ∧ MachAt w5 (fun k => k ≤ b ∨ k = gx) p N ∧ w5.heap[gx]? = some (.cells LX 61 (0, 0))) := ⟨HFB.out.1.kp hk5 (fun k hk => .inl hk), hm5, by rw [hk5.block gx (.inr rfl)]; exact HFB.out.2.2⟩
      clear hm5 hk5 HFB
      have hks : (lookCells N).size = 37 := by kernel_rfl
      have hka : (lookCells N).all (·.oneCell') = true := by kernel_rfl
      go_wp2_with fail
      refine Calls.mono (ma_Look H5.out.2.1) ?_
      rintro e w6 ⟨rfl, hb6⟩
      have H6 : Hid (LvW w S rv pv b w6 ∧ MachAt w6 (fun k => k ≤ b ∨ k = gx) p N ∧ w6.heap[gx]? = some (.cells LX 61 (0, 0))) := ⟨H5.out.1.go hb6, H5.out.2.1.go hb6, by rw [hb6.block _ (Array.getElem?_eq_some_iff.1 H5.out.2.2).1]; exact H5.out.2.2⟩
      clear hb6 H5
      unfold lookV
      obtain ⟨LY, hLY⟩ : ∃ LY, LY = lookCells N := ⟨_, rfl⟩
      have HLY : Hid (LY = lookCells N) := hLY
      rw [← hLY] at hks hka ⊢
      clear hLY
      go_wp2_with (with_reducible refine' stop_store (t := 61) ?_)
      refine go_on ?_
      generalize hW : w6.alloc _ = WA
      have HFA : Hid (Below w6.heap.size w6 WA ∧ ∃ Z : Array Value, WA.heap[w6.heap.size]? = some (.cells Z 61 (0, 0)) ∧ Z.size = 37) := by
        rw [Hid, ← hW]; exact ⟨(Below.refl _ _).alloc (Nat.le_refl _) _, _, heap_alloc_new _ _, rfl⟩
      clear hW
      obtain ⟨ZA, hz1, hz2⟩ := HFA.out.2
      refine wl_store_row (cells := LY) (g := w6.heap.size) (old := ZA) (t' := 61) rfl rfl hz1 (by rw [hks]; kernel_rfl) (by rw [hks]; exact hz2) hka (fun WB hWB => ?_)
      have HR : Hid (LvR w S rv pv b p N gx w6.heap.size LX LY WB) := by
        rw [Hid, hWB.out]
        have hb : Below w6.heap.size w6 (WA.setRow w6.heap.size LY) := HFA.out.1.trans ⟨rfl, rfl, rfl, by simp, fun k hk => setRow_other _ _ _ _ (by omega)⟩
        have hh : (WA.setRow w6.heap.size LY).heap[w6.heap.size]? = some (.cells LY 61 (0, 0)) := setRow_heap _ _ _ _ _ _ hz1
        exact ⟨H6.out.1.go hb, (H6.out.2.1.go hb).less (fun k hk => .inl hk), by rw [hb.block _ (Array.getElem?_eq_some_iff.1 H6.out.2.2).1]; exact H6.out.2.2, hh⟩
      clear hWB hz1 hz2 HFA hks hka H6
      generalize w6.heap.size = gy at *
      have hx1 : (lookCells M)[1]? = some (.bool (M.cause != 0)) := rfl
      have hx3 : (lookCells M)[3]? = some (.int .i64 M.done) := rfl
      have hy1 : (lookCells N)[1]? = some (.bool (N.cause != 0)) := rfl
      have hy3 : (lookCells N)[3]? = some (.int .i64 N.done) := rfl
      have hy4 : (lookCells N)[4]? = some (.int .i64 N.par.length) := rfl
      rw [← HLX.out] at hx1 hx3
      rw [← HLY.out] at hy1 hy3 hy4
      have x1 := (HR.out.x 1).trans hx1
      have x3 := (HR.out.x 3).trans hx3
      have y1 := (HR.out.y 1).trans hy1
      have y3 := (HR.out.y 3).trans hy3
      have y4 := (HR.out.y 4).trans hy4
      have s2 := HR.out.lw.s2
      have HSUM : Hid ((0 ≤ M.done ∧ M.done ≤ 2 * i) ∧ (M.done ≤ N.done ∧ N.done ≤ M.done + 2) ∧ (N.done = M.done + 2 → S.fuse = true) ∧ (r = true → N.done = M.done ∧ (N.cause != 0) = (M.cause != 0)) ∧ N.par.length ≤ 48 ∧ ((M.cause != 0) = true → N.done = M.done ∧ (N.cause != 0) = true ∧ LY = LX) ∧ ((N.cause != 0) = false → ((c + (if f = false ∧ r = false then 1 else 0) : Nat) : Int) / 2 ≤ N.done)) := by
        have h := HST.out
        refine ⟨HM0.out, ⟨by have := h.n0; omega, by have := h.n2; omega⟩, fun e => by rw [← HFU.out]; exact h.fuse (by omega), fun e => ⟨(h.stall e).1, by rw [(h.stall e).2]⟩, h.queue, fun e => ?_, fun e => h.rate (by simpa using e)⟩
        have e' := h.halted (by simpa using e)
        refine ⟨by rw [e'], by rw [e']; exact e, by rw [HLY.out, e', HLX.out]⟩
      have HLZ : Hid (LX.size = 37) := by rw [Hid, HLX.out]; kernel_rfl
      have HNE : Hid (∀ W, (binOp .neq 61 (.agg LX) (.agg LX)).run Tryd.prog W = .ok (.bool false) W) := fun W => by rw [HLX.out]; exact neq_state W M
      clear hx1 hx3 hy1 hy3 hy4 HLX HLY HST HM0 HFU h3 e1 e2 hx
      generalize (M.cause != 0) = bx at *
      generalize (N.cause != 0) = by' at *
      generalize M.done = xd at *
      generalize N.done = yd at *
      generalize N.par.length = q at *
      obtain ⟨k, hk⟩ : ∃ k : Nat, k = if f = false ∧ r = false then 1 else 0 := ⟨_, rfl⟩
      rw [← hk] at HSUM HLN
      have HK : Hid ((t = 0 ∧ k = 1 ∨ t ≠ 0 ∧ k = 0) ∧ (2 ≤ t ↔ r = true) ∧ 0 ≤ t ∧ t ≤ 3) := by
        rcases HTF.out with ⟨rfl, rfl, rfl⟩ | ⟨rfl, rfl, rfl⟩ | ⟨rfl, rfl, rfl⟩ | ⟨rfl, rfl, rfl⟩ <;> subst hk <;> simp [Hid]
      clear hk HTF
      go_upto_if 48 with fail
      go_cut [7] from 48 to 50 (fun cv wx => cv = .int .i64 (c + k : Nat) ∧ wx = WB)
      case first =>
        rcases HK.out.1 with ⟨rfl, rfl⟩ | ⟨ht0, rfl⟩
        · go_wp2_with fail
          go_meet
          exact ⟨by go_num, rfl⟩
        · go_wp2_with fail
          go_meet
          exact ⟨by go_num, rfl⟩
      case rest =>
        obtain ⟨rfl, rfl⟩ := hcut
        have hkb : k ≤ 1 := by rcases HK.out.1 with ⟨_, h⟩ | ⟨_, h⟩ <;> omega
        obtain ⟨⟨k1, k2⟩, ⟨k3, k4⟩, -⟩ := HSUM.out
        go_upto_region 15 with fail
        go_cut [12, 95] from 55 to 94 (fun _ v wx => v = .bool false ∧ wx = wc)
        case first =>
          obtain ⟨-, ⟨-, -⟩, k5, k6, k7, -, -⟩ := HSUM.out
          obtain ⟨-, kt, t0, t3⟩ := HK.out
          by_cases ht2 : 2 ≤ t
          · obtain ⟨hy0, rfl⟩ := k6 (kt.1 ht2)
            have hy : yd ≤ xd := by omega
            clear k5 k6 kt hy0
            go_wp2_with fail
            go_meet
            exact ⟨by simp <;> omega, rfl⟩
          · clear k6 kt
            by_cases h2 : yd = xd + 2
            · have s2' : wc.cell? ⟨b, 2, none⟩ = some (.bool true) := by rw [s2, k5 h2]
              have hy : xd + 2 ≤ yd := by omega
              clear k5 s2 h2
              go_wp2_with fail
              go_meet
              exact ⟨by simp <;> omega, rfl⟩
            · have hy : yd ≤ xd + 1 := by omega
              clear k5 h2
              go_wp2_with fail
              go_meet
              exact ⟨by simp <;> omega, rfl⟩
        case rest =>
          obtain ⟨rfl, rfl⟩ := hcut
          go_upto_region 17 with fail
          go_cut [102] from 96 to 101 (fun v wx => v = .bool false ∧ wx = wc)
          case first =>
            obtain ⟨-, ⟨-, -⟩, -, -, -, k8, -⟩ := HSUM.out
            cases hbx : bx with
            | true =>
              subst hbx
              obtain ⟨-, rfl, rfl⟩ := k8 rfl
              clear k8
              have hks : LY.size = 37 := HLZ.out
              go_wp2_with (with_reducible refine' stop_load (t := 61) ?_)
              refine go_on ?_
              refine wl_load_row_want (by rfl) _ _ rfl gx rfl 61 LY (0, 0) _ HR.out.sx Tryd.underlying61 rfl (by rw [hks]; kernel_rfl) ?_
              go_wp2_with (with_reducible refine' stop_load (t := 61) ?_)
              refine go_on ?_
              refine wl_load_row_want (by rfl) _ _ rfl gy rfl 61 LY (0, 0) _ HR.out.sy Tryd.underlying61 rfl (by rw [hks]; kernel_rfl) ?_
              refine wl_bin_want (by rfl) rfl rfl rfl (by kernel_rfl) (HNE.out wc) ?_
              go_wp2_with fail
              go_meet
              exact ⟨by simp, rfl⟩
            | false =>
              subst hbx
              clear k8
              go_wp2_with fail
              go_meet
              exact ⟨by simp, rfl⟩
          case rest =>
            obtain ⟨rfl, rfl⟩ := hcut
            go_upto_region 19 with fail
            go_cut [112] from 103 to 111 (fun v wx => v = .bool false ∧ wx = wc)
            case first =>
              obtain ⟨-, ⟨-, -⟩, -, -, -, -, k9⟩ := HSUM.out
              cases hby : by' with
              | true =>
                subst hby
                clear k9
                go_wp2_with fail
                go_meet
                exact ⟨by simp, rfl⟩
              | false =>
                subst hby
                have k9' := k9 rfl
                clear k9
                go_wp2_with fail
                go_meet
                exact ⟨by simp <;> omega, rfl⟩
            case rest =>
              obtain ⟨rfl, rfl⟩ := hcut
              go_wp2_with fail
              go_roundg (T.length - (i + 1))
              case measure => omega
              case rel => exact ⟨i + 1, c + k, N, by omega, rfl, by go_num, by omega, HLN, ⟨HR.out.lw, HR.out.m⟩⟩
    · go_wp2
      go_ret
      exact ⟨rfl, hrel.out.1.below⟩
end Go.Proofs.YtdcmdjeooklmjaaDoor
