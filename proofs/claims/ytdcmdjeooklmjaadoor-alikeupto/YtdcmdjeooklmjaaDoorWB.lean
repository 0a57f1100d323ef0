/-
  O1 in one text.
-/
import Derived.Test.YtdcmdjeooklmjaaDoorVE
import Derived.Test.YtdcmdjeooklmjaaDoorVF
set_option linter.unusedVariables false
set_option linter.unusedSimpArgs false
/-
  Walks: a work's do: load, store, jump, branch, pause, halt.
-/
namespace Go.Proofs.YtdcmdjeooklmjaaDoor
open Go.RowKit Go.PageMap Go.Maps
set_option maxRecDepth 100000
def sizeC (op : Int) : Nat := if op = 16 then 1 else if op = 17 then 2 else 4
def takenC (op a b : Int) : Bool :=
  if op = 5 then a == b else if op = 6 then a != b else if op = 7 then decide (wrap32 a < wrap32 b) else if op = 8 then decide (wrap32 b ≤ wrap32 a) else if op = 9 then decide (a < b) else decide (b ≤ a)
def loadC (op : Int) (mem : Int → Int) (a : Int) : Int :=
  if op = 11 then IntKind.i8.wrap (numAt mem a 1) % 4294967296 else if op = 12 then IntKind.i16.wrap (numAt mem a 2) % 4294967296 else if op = 14 then numAt mem a 1 else if op = 15 then numAt mem a 2 else numAt mem a 4
def addrC (M : Mc) (c : Cm) : Int := (M.regs c.rs1 + c.imm % 4294967296) % 4294967296
def targetC (M : Mc) (c : Cm) : Int := if c.op = 3 then (c.pc + c.imm % 4294967296) % 4294967296 else addrC M c - addrC M c % 2
theorem m_pause_do (w : World) (L : Lay) (M : Mc) (c : Cm) (h : At w L M) (hc : CmOk c) :
    Calls Tryd.prog 181 #[cmV c, .pointer (some ⟨L.b, 0, none⟩)] w fun e w' => e = .returned (.tuple #[]) ∧ At w' L { M with pc := c.next } ∧ Steps L w L w' := by
  have hlt := h.cells.lt
  have HA : Hid (At w L M) := h
  have HC : Hid (CmOk c) := hc
  clear h hc
  unfold cmV
  go_enter Tryd.func181, Tryd.ntmps181
  go_wp2_with (go_at_call 129; refine (m_next_any _ c HC.out).mono ?_; rintro e w1 ⟨rfl, hb1⟩; have HB1 : Hid (Below w.heap.size w w1) := ((Below.refl _ _).alloc (Nat.le_refl _) _).trans (hb1.mono (by simp)); clear hb1; have HA1 : Hid (At w1 L M) := HA.out.below HB1.out (Nat.le_refl _); have hp1 := HA1.out.pc; have hf1 := HA1.out.free 0)
  go_end0
  exact ⟨rfl, HA1.out.setPc _, (Steps.below HB1.out).trans (Steps.set _ _ _)⟩
theorem m_halt_do (w : World) (L : Lay) (M : Mc) (c : Cm) (k : Int) (h : At w L M) :
    Calls Tryd.prog 168 #[haltV c k, .pointer (some ⟨L.b, 0, none⟩)] w fun e w' => e = .returned (.tuple #[]) ∧ At w' L { M with cause := k } ∧ Steps L w L w' := by
  have hlt := h.cells.lt
  have HA : Hid (At w L M) := h
  have hca := h.cause
  have hfr := h.free 39
  clear h
  unfold haltV
  go_enter Tryd.func168, Tryd.ntmps168
  go_wp2
  go_end0
  exact ⟨rfl, (HA.out.setCause k).alloc _, (Steps.set _ _ _).trans (Steps.alloc _ _ _)⟩
theorem m_size_any (w : World) (c : Cm) : Calls Tryd.prog 172 #[cmV c] w fun e w' => e = .returned (.int .i64 (sizeC c.op)) ∧ Below w.heap.size w w' := by
  have HB : Hid (∀ o, Below w.heap.size w (w.alloc o)) := fun o => (Below.refl _ _).alloc (Nat.le_refl _) o
  obtain ⟨op, rd, rs1, rs2, imm, pc, n⟩ := c
  unfold cmV
  dsimp only
  go_enter Tryd.func172, Tryd.ntmps172
  go_wp2
  all_goals (go_ret; refine ⟨?_, HB.out _⟩; clear HB; simp_all [sizeC])
theorem m_taken_any (w : World) (c : Cm) (a b : Int) : Calls Tryd.prog 178 #[cmV c, .int .u32 a, .int .u32 b] w fun e w' => e = .returned (.bool (takenC c.op a b)) ∧ Below w.heap.size w w' := by
  have HB : Hid (∀ o, Below w.heap.size w (w.alloc o)) := fun o => (Below.refl _ _).alloc (Nat.le_refl _) o
  obtain ⟨op, rd, rs1, rs2, imm, pc, n⟩ := c
  unfold cmV
  dsimp only
  go_enter Tryd.func178, Tryd.ntmps178
  go_wp2
  all_goals (go_ret; refine ⟨?_, HB.out _⟩; clear HB; simp_all [takenC])
set_option maxHeartbeats 2000000 in
theorem m_loaded_any (w : World) (L : Lay) (M : Mc) (c : Cm) (a : Int) (h : At w L M) (hm : MemOk M.mem) (a0 : 0 ≤ a) (a1 : a < 4294967296) :
    Calls Tryd.prog 180 #[cmV c, .pointer (some ⟨L.b, 0, none⟩), .int .u32 a] w fun e w' => e = .returned (.int .u32 (loadC c.op M.mem a)) ∧ Below w.heap.size w w' := by
  have hlt := h.cells.lt
  have HA : Hid (At w L M) := h
  have HM : Hid (MemOk M.mem) := hm
  clear h hm
  unfold cmV
  go_enter Tryd.func180, Tryd.ntmps180
  go_wp2_with fail
  all_goals (
    generalize hW : w.alloc _ = W0
    have HB0 : Hid (Below w.heap.size w W0) := by rw [Hid, ← hW]; exact (Below.refl _ _).alloc (Nat.le_refl _) _
    have HA0 : Hid (At W0 L M) := HA.out.below HB0.out (Nat.le_refl _)
    clear hW
    have n1 : Calls Tryd.prog 109 #[.pointer (some ⟨L.b, 33, none⟩), .int .u32 a, .int .i64 1] W0 fun e w' => e = .returned (.int .u32 (numAt M.mem a 1)) ∧ Below W0.heap.size W0 w' := m_number_any W0 L M a 1 HA0.out a0 a1 (.inl rfl) HM.out
    have n2 : Calls Tryd.prog 109 #[.pointer (some ⟨L.b, 33, none⟩), .int .u32 a, .int .i64 2] W0 fun e w' => e = .returned (.int .u32 (numAt M.mem a 2)) ∧ Below W0.heap.size W0 w' := m_number_any W0 L M a 2 HA0.out a0 a1 (.inr (.inl rfl)) HM.out
    have n4 : Calls Tryd.prog 109 #[.pointer (some ⟨L.b, 33, none⟩), .int .u32 a, .int .i64 4] W0 fun e w' => e = .returned (.int .u32 (numAt M.mem a 4)) ∧ Below W0.heap.size W0 w' := m_number_any W0 L M a 4 HA0.out a0 a1 (.inr (.inr rfl)) HM.out
    (first | with_reducible refine' Calls.mono n1 ?_ | with_reducible refine' Calls.mono n2 ?_ | with_reducible refine' Calls.mono n4 ?_)
    clear n1 n2 n4
    rintro e w1 ⟨rfl, hb1⟩
    have HB1 : Hid (Below w.heap.size w w1) := HB0.out.trans (hb1.mono HB0.out.size)
    clear hb1
    go_wp2
    go_ret
    refine ⟨?_, HB1.out⟩
    clear HB1 HB0 HA0 HA HM
    simp_all [loadC])
set_option maxHeartbeats 2000000 in
theorem m_load_do (w : World) (L : Lay) (M : Mc) (c : Cm) (h : At w L M) (hc : CmOk c) (hm : MemOk M.mem) :
    Calls Tryd.prog 179 #[cmV c, .pointer (some ⟨L.b, 0, none⟩)] w fun e w' => e = .returned (.tuple #[]) ∧ At w' L { M.put c.rd (loadC c.op M.mem (addrC M c)) with pc := c.next } ∧ Steps L w L w' := by
  have hlt := h.cells.lt
  have HA : Hid (At w L M) := h
  have HM : Hid (MemOk M.mem) := hm
  have HC : Hid (CmOk c) := hc
  clear h hc hm
  unfold cmV
  go_enter Tryd.func179, Tryd.ntmps179
  go_wp2_with fail
  generalize hW : w.alloc _ = W0
  have HB0 : Hid (Below w.heap.size w W0) := by rw [Hid, ← hW]; exact (Below.refl _ _).alloc (Nat.le_refl _) _
  have HBx : Hid (BoxAt W0 w.heap.size 230 c) := by rw [Hid, ← hW]; exact BoxAt.new w _ c
  have hsz : w.heap.size < W0.heap.size := by rw [← hW]; simp
  have hnf : ¬ L.foot w.heap.size := fun hf => Nat.lt_irrefl _ (HA.out.foot_lt hf)
  obtain ⟨e0, e1, e2, e3, e4, e5, e6⟩ := HBx.out.cell
  have HA0 : Hid (At W0 L M) := HA.out.below HB0.out (Nat.le_refl _)
  clear hW
  go_quiet ((go_at_call 171; exact Calls.quiet_of_same (m_register_any _ L M c.rs1 (HA0.out.drewN _) HC.out.rs1)))
  rw [show (M.regs c.rs1 + c.imm % 4294967296) % 4294967296 = addrC M c from rfl]
  have ha0 : 0 ≤ addrC M c := by unfold addrC; omega
  have ha1 : addrC M c < 4294967296 := by unfold addrC; omega
  obtain ⟨ad, had⟩ : ∃ ad, ad = addrC M c := ⟨_, rfl⟩
  have HAD : Hid (ad = addrC M c) := had
  rw [← had] at ha0 ha1 ⊢
  clear had
  have HA1 : Hid (At (W0.drewN nq) L M) := HA0.out.drewN nq
  have HS1 : Hid (Steps L w L (W0.drewN nq)) := (Steps.below HB0.out).trans (Steps.drewN _ _ _)
  have HX1 : Hid (BoxAt (W0.drewN nq) w.heap.size 230 c) := HBx.out
  have hsz1 : w.heap.size < (W0.drewN nq).heap.size := hsz
  generalize W0.drewN nq = W1 at *
  obtain ⟨f0, f1, f2, f3, f4, f5, f6⟩ := HX1.out.cell
  clear e0 e1 e2 e3 e4 e5 e6
  go_wp2_with fail
  go_region_with (first
    | (go_at_call 180; refine (m_loaded_any W1.drew L M c ad HA1.out.drew HM.out ha0 ha1).mono ?_; rintro e w2 ⟨rfl, hb2⟩; have HA2 : Hid (At w2 L M) := HA1.out.drew.below hb2 (Nat.le_refl _); have HS2 : Hid (Steps L w L w2) := (HS1.out.trans (Steps.drew _ _)).trans (Steps.below hb2); have HX2 : Hid (BoxAt w2 w.heap.size 230 c) := BoxAt.below (W := W1.drew) HX1.out hb2 hsz1; obtain ⟨g0, g1, g2, g3, g4, g5, g6⟩ := HX2.out.cell; clear hb2)
    | (go_at_call 176; refine (m_setRegister_any w2 L M c.rd _ HA2.out HC.out.rd).mono ?_; rintro e w3 ⟨rfl, hA3, hS3⟩; have HA3 : Hid (At w3 L (M.put c.rd (loadC c.op M.mem ad))) := hA3; have HS3 : Hid (Steps L w L w3) := HS2.out.trans hS3; have HX3 : Hid (BoxAt w3 w.heap.size 230 c) := HX2.out.steps hS3 hnf; obtain ⟨k0, k1, k2, k3, k4, k5, k6⟩ := HX3.out.cell; clear hA3 hS3))
  all_goals clear f0 f1 f2 f3 f4 f5 f6 g0 g1 g2 g3 g4 g5 g6
  all_goals go_wp2_with (go_at_call 129; refine (m_next_any w3 c HC.out).mono ?_; rintro e w4 ⟨rfl, hb4⟩; have HA4 : Hid (At w4 L (M.put c.rd (loadC c.op M.mem ad))) := HA3.out.below hb4 (Nat.le_refl _); have HS4 : Hid (Steps L w L w4) := HS3.out.trans (Steps.below hb4); have hp4 := HA4.out.pc; have hf4 := HA4.out.free 0; clear hb4)
  all_goals go_end0
  all_goals (rw [← HAD.out]; exact ⟨rfl, HA4.out.setPc _, HS4.out.trans (Steps.set _ _ _)⟩)
theorem andNot1 (x : Int) (h0 : 0 ≤ x) (h1 : x < 4294967296) : bits .andNot .u32 x 1 = x - x % 2 := by
  obtain ⟨n, rfl⟩ := Int.eq_ofNat_of_zero_le h0
  have e := u32_andNot_nat n 1 (by omega) (by decide)
  rw [show (1 : Int) = ((1 : Nat) : Int) from rfl, e]
  have h2 : (n &&& (4294967295 - 1)) / 2 = n / 2 % 2147483648 := by
    rw [Nat.and_div_two]
    exact Nat.and_two_pow_sub_one_eq_mod (n / 2) 31
  have h3 : (n &&& (4294967295 - 1)) % 2 = 0 := by
    have := Nat.and_mod_two_pow (a := n) (b := 4294967294) (n := 1)
    simpa using this
  omega
set_option maxHeartbeats 2000000 in
theorem m_target_any (w : World) (L : Lay) (M : Mc) (c : Cm) (h : At w L M) (hc : CmOk c) :
    Calls Tryd.prog 175 #[cmV c, .pointer (some ⟨L.b, 0, none⟩)] w fun e w' => e = .returned (.int .u32 (targetC M c)) ∧ Below w.heap.size w w' := by
  have hlt := h.cells.lt
  have HA : Hid (At w L M) := h
  have HC : Hid (CmOk c) := hc
  have HN : Hid (bits .andNot .u32 (addrC M c) 1 = addrC M c - addrC M c % 2) := andNot1 _ (by unfold addrC; omega) (by unfold addrC; omega)
  clear h hc
  unfold cmV
  by_cases h3 : c.op = 3
  · have HT : Hid (targetC M c = (c.pc + c.imm % 4294967296) % 4294967296) := by rw [Hid, targetC, if_pos h3]
    have h3' : (c.op == 3) = true := by simp [h3]
    clear h3
    go_enter Tryd.func175, Tryd.ntmps175
    go_wp2
    go_ret
    exact ⟨congrArg (fun x => Ending.returned (.int .u32 x)) HT.out.symm, (Below.refl _ _).alloc (Nat.le_refl _) _⟩
  · have HT : Hid (targetC M c = addrC M c - addrC M c % 2) := by rw [Hid, targetC, if_neg h3]
    have h3' : (c.op == 3) = false := by simp [h3]
    clear h3
    go_enter Tryd.func175, Tryd.ntmps175
    go_wp2_with fail
    generalize hW : w.alloc _ = W0
    have HB0 : Hid (Below w.heap.size w W0) := by rw [Hid, ← hW]; exact (Below.refl _ _).alloc (Nat.le_refl _) _
    have HBx : Hid (BoxAt W0 w.heap.size 228 c) := by rw [Hid, ← hW]; exact BoxAt.new w _ c
    obtain ⟨e0, e1, e2, e3, e4, e5, e6⟩ := HBx.out.cell
    have HA0 : Hid (At W0 L M) := HA.out.below HB0.out (Nat.le_refl _)
    clear hW
    go_wp2_with fail
    go_quiet ((go_at_call 171; exact Calls.quiet_of_same (m_register_any _ L M c.rs1 (HA0.out.drewN _) HC.out.rs1)))
    rw [show (M.regs c.rs1 + c.imm % 4294967296) % 4294967296 = addrC M c from rfl, show (M.regs c.rs1 + c.imm) % 4294967296 = addrC M c by unfold addrC; omega, HN.out, ← HT.out]
    go_wp2
    go_ret
    exact ⟨rfl, Below.drewNw HB0.out _⟩
end Go.Proofs.YtdcmdjeooklmjaaDoor
