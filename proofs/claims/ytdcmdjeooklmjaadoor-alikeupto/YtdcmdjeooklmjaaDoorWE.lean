/-
  O4 O5 in one text.
-/
import Derived.Test.YtdcmdjeooklmjaaDoorWD
import Derived.Test.YtdcmdjeooklmjaaDoorWC
import Derived.Test.YtdcmdjeooklmjaaDoorVI
set_option linter.unusedVariables false
set_option linter.unusedSimpArgs false
/-
  Walks: doWorks of nothing and of a halt.
-/
namespace Go.Proofs.YtdcmdjeooklmjaaDoor
open Go.RowKit Go.PageMap Go.Maps
set_option maxRecDepth 100000
theorem ta_halt (p : Value) (w : World) : (Instr.typeAssert (.iface 183 p) 178 183 true).run Tryd.prog w = .ok (.tuple #[p, .bool true]) w := by kernel_rfl
theorem md_halt (c : Cm) (k : Int) (w : World) : (method 379 183 (haltV c k) "hart/machine.do").run Tryd.prog w = .ok (168, haltV c k) w := by kernel_rfl
set_option maxHeartbeats 2000000 in
theorem m_doWorks_nil (w : World) (L : Lay) (M : Mc) (h : At w L M) :
    Calls Tryd.prog 81 #[.pointer (some ⟨L.b, 0, none⟩), .slice none 0 0] w fun e w' => e = .returned (.tuple #[]) ∧ At w' L M ∧ Steps L w L w' := by
  have HA : Hid (At w L M) := h
  clear h
  go_enter Tryd.func81, Tryd.ntmps81
  go_wp2_with fail
  go_loopw [4, 9] (fun sv iv wr => iv = .int .i64 0 ∧ sv = .bool false ∧ wr = w) (fun _ _ _ => 0)
  case atStart => exact ⟨rfl, rfl, rfl⟩
  case round =>
    obtain ⟨rfl, rfl, rfl⟩ := hrel
    go_wp2
    go_end0
    exact ⟨rfl, HA.out, Steps.refl _ _⟩
set_option maxHeartbeats 2000000 in
theorem m_doWorks_halt (w : World) (L : Lay) (M : Mc) (c : Cm) (k : Int) (g : Nat) (h : At w L M) (hc : w.cell? ⟨g, 0, none⟩ = some (.iface 183 (haltV c k))) :
    Calls Tryd.prog 81 #[.pointer (some ⟨L.b, 0, none⟩), .slice (some ⟨g, 0, none⟩) 1 1] w fun e w' => e = .returned (.tuple #[]) ∧ At w' L { M with cause := k } ∧ Steps L w L w' := by
  have HA : Hid (At w L M) := h
  clear h
  have hmd := md_halt c k
  have hta := ta_halt (haltV c k)
  have HD : Hid (Calls Tryd.prog 168 #[haltV c k, .pointer (some ⟨L.b, 0, none⟩)] w fun e w' => e = .returned (.tuple #[]) ∧ At w' L { M with cause := k } ∧ Steps L w L w') := m_halt_do w L M c k HA.out
  generalize haltV c k = pay at *
  go_enter Tryd.func81, Tryd.ntmps81
  go_wp2_with fail
  go_loopw [4, 9] (fun sv iv wr => iv = .int .i64 0 ∧ sv = .bool false ∧ wr = w) (fun _ _ _ => 0)
  case atStart => exact ⟨rfl, rfl, rfl⟩
  case round =>
    obtain ⟨rfl, rfl, rfl⟩ := hrel
    go_wp2_with (go_at_call 168; refine Calls.mono HD.out ?_; rintro e w5 ⟨rfl, hA5, hS5⟩; have HA5 : Hid (At w5 L { M with cause := k }) := hA5; have HS5 : Hid (Steps L wr L w5) := hS5; clear hA5 hS5)
    exact bodyPost_ret (v := .tuple #[]) (by simp [results, Tryd.results81]) rfl ⟨rfl, HA5.out, HS5.out⟩
end Go.Proofs.YtdcmdjeooklmjaaDoor

/-
  A machine's tick, plainly; what stays within its bounds.
-/
namespace Go.Proofs.YtdcmdjeooklmjaaDoor
open Go.RowKit Go.PageMap Go.Maps
set_option maxRecDepth 100000
/-- Of which cause an Op halts; 0, if it does not. -/
def haltC (op : Int) : Int := if op = 47 then 2 else if op = 48 then 3 else if op = 0 then 1 else 0
def isStC (op : Int) : Bool := decide (op = 16 ∨ op = 17 ∨ op = 18)
/-- What an instruction does to a machine (that does not halt of it). -/
def Mc.doK (M : Mc) (c : Cm) : Mc :=
  if c.op = 3 ∨ c.op = 4 then { M.put c.rd c.next with pc := targetC M c } else
  if c.op = 5 ∨ c.op = 6 ∨ c.op = 7 ∨ c.op = 8 ∨ c.op = 9 ∨ c.op = 10 then { M with pc := if takenC c.op (M.regs c.rs1) (M.regs c.rs2) then (c.pc + c.imm % 4294967296) % 4294967296 else c.next } else
  if c.op = 11 ∨ c.op = 12 ∨ c.op = 13 ∨ c.op = 14 ∨ c.op = 15 then { M.put c.rd (loadC c.op M.mem (addrC M c)) with pc := c.next } else
  if c.op = 16 ∨ c.op = 17 ∨ c.op = 18 then { M with mem := wrL M.mem (addrC M c) ((leB (M.regs c.rs2)).take (sizeC c.op)), pc := c.next } else
  if c.op = 46 then { M with pc := c.next } else M.comp c
def Mc.one (M : Mc) (c : Cm) : Mc := { M.doK c with done := wrap64 ((M.doK c).done + 1) }
/-- Behind doWorks. -/
def Mc.works (M : Mc) : List Cm → Mc
  | [] => M
  | [c] => if haltC c.op ≠ 0 then { M with cause := haltC c.op } else (M.one c).clear (isStC c.op) c c.n
  | c :: d :: _ => ((M.one c).one d).clear false d (c.n + d.n)
/-- What is there behind the fetch. -/
def Mc.fet (M : Mc) (f : Bool) : Mc := if f then M else M.fetch
/-- A tick; f, r: fetch and rest stalled. -/
def Mc.tick (M : Mc) (f r : Bool) : Mc := if M.cause ≠ 0 then M else if r then M.fet f else (M.fet f).works (worksC (M.fet f))

theorem dec_op (x : Int) : 0 ≤ (Hm.decC x).op ∧ (Hm.decC x).op ≤ 48 ∧ ((Hm.decC x).op = 0 → (Hm.decC x).f.d = 0) := by
  have h : ∀ n k : Nat, 1 ≤ k → n + k ≤ 49 → 0 ≤ (Hm.decCFrom x n k).op ∧ (Hm.decCFrom x n k).op ≤ 48 ∧ ((Hm.decCFrom x n k).op = 0 → (Hm.decCFrom x n k).f.d = 0) := by
    intro n
    induction n with
    | zero => intro k _ _; exact ⟨Int.le_refl _, by show (0 : Int) ≤ 48; decide, fun _ => rfl⟩
    | succ n ih =>
      intro k hk hn
      rw [Hm.decCFrom]
      split
      · refine ⟨by show (0 : Int) ≤ (k : Int); omega, by show (k : Int) ≤ 48; omega, fun h => ?_⟩
        have h' : (k : Int) = 0 := h
        omega
      · exact ih _ (by omega) (by omega)
  exact h 48 1 (by omega) (by omega)
theorem exp_op (x : Int) : 0 ≤ (Hm.expC x).op ∧ (Hm.expC x).op ≤ 48 ∧ ((Hm.expC x).op = 0 → (Hm.expC x).f.d = 0) := by
  have h : ∀ n k : Nat, n + k ≤ 26 → 0 ≤ (Hm.expCFrom x n k).op ∧ (Hm.expCFrom x n k).op ≤ 48 ∧ ((Hm.expCFrom x n k).op = 0 → (Hm.expCFrom x n k).f.d = 0) := by
    intro n
    induction n with
    | zero => intro k _; exact ⟨Int.le_refl _, by show (0 : Int) ≤ 48; decide, fun _ => rfl⟩
    | succ n ih =>
      intro k hn
      rw [Hm.expCFrom]
      split
      · have hr := (Hm.row_ok (k := k) (by omega)).op
        refine ⟨by show (0 : Int) ≤ (Hm.rowC k).op; omega, by show (Hm.rowC k).op ≤ 48; omega, fun h => ?_⟩
        have h' : (Hm.rowC k).op = 0 := h
        omega
      · exact ih _ (by omega)
  unfold Hm.expC
  split
  · exact ⟨Int.le_refl _, by show (0 : Int) ≤ 48; decide, fun _ => rfl⟩
  · exact h 26 0 (by omega)
/-- What is cut out of a buffer. -/
structure CutOk (par : List (Int × Int)) (k : Nat) (c : Cm) : Prop where
  op0 : 0 ≤ c.op
  op1 : c.op ≤ 48
  none : c.op = 0 → c.rd = 0
  len : k + c.n ≤ par.length
  n : c.n = 1 ∨ c.n = 2
  pc : ∃ p, par[k]? = some p ∧ c.pc = p.1
theorem cut_facts {par : List (Int × Int)} {k : Nat} {c : Cm} (h : cutC par k = some c) : CutOk par k c := by
  unfold cutC at h
  split at h
  · cases h
  · rename_i p hp
    have hk := (List.getElem?_eq_some_iff.1 hp).1
    split at h
    · injection h with h
      rw [← h]
      obtain ⟨a, b, c⟩ := exp_op p.2
      exact ⟨a, b, fun h => by have := c h; show (Hm.expC p.2).f.d.toNat = 0; rw [this]; rfl, by show k + 1 ≤ _; omega, .inl rfl, p, hp, rfl⟩
    · split at h
      · cases h
      · rename_i q hq
        have hk' := (List.getElem?_eq_some_iff.1 hq).1
        injection h with h
        rw [← h]
        obtain ⟨a, b, c⟩ := dec_op (q.2 * 65536 + p.2)
        exact ⟨a, b, fun h => by have := c h; show (Hm.decC (q.2 * 65536 + p.2)).f.d.toNat = 0; rw [this]; rfl, by show k + 2 ≤ _; omega, .inr rfl, p, hp, rfl⟩
theorem cut_some {par : List (Int × Int)} {k : Nat} (h : k + 2 ≤ par.length) : ∃ c, cutC par k = some c := by
  unfold cutC
  rw [List.getElem?_eq_getElem (by omega)]
  dsimp only
  split
  · exact ⟨_, rfl⟩
  · rw [List.getElem?_eq_getElem (by omega)]
    exact ⟨_, rfl⟩
/-- What a tick does: nothing, one, or a pair. -/
inductive Wks (M : Mc) : List Cm → Prop where
  | none : cutC M.par 0 = .none → Wks M []
  | one (c : Cm) : cutC M.par 0 = some c → Wks M [c]
  | two (c d : Cm) : cutC M.par 0 = some c → cutC M.par c.n = some d → M.fuse = true → pairC c d = true → Wks M [c, d]
theorem wks (M : Mc) : Wks M (worksC M) := by
  unfold worksC
  cases h : cutC M.par 0 with
  | none => exact .none h
  | some c =>
    dsimp only
    cases hf : M.fuse with
    | false => exact .one c h
    | true =>
      simp only [if_true]
      cases hd : cutC M.par c.n with
      | none => exact .one c h
      | some d =>
        dsimp only
        split
        · exact .two c d h hd hf (by assumption)
        · exact .one c h
theorem pair_ops {par : List (Int × Int)} {c d : Cm} {k : Nat} (hd : CutOk par k d) (h : pairC c d = true) : IsComp c.op ∧ IsComp d.op := by
  have h' : c.rd ≠ 0 ∧ d.rd = c.rd ∧ d.rs1 = c.rd ∧ d.op = secC c.op := of_decide_eq_true h
  obtain ⟨h1, h2, _, h4⟩ := h'
  unfold secC at h4
  unfold IsComp
  split at h4
  · omega
  · split at h4
    · omega
    · exact absurd (hd.none h4) (by omega)

/-! ### Bounds -/
theorem bits_u32 (a b : Int) (a0 : 0 ≤ a) (a1 : a < 4294967296) (b0 : 0 ≤ b) (b1 : b < 4294967296) : (0 ≤ bits .or .u32 a b ∧ bits .or .u32 a b < 4294967296) ∧ (0 ≤ bits .xor .u32 a b ∧ bits .xor .u32 a b < 4294967296) ∧ (0 ≤ bits .and .u32 a b ∧ bits .and .u32 a b < 4294967296) := by
  have h1 : a.toNat < 2 ^ 32 := by omega
  have h2 : b.toNat < 2 ^ 32 := by omega
  have e1 := Nat.or_lt_two_pow h1 h2
  have e2 := Nat.xor_lt_two_pow h1 h2
  have e3 := Nat.and_lt_two_pow a.toNat h2
  rw [u32_or a b a0 a1 b0 b1, u32_xor a b a0 a1 b0 b1, u32_and a b a0 a1 b0 b1]
  omega
theorem div_bd (a : Int) (k : Nat) (a0 : 0 ≤ a) (a1 : a < 4294967296) : 0 ≤ a / 2 ^ k ∧ a / 2 ^ k < 4294967296 := by
  have hp : (0 : Int) < 2 ^ k := Int.pow_pos (by decide)
  exact ⟨Int.ediv_nonneg a0 (by omega), Int.lt_of_le_of_lt (Int.ediv_le_self _ a0) a1⟩
theorem resC_bd (c : Cm) (a b : Int) (a0 : 0 ≤ a) (a1 : a < 4294967296) (b0 : 0 ≤ b) (b1 : b < 4294967296) : 0 ≤ resC c a b ∧ resC c a b < 4294967296 := by
  obtain ⟨o, x, n⟩ := bits_u32 a b a0 a1 b0 b1
  unfold resC
  split
  · omega
  split
  · omega
  split
  · unfold prodC
    repeat' split
    all_goals omega
  split
  · unfold quoC
    repeat' split
    all_goals first
      | omega
      | (rename_i hb _ _ _
         rw [Int.tmod_eq_emod_of_nonneg a0]
         have := Int.emod_nonneg a hb
         have := Int.emod_lt_of_pos a (show 0 < b by omega)
         omega)
  split
  · unfold shiftC
    have := div_bd a (b % 32).toNat a0 a1
    repeat' split
    all_goals omega
  · unfold combC
    repeat' split
    all_goals omega
theorem wrL_ok (l : List UInt8) : ∀ (mem : Int → Int) (a : Int), MemOk mem → MemOk (wrL mem a l) := by
  induction l with
  | nil => intro mem a h; exact h
  | cons b l ih =>
    intro mem a h
    rw [wrL]
    refine ih _ _ (fun x => ?_)
    try dsimp only
    split
    · have := b.toNat_lt; omega
    · exact h x
theorem num_bd {mem : Int → Int} (h : MemOk mem) (a : Int) : (0 ≤ numAt mem a 1 ∧ numAt mem a 1 < 256) ∧ (0 ≤ numAt mem a 2 ∧ numAt mem a 2 < 65536) ∧ (0 ≤ numAt mem a 4 ∧ numAt mem a 4 < 4294967296) := by
  have h0 := h ((a + (0 : Nat)) % 4294967296)
  have h1 := h ((a + (1 : Nat)) % 4294967296)
  have h2 := h ((a + (2 : Nat)) % 4294967296)
  have h3 := h ((a + (3 : Nat)) % 4294967296)
  simp only [numAt]
  generalize mem ((a + (0 : Nat)) % 4294967296) = x at *
  generalize mem ((a + (1 : Nat)) % 4294967296) = y at *
  generalize mem ((a + (2 : Nat)) % 4294967296) = z at *
  generalize mem ((a + (3 : Nat)) % 4294967296) = u at *
  have e0 : (2 : Int) ^ (8 * 0) = 1 := rfl
  have e1 : (2 : Int) ^ (8 * 1) = 256 := rfl
  have e2 : (2 : Int) ^ (8 * 2) = 65536 := rfl
  have e3 : (2 : Int) ^ (8 * 3) = 16777216 := rfl
  rw [e0, e1, e2, e3]; omega
theorem loadC_bd (op : Int) {mem : Int → Int} (h : MemOk mem) (a : Int) : 0 ≤ loadC op mem a ∧ loadC op mem a < 4294967296 := by
  obtain ⟨h1, h2, h4⟩ := num_bd h a
  unfold loadC
  repeat' split
  all_goals omega
theorem put_regs (M : Mc) (n : Nat) (x : Int) (h : RegsOk M) (x0 : 0 ≤ x) (x1 : x < 4294967296) : RegsOk (M.put n x) := by
  intro k
  unfold Mc.put
  split
  · exact h k
  · dsimp only
    split
    · exact ⟨x0, x1⟩
    · exact h k
theorem put_rest (M : Mc) (n : Nat) (x : Int) : (M.put n x).mem = M.mem ∧ (M.put n x).par = M.par ∧ (M.put n x).ahead = M.ahead ∧ (M.put n x).line = M.line ∧ (M.put n x).fuse = M.fuse ∧ (M.put n x).cause = M.cause ∧ (M.put n x).done = M.done ∧ (M.put n x).pc = M.pc := by
  unfold Mc.put; split <;> exact ⟨rfl, rfl, rfl, rfl, rfl, rfl, rfl, rfl⟩
theorem next_bd (c : Cm) : 0 ≤ c.next ∧ c.next < 4294967296 := by unfold Cm.next; omega
/-- What an instruction leaves as it is. -/
structure Rest (M N : Mc) : Prop where
  par : N.par = M.par
  ahead : N.ahead = M.ahead
  line : N.line = M.line
  fuse : N.fuse = M.fuse
  cause : N.cause = M.cause
theorem doK_rest (M : Mc) (c : Cm) : Rest M (M.doK c) ∧ (M.doK c).done = M.done := by
  unfold Mc.doK Mc.comp
  repeat' split
  all_goals first
    | exact ⟨⟨rfl, rfl, rfl, rfl, rfl⟩, rfl⟩
    | (obtain ⟨_, h2, h3, h4, h5, h6, h7, _⟩ := put_rest M c.rd c.next; exact ⟨⟨h2, h3, h4, h5, h6⟩, h7⟩)
    | (obtain ⟨_, h2, h3, h4, h5, h6, h7, _⟩ := put_rest M c.rd (loadC c.op M.mem (addrC M c)); exact ⟨⟨h2, h3, h4, h5, h6⟩, h7⟩)
    | (obtain ⟨_, h2, h3, h4, h5, h6, h7, _⟩ := put_rest M c.rd (resC c (M.regs c.rs1) (opdC M c)); exact ⟨⟨h2, h3, h4, h5, h6⟩, h7⟩)
theorem one_rest (M : Mc) (c : Cm) : Rest M (M.one c) ∧ (M.one c).done = wrap64 (M.done + 1) := by
  obtain ⟨h, hd⟩ := doK_rest M c
  exact ⟨⟨h.par, h.ahead, h.line, h.fuse, h.cause⟩, by unfold Mc.one; rw [hd]⟩
theorem doK_regs (M : Mc) (c : Cm) (h : RegsOk M) (hm : MemOk M.mem) : RegsOk (M.doK c) ∧ MemOk (M.doK c).mem := by
  have hb := opdC_u32 M c h
  have hr := resC_bd c (M.regs c.rs1) (opdC M c) (h _).1 (h _).2 hb.1 hb.2
  have hl := loadC_bd c.op hm (addrC M c)
  have hn := next_bd c
  unfold Mc.doK Mc.comp
  repeat' split
  all_goals first
    | exact ⟨put_regs M c.rd _ h hn.1 hn.2, by rw [(put_rest M c.rd _).1]; exact hm⟩
    | exact ⟨put_regs M c.rd _ h hl.1 hl.2, by rw [(put_rest M c.rd _).1]; exact hm⟩
    | exact ⟨put_regs M c.rd _ h hr.1 hr.2, by rw [(put_rest M c.rd _).1]; exact hm⟩
    | exact ⟨h, hm⟩
    | exact ⟨h, wrL_ok _ _ _ hm⟩
end Go.Proofs.YtdcmdjeooklmjaaDoor
