/-
  S0 B0 S8 in one text.
-/
import Derived.Test.YtdcmdjeooklmjaaDoorGA
set_option linter.unusedVariables false
set_option linter.unusedSimpArgs false
/-
  The plain functions that hartref's functions of short instructions come to. Nothing of the dump is imported.
-/
namespace Hm
structure ShortR where
  bits : List UInt8
  op : Int
  D : Int
  S : Int
  T : Int
  sign : Bool
  some' : Bool
  not' : Int
def shortL : List ShortR := [
  ⟨[48, 48, 48, 70, 69, 74, 73, 72, 71, 67, 68, 100, 100, 100, 48, 48], 19, -1, 2, 0, false, true, 0⟩,
  ⟨[48, 49, 48, 70, 69, 68, 115, 115, 115, 67, 71, 100, 100, 100, 48, 48], 13, -1, -2, 0, false, false, 0⟩,
  ⟨[49, 49, 48, 70, 69, 68, 115, 115, 115, 67, 71, 116, 116, 116, 48, 48], 18, 0, -2, -3, false, false, 0⟩,
  ⟨[48, 48, 48, 70, 100, 100, 100, 100, 100, 69, 68, 67, 66, 65, 48, 49], 19, -1, -1, 0, true, false, 0⟩,
  ⟨[48, 48, 49, 76, 69, 74, 73, 75, 71, 72, 68, 67, 66, 70, 48, 49], 3, 1, 0, 0, true, false, 0⟩,
  ⟨[48, 49, 48, 70, 100, 100, 100, 100, 100, 69, 68, 67, 66, 65, 48, 49], 19, -1, 0, 0, true, false, 0⟩,
  ⟨[48, 49, 49, 74, 48, 48, 48, 49, 48, 69, 71, 73, 72, 70, 48, 49], 19, 2, 2, 0, true, true, 0⟩,
  ⟨[48, 49, 49, 70, 100, 100, 100, 100, 100, 69, 68, 67, 66, 65, 48, 49], 1, -1, 0, 0, true, true, 4⟩,
  ⟨[49, 48, 48, 48, 48, 48, 100, 100, 100, 69, 68, 67, 66, 65, 48, 49], 26, -1, -1, 0, false, false, 0⟩,
  ⟨[49, 48, 48, 48, 48, 49, 100, 100, 100, 69, 68, 67, 66, 65, 48, 49], 27, -1, -1, 0, false, false, 0⟩,
  ⟨[49, 48, 48, 70, 49, 48, 100, 100, 100, 69, 68, 67, 66, 65, 48, 49], 24, -1, -1, 0, true, false, 0⟩,
  ⟨[49, 48, 48, 48, 49, 49, 100, 100, 100, 48, 48, 116, 116, 116, 48, 49], 29, -1, -1, -3, false, false, 0⟩,
  ⟨[49, 48, 48, 48, 49, 49, 100, 100, 100, 48, 49, 116, 116, 116, 48, 49], 33, -1, -1, -3, false, false, 0⟩,
  ⟨[49, 48, 48, 48, 49, 49, 100, 100, 100, 49, 48, 116, 116, 116, 48, 49], 36, -1, -1, -3, false, false, 0⟩,
  ⟨[49, 48, 48, 48, 49, 49, 100, 100, 100, 49, 49, 116, 116, 116, 48, 49], 37, -1, -1, -3, false, false, 0⟩,
  ⟨[49, 48, 49, 76, 69, 74, 73, 75, 71, 72, 68, 67, 66, 70, 48, 49], 3, 0, 0, 0, true, false, 0⟩,
  ⟨[49, 49, 48, 73, 69, 68, 115, 115, 115, 72, 71, 67, 66, 70, 48, 49], 5, 0, -2, 0, true, false, 0⟩,
  ⟨[49, 49, 49, 73, 69, 68, 115, 115, 115, 72, 71, 67, 66, 70, 48, 49], 6, 0, -2, 0, true, false, 0⟩,
  ⟨[48, 48, 48, 48, 100, 100, 100, 100, 100, 69, 68, 67, 66, 65, 49, 48], 25, -1, -1, 0, false, false, 0⟩,
  ⟨[48, 49, 48, 70, 100, 100, 100, 100, 100, 69, 68, 67, 72, 71, 49, 48], 13, -1, 2, 0, false, false, 1⟩,
  ⟨[49, 48, 48, 48, 115, 115, 115, 115, 115, 48, 48, 48, 48, 48, 49, 48], 4, 0, -2, 0, false, false, 2⟩,
  ⟨[49, 48, 48, 48, 100, 100, 100, 100, 100, 116, 116, 116, 116, 116, 49, 48], 28, -1, 0, -3, false, false, 3⟩,
  ⟨[49, 48, 48, 49, 48, 48, 48, 48, 48, 48, 48, 48, 48, 48, 49, 48], 48, 0, 0, 0, false, false, 0⟩,
  ⟨[49, 48, 48, 49, 115, 115, 115, 115, 115, 48, 48, 48, 48, 48, 49, 48], 4, 1, -2, 0, false, false, 2⟩,
  ⟨[49, 48, 48, 49, 100, 100, 100, 100, 100, 116, 116, 116, 116, 116, 49, 48], 28, -1, -1, -3, false, false, 3⟩,
  ⟨[49, 49, 48, 70, 69, 68, 67, 72, 71, 116, 116, 116, 116, 116, 49, 48], 18, 0, 2, -3, false, false, 0⟩]
def shortR (k : Nat) : ShortR := shortL.getD k ⟨[], 0, 0, 0, 0, false, false, 0⟩
def ShortR.str (r : ShortR) : ByteArray := ⟨r.bits.toArray⟩
theorem ShortR.str_list (r : ShortR) : r.str.data.toList = r.bits := rfl

def fieldS (code d s t : Int) : Int := if code = -1 then d else if code = -2 then s else if code = -3 then t else code
def eightS (l : List UInt8) (b n : Int) : Int := if cnt l b = 3 then n + 8 else n
/-- May the fields not be so, in a row? -/
def badS (r : ShortR) (f : Flds) : Bool := (r.some' && f.imm == 0) || (r.not' == 1 && f.d == 0) || (r.not' == 2 && f.r == 0) || (r.not' == 3 && f.t == 0) || (r.not' == 4 && f.d == 2)
def immS1 (r : ShortR) (imm : Int) : Int := if r.sign then sgn imm (hi r.bits).toNat else imm
def immS2 (r : ShortR) (imm : Int) : Int := if r.op = 1 ∧ immS1 r imm < 0 then immS1 r imm + 1048576 else immS1 r imm
/-- The instruction that a row makes of fields. -/
def makeS (r : ShortR) (f : Flds) : Flds :=
  ⟨fieldS r.D (eightS r.bits 100 f.d) (eightS r.bits 115 f.r) (eightS r.bits 116 f.t), fieldS r.S (eightS r.bits 100 f.d) (eightS r.bits 115 f.r) (eightS r.bits 116 f.t),
   fieldS r.T (eightS r.bits 100 f.d) (eightS r.bits 115 f.r) (eightS r.bits 116 f.t), immS2 r f.imm⟩
def instS (r : ShortR) (p : Int) : Option Flds :=
  match rd p r.bits ⟨0, 0, 0, 0⟩ with
  | none => none
  | some f => if badS r f then none else some (makeS r f)
/-- The first of n rows from k on. -/
def expFrom (p : Int) : Nat → Nat → Dec
  | 0, _ => ⟨0, ⟨0, 0, 0, 0⟩, 2⟩
  | n + 1, k => match instS (shortR k) p with
    | none => expFrom p n (k + 1)
    | some f => ⟨(shortR k).op, f, 0⟩
def expR (p : Int) : Dec := if p % 4 = 3 then ⟨0, ⟨0, 0, 0, 0⟩, 3⟩ else expFrom p 26 0
theorem expFrom_none {p : Int} {n k : Nat} (h : instS (shortR k) p = none) : expFrom p (n + 1) k = expFrom p n (k + 1) := by rw [expFrom, h]
theorem expFrom_some {p : Int} {n k : Nat} {f : Flds} (h : instS (shortR k) p = some f) : expFrom p (n + 1) k = ⟨(shortR k).op, f, 0⟩ := by rw [expFrom, h]

theorem fill_bd (d r t imm : Int) : ∀ (l : List UInt8) (w : Int), 0 ≤ w → 0 ≤ fill d r t imm l w ∧ fill d r t imm l w + 1 ≤ (w + 1) * pw l.length
  | [], w, h => by
    have e : pw 0 = 1 := rfl
    simp only [fill, List.length_nil, e, Int.mul_one]
    omega
  | c :: l, w, h => by
    have hb := fbit_01 d r t imm c l
    unfold fill
    have ih := fill_bd d r t imm l (2 * w + fbit d r t imm c l) (by omega)
    refine ⟨ih.1, Int.le_trans ih.2 ?_⟩
    have hp := pw_pos l.length
    have := Int.mul_le_mul_of_nonneg_right (show 2 * w + fbit d r t imm c l + 1 ≤ 2 * (w + 1) by omega) (by omega : 0 ≤ pw l.length)
    rw [List.length_cons, pw_succ, ← Int.mul_assoc, Int.mul_comm (w + 1) 2]
    exact this
/-- The parcel that a row makes of an instruction's fields. -/
def parS (k : Nat) (rd rs1 rs2 imm : Int) : Int := fill rd rs1 rs2 imm (shortR k).bits 0
def sameD (D : Dec) (op rd rs1 rs2 imm : Int) : Bool := D.op == op && D.f.d == rd && D.f.r == rs1 && D.f.t == rs2 && D.f.imm == imm
def okS (k : Nat) (op rd rs1 rs2 imm : Int) : Bool := (shortR k).op == op && (expR (parS k rd rs1 rs2 imm)).err == 0 && sameD (expR (parS k rd rs1 rs2 imm)) op rd rs1 rs2 imm
/-- The least so far, behind k rows. -/
def leastTo (op rd rs1 rs2 imm : Int) : Nat → Int
  | 0 => -1
  | k + 1 => if okS k op rd rs1 rs2 imm = true ∧ (leastTo op rd rs1 rs2 imm k < 0 ∨ parS k rd rs1 rs2 imm < leastTo op rd rs1 rs2 imm k) then parS k rd rs1 rs2 imm else leastTo op rd rs1 rs2 imm k
def compR (op rd rs1 rs2 imm : Int) : Int := if legalR op rd rs1 rs2 imm ∧ 0 ≤ leastTo op rd rs1 rs2 imm 26 then leastTo op rd rs1 rs2 imm 26 else 0
def compE (op rd rs1 rs2 imm : Int) : Int := if legalR op rd rs1 rs2 imm then (if 0 ≤ leastTo op rd rs1 rs2 imm 26 then 0 else 4) else 1
theorem short_len {k : Nat} (hk : k < 26) : (shortR k).bits.length = 16 := by
  have : ∀ j : Fin 26, (shortR j.val).bits.length = 16 := by decide +kernel
  exact this ⟨k, hk⟩
theorem par_bd {k : Nat} (hk : k < 26) (rd rs1 rs2 imm : Int) : 0 ≤ parS k rd rs1 rs2 imm ∧ parS k rd rs1 rs2 imm < 65536 := by
  have h := fill_bd rd rs1 rs2 imm (shortR k).bits 0 (by decide)
  have e : pw 16 = 65536 := by decide
  rw [short_len hk, e] at h
  unfold parS
  omega
theorem least_bd (op rd rs1 rs2 imm : Int) : ∀ {k : Nat}, k ≤ 26 → -1 ≤ leastTo op rd rs1 rs2 imm k ∧ leastTo op rd rs1 rs2 imm k < 65536
  | 0, _ => by simp [leastTo]
  | k + 1, hk => by
    have ih := least_bd op rd rs1 rs2 imm (k := k) (by omega)
    have hp := par_bd (k := k) (by omega) rd rs1 rs2 imm
    unfold leastTo
    split <;> omega
end Hm

/-
  The plain functions that package code's functions of short instructions come to. Nothing of the dump is imported.
-/
namespace Hm
structure RowC where
  mask : Int
  bits : Int
  op : Int
  rd : Int
  rs1 : Int
  rs2 : Int
  imm : Int
  not' : Int
def rowsC : List RowC := [
  ⟨57347, 0, 19, 6, 2, 0, 3, 1⟩,
  ⟨57347, 16384, 13, 6, 5, 0, 4, 0⟩,
  ⟨57347, 49152, 18, 0, 5, 6, 4, 0⟩,
  ⟨57347, 1, 19, 3, 3, 0, 2, 0⟩,
  ⟨57347, 8193, 3, 1, 0, 0, 9, 0⟩,
  ⟨57347, 16385, 19, 3, 0, 0, 2, 0⟩,
  ⟨61315, 24833, 19, 2, 2, 0, 7, 1⟩,
  ⟨57347, 24577, 1, 3, 0, 0, 2, 5⟩,
  ⟨64515, 32769, 26, 5, 5, 0, 1, 0⟩,
  ⟨64515, 33793, 27, 5, 5, 0, 1, 0⟩,
  ⟨60419, 34817, 24, 5, 5, 0, 2, 0⟩,
  ⟨64611, 35841, 29, 5, 5, 6, 0, 0⟩,
  ⟨64611, 35873, 33, 5, 5, 6, 0, 0⟩,
  ⟨64611, 35905, 36, 5, 5, 6, 0, 0⟩,
  ⟨64611, 35937, 37, 5, 5, 6, 0, 0⟩,
  ⟨57347, 40961, 3, 0, 0, 0, 9, 0⟩,
  ⟨57347, 49153, 5, 0, 5, 0, 8, 0⟩,
  ⟨57347, 57345, 6, 0, 5, 0, 8, 0⟩,
  ⟨61443, 2, 25, 3, 3, 0, 1, 0⟩,
  ⟨57347, 16386, 13, 3, 2, 0, 5, 2⟩,
  ⟨61567, 32770, 4, 0, 3, 0, 0, 8⟩,
  ⟨61443, 32770, 28, 3, 0, 4, 0, 16⟩,
  ⟨65535, 36866, 48, 0, 0, 0, 0, 0⟩,
  ⟨61567, 36866, 4, 1, 3, 0, 0, 8⟩,
  ⟨61443, 36866, 28, 3, 3, 4, 0, 16⟩,
  ⟨57347, 49154, 18, 0, 2, 4, 6, 0⟩]
def rowC (k : Nat) : RowC := rowsC.getD k ⟨0, 0, 0, 0, 0, 0, 0, 0⟩
/-- What the walks ask of a row's numbers. -/
structure RowOk (r : RowC) : Prop where
  mask : 0 ≤ r.mask ∧ r.mask < 65536
  bits : 0 ≤ r.bits ∧ r.bits < 65536
  op : 1 ≤ r.op ∧ r.op ≤ 48
  rd : 0 ≤ r.rd ∧ r.rd ≤ 6
  rs1 : 0 ≤ r.rs1 ∧ r.rs1 ≤ 6
  rs2 : 0 ≤ r.rs2 ∧ r.rs2 ≤ 6
  imm : 0 ≤ r.imm ∧ r.imm ≤ 9
  not' : 0 ≤ r.not' ∧ r.not' < 32
theorem row_ok {k : Nat} (hk : k < 26) : RowOk (rowC k) := by
  have h : ∀ j : Fin 26, (0 ≤ (rowC j).mask ∧ (rowC j).mask < 65536) ∧ (0 ≤ (rowC j).bits ∧ (rowC j).bits < 65536) ∧ (1 ≤ (rowC j).op ∧ (rowC j).op ≤ 48) ∧ (0 ≤ (rowC j).rd ∧ (rowC j).rd ≤ 6) ∧ (0 ≤ (rowC j).rs1 ∧ (rowC j).rs1 ≤ 6) ∧ (0 ≤ (rowC j).rs2 ∧ (rowC j).rs2 ≤ 6) ∧ (0 ≤ (rowC j).imm ∧ (rowC j).imm ≤ 9) ∧ (0 ≤ (rowC j).not' ∧ (rowC j).not' < 32) := by decide +kernel
  obtain ⟨h1, h2, h3, h4, h5, h6, h7, h8⟩ := h ⟨k, hk⟩
  exact ⟨h1, h2, h3, h4, h5, h6, h7, h8⟩

structure Fld where
  at' : Int
  count : Int
  plus : Int
def fld (p : Int) : Fld := if p = 1 then ⟨0, 0, 1⟩ else if p = 2 then ⟨0, 0, 2⟩ else if p = 3 then ⟨7, 5, 0⟩ else if p = 4 then ⟨2, 5, 0⟩ else if p = 5 then ⟨7, 3, 8⟩ else if p = 6 then ⟨2, 3, 8⟩ else ⟨0, 0, 0⟩
theorem fld_ok (p : Int) : (0 ≤ (fld p).at' ∧ (fld p).at' ≤ 7) ∧ (0 ≤ (fld p).count ∧ (fld p).count ≤ 5) ∧ (0 ≤ (fld p).plus ∧ (fld p).plus ≤ 8) := by
  unfold fld
  repeat' split
  all_goals decide
def takeP (p x : Int) : Int := x / pw (fld p).at'.toNat % pw (fld p).count.toNat + (fld p).plus
def putP (p n : Int) : Int := (n - (fld p).plus) % 65536 % pw (fld p).count.toNat * pw (fld p).at'.toNat % 65536
theorem takeP_bd (p x : Int) : 0 ≤ takeP p x ∧ takeP p x ≤ 40 := by
  obtain ⟨_, ⟨c0, c1⟩, p0, p1⟩ := fld_ok p
  have h1 := pw_pos (fld p).count.toNat
  have h2 : pw (fld p).count.toNat ≤ 32 := pw_mono _ 5 (by omega)
  have h3 := Int.emod_nonneg (x / pw (fld p).at'.toNat) (show pw (fld p).count.toNat ≠ 0 by omega)
  have h4 := Int.emod_lt_of_pos (x / pw (fld p).at'.toNat) (show 0 < pw (fld p).count.toNat by omega)
  unfold takeP
  omega
def U16 (a : Int) : Prop := 0 ≤ a ∧ a < 65536
theorem orI_u16 {a b : Int} (ha : U16 a) (hb : U16 b) : U16 (orI a b) := by
  have h1 : a.toNat < 2 ^ 16 := by have := ha.2; have := ha.1; omega
  have h2 : b.toNat < 2 ^ 16 := by have := hb.2; have := hb.1; omega
  have := Nat.or_lt_two_pow h1 h2
  unfold orI U16
  omega
theorem putP_u16 (p n : Int) : U16 (putP p n) := by unfold putP U16; omega

/-- A spread's pieces: from, count, at. -/
structure Spr where
  signed : Bool
  f : Nat → Int
  c : Nat → Int
  a : Nat → Int
def sprOf (s : Bool) (l : List (Int × Int × Int)) : Spr := ⟨s, fun k => (l.getD k (0, 0, 0)).1, fun k => (l.getD k (0, 0, 0)).2.1, fun k => (l.getD k (0, 0, 0)).2.2⟩
def spr0 : Spr := sprOf false []
def spr1 : Spr := sprOf false [(0, 5, 2)]
def spr2 : Spr := sprOf true [(5, 1, 12), (0, 5, 2)]
def spr3 : Spr := sprOf false [(4, 2, 11), (6, 4, 7), (2, 1, 6), (3, 1, 5)]
def spr4 : Spr := sprOf false [(3, 3, 10), (2, 1, 6), (6, 1, 5)]
def spr5 : Spr := sprOf false [(5, 1, 12), (2, 3, 4), (6, 2, 2)]
def spr6 : Spr := sprOf false [(2, 4, 9), (6, 2, 7)]
def spr7 : Spr := sprOf true [(9, 1, 12), (4, 1, 6), (6, 1, 5), (7, 2, 3), (5, 1, 2)]
def spr8 : Spr := sprOf true [(8, 1, 12), (3, 2, 10), (6, 2, 5), (1, 2, 3), (5, 1, 2)]
def spr9 : Spr := sprOf true [(11, 1, 12), (4, 1, 11), (8, 2, 9), (10, 1, 8), (6, 1, 7), (7, 1, 6), (1, 3, 3), (5, 1, 2)]
def spr (s : Int) : Spr := if s = 1 then spr1 else if s = 2 then spr2 else if s = 3 then spr3 else if s = 4 then spr4 else if s = 5 then spr5 else if s = 6 then spr6 else if s = 7 then spr7 else if s = 8 then spr8 else if s = 9 then spr9 else spr0
structure SprOk (S : Spr) : Prop where
  f : ∀ k, k < 8 → 0 ≤ S.f k ∧ S.f k ≤ 31
  c : ∀ k, k < 8 → 0 ≤ S.c k ∧ S.c k ≤ 31
  a : ∀ k, k < 8 → 0 ≤ S.a k ∧ S.a k ≤ 31
theorem spr_ok (s : Int) : SprOk (spr s) := by
  have key : ∀ S : Spr, (∀ k : Fin 8, (0 ≤ S.f k ∧ S.f k ≤ 31) ∧ (0 ≤ S.c k ∧ S.c k ≤ 31) ∧ (0 ≤ S.a k ∧ S.a k ≤ 31)) → SprOk S := fun S h =>
    ⟨fun k hk => (h ⟨k, hk⟩).1, fun k hk => (h ⟨k, hk⟩).2.1, fun k hk => (h ⟨k, hk⟩).2.2⟩
  unfold spr
  repeat' split
  all_goals (apply key; decide)
/-- The bits that are taken together, behind so many pieces. -/
def gatA (S : Spr) (x : Int) : Nat → Int
  | 0 => 0
  | k + 1 => orI (gatA S x k) (putC (S.a k) (S.c k) (S.f k) x)
def sputA (S : Spr) (x : Int) : Nat → Int
  | 0 => 0
  | k + 1 => orI (sputA S x k) (putC (S.f k) (S.c k) (S.a k) x)
theorem gatA_u32 (S : Spr) (x : Int) : ∀ k, U32 (gatA S x k)
  | 0 => show U32 0 from ⟨by decide, by decide⟩
  | k + 1 => orI_u32 (gatA_u32 S x k) (putC_u32 _ _ _ _)
theorem sputA_u32 (S : Spr) (x : Int) : ∀ k, U32 (sputA S x k)
  | 0 => show U32 0 from ⟨by decide, by decide⟩
  | k + 1 => orI_u32 (sputA_u32 S x k) (putC_u32 _ _ _ _)
/-- How many bits Imm has in a spread with a sign. -/
def wid (s : Int) : Nat := if s = 2 then 6 else if s = 7 then 10 else if s = 8 then 9 else 12
def stakeC (s x : Int) : Int := if (spr s).signed then (if gatA (spr s) x 8 * pw (32 - wid s) % 4294967296 < 2147483648 then gatA (spr s) x 8 * pw (32 - wid s) % 4294967296 else gatA (spr s) x 8 * pw (32 - wid s) % 4294967296 - 4294967296) / pw (32 - wid s) else gatA (spr s) x 8
def sputC (s n : Int) : Int := sputA (spr s) (n % 4294967296) 8 % 65536
theorem sputC_u16 (s n : Int) : U16 (sputC s n) := by unfold sputC U16; omega
def wrapC (least most n : Int) : Int := if n < least then n + most + 1 else n
theorem stakeC_bd (s x : Int) : -4294967296 ≤ stakeC s x ∧ stakeC s x < 4294967296 := by
  have hg := gatA_u32 (spr s) x 8
  have hp := pw_pos (32 - wid s)
  unfold stakeC
  split
  · generalize hv : (if gatA (spr s) x 8 * pw (32 - wid s) % 4294967296 < 2147483648 then gatA (spr s) x 8 * pw (32 - wid s) % 4294967296 else gatA (spr s) x 8 * pw (32 - wid s) % 4294967296 - 4294967296) = v
    have hv0 : -4294967296 ≤ v ∧ v < 4294967296 := by rw [← hv]; split <;> omega
    constructor
    · have := Int.ediv_le_ediv (c := pw (32 - wid s)) (by omega) hv0.1
      have h2 : -4294967296 ≤ -4294967296 / pw (32 - wid s) := by
        rw [Int.le_ediv_iff_mul_le (by omega)]
        have := Int.mul_le_mul_of_nonneg_left (show 1 ≤ pw (32 - wid s) by omega) (show (0 : Int) ≤ 4294967296 by decide)
        omega
      omega
    · by_cases h : 0 ≤ v
      · have := Int.ediv_le_self (pw (32 - wid s)) h; omega
      · have := Int.ediv_neg_of_neg_of_pos (show v < 0 by omega) (show 0 < pw (32 - wid s) by omega); omega
  · unfold U32 at hg; omega
/-- May the fields not be so? -/
def hasN (b one : Int) : Bool := andI b one != 0
def hitsC (b : Int) (f : Flds) : Bool := (hasN b 1 && f.imm == 0) || (hasN b 2 && f.d == 0) || (hasN b 4 && f.d == 2) || (hasN b 8 && f.r == 0) || (hasN b 16 && f.t == 0)
def fldS (r : RowC) (x : Int) : Flds := ⟨takeP r.rd x, takeP r.rs1 x, takeP r.rs2 x, wrapC (lay (fmtOf r.op)).least (lay (fmtOf r.op)).most (stakeC r.imm x)⟩
def matchS (r : RowC) (x : Int) : Bool := andI x r.mask == r.bits
/-- A row's fields and whether it is one of the row. -/
def readF (r : RowC) (x : Int) : Flds := if matchS r x then fldS r x else ⟨0, 0, 0, 0⟩
def readO (r : RowC) (x : Int) : Int := if matchS r x then r.op else 0
def readK (r : RowC) (x : Int) : Bool := matchS r x && !(hitsC r.not' (fldS r x))
def expCFrom (x : Int) : Nat → Nat → Dec
  | 0, _ => ⟨0, ⟨0, 0, 0, 0⟩, 2⟩
  | n + 1, k => if readK (rowC k) x then ⟨(rowC k).op, fldS (rowC k) x, 0⟩ else expCFrom x n (k + 1)
def expC (x : Int) : Dec := if x % 4 = 3 then ⟨0, ⟨0, 0, 0, 0⟩, 3⟩ else expCFrom x 26 0
theorem expCFrom_no {x : Int} {n k : Nat} (h : readK (rowC k) x = false) : expCFrom x (n + 1) k = expCFrom x n (k + 1) := by
  rw [expCFrom, h]; rfl
theorem expCFrom_yes {x : Int} {n k : Nat} (h : readK (rowC k) x = true) : expCFrom x (n + 1) k = ⟨(rowC k).op, fldS (rowC k) x, 0⟩ := by
  rw [expCFrom, h]; rfl
/-- The parcel that a row writes. -/
def parC (r : RowC) (d s t i : Int) : Int := orI (orI (orI (orI r.bits (putP r.rd d)) (putP r.rs1 s)) (putP r.rs2 t)) (sputC r.imm i)
theorem parC_u16 {r : RowC} (h : RowOk r) (d s t i : Int) : U16 (parC r d s t i) :=
  orI_u16 (orI_u16 (orI_u16 (orI_u16 h.bits (putP_u16 _ _)) (putP_u16 _ _)) (putP_u16 _ _)) (sputC_u16 _ _)
def sameF (r : RowC) (x op d s t i : Int) : Bool := readO r x == op && (readF r x).d == d && (readF r x).r == s && (readF r x).t == t && (readF r x).imm == i
def okC (r : RowC) (op d s t i : Int) : Bool := op == r.op && (readK r (parC r d s t i) && sameF r (parC r d s t i) op d s t i)
/-- What write tells. -/
def wrP (r : RowC) (op d s t i : Int) : Int := if op = r.op then parC r d s t i else 0
/-- The least so far, and whether there is one, behind so many rows. -/
def lstC (op d s t i : Int) : Nat → Int × Int
  | 0 => (0, 4)
  | k + 1 => if okC (rowC k) op d s t i = true ∧ ((lstC op d s t i k).2 ≠ 0 ∨ parC (rowC k) d s t i < (lstC op d s t i k).1) then (parC (rowC k) d s t i, 0) else lstC op d s t i k
def compC (op d s t i : Int) : Int := if legalC op d s t i then (lstC op d s t i 26).1 else 0
def compCE (op d s t i : Int) : Int := if legalC op d s t i then (lstC op d s t i 26).2 else 1
end Hm

/-
  Mathematics of short instructions (made by gen_S8.py): what a row makes of a parcel is legal, and the row makes the parcel of it again. Nothing of the dump is imported.
-/
namespace Hm
theorem sum16 (p : Int) (h0 : 0 ≤ p) (h1 : p < 65536) : p = bt p 0 + 2 * bt p 1 + 4 * bt p 2 + 8 * bt p 3 + 16 * bt p 4 + 32 * bt p 5 + 64 * bt p 6 + 128 * bt p 7 + 256 * bt p 8 + 512 * bt p 9 + 1024 * bt p 10 + 2048 * bt p 11 + 4096 * bt p 12 + 8192 * bt p 13 + 16384 * bt p 14 + 32768 * bt p 15 := by
  have e : p % 4294967296 = p := by omega
  simp only [bt, e, pw, Int.reducePow]
  omega
theorem bt_bd (n : Int) (i : Nat) : 0 ≤ bt n i ∧ bt n i ≤ 1 := by have := bt_01 n i; omega
theorem sgn_lin (n : Int) (top : Nat) : sgn n top = n - 2 * pw top * bt n top := by
  rcases bt_01 n top with e | e
  · rw [sgn_0 e, e]; omega
  · rw [sgn_1 e, e]; omega
theorem bt_flr (n : Int) (j : Nat) (hj : j < 32) : bt n j = n / pw j % 2 := by
  unfold bt
  have e : (4294967296 : Int) = pw j * (2 * pw (31 - j)) := by
    unfold pw
    rw [show (2 : Int) * 2 ^ (31 - j) = 2 ^ (31 - j + 1) by rw [Int.pow_succ]; omega, ← Int.pow_add, show j + (31 - j + 1) = 32 by omega]
    rfl
  have hp := pw_pos j
  have h1 : n % 4294967296 = n - pw j * (2 * pw (31 - j)) * (n / 4294967296) := by rw [← e]; omega
  rw [h1, show n - pw j * (2 * pw (31 - j)) * (n / 4294967296) = n + pw j * (-(2 * pw (31 - j) * (n / 4294967296))) by rw [Int.mul_neg, Int.mul_assoc]; omega,
    Int.add_mul_ediv_left _ _ (by omega : pw j ≠ 0), Int.mul_assoc]
  generalize pw (31 - j) * (n / 4294967296) = q
  omega
theorem bt_at {n A c C P : Int} (j : Nat) (hj : j < 32) (hP : pw j = P) (e : n = A + P * c + 2 * P * C) (h0 : 0 ≤ A) (h1 : A < P) (c0 : 0 ≤ c ∧ c ≤ 1) : bt n j = c := by
  rw [bt_flr n j hj, hP, show n = A + P * (c + 2 * C) by rw [e, Int.mul_add, ← Int.mul_assoc, Int.mul_comm P 2]; omega, Int.add_mul_ediv_left _ _ (by omega : P ≠ 0), Int.ediv_eq_zero_of_lt h0 h1]
  omega
/-- The fields by bits as they stand. -/
def rdB (b : Nat → Int) : List UInt8 → Flds → Option Flds
  | [], f => some f
  | c :: l, f => if miss c (b l.length) then none else rdB b l (rstep f c (b l.length))
theorem rd_rdB (p : Int) : ∀ (l : List UInt8) (f : Flds), rd p l f = rdB (bt p) l f
  | [], f => rfl
  | c :: l, f => by unfold rd rdB; rw [rd_rdB p l]
/-- A row's way back. -/
def BackS (k : Nat) (p : Int) (f : Flds) : Prop := parS k f.d f.r f.t f.imm = p ∧ legalR (shortR k).op f.d f.r f.t f.imm = true
theorem back_0 (p : Int) (f : Flds) (h0 : 0 ≤ p) (h1 : p < 65536) (h : instS (shortR 0) p = some f) : BackS 0 p f := by
  have hs := sum16 p h0 h1
  have hb := bt_bd p
  unfold instS at h
  rw [rd_rdB] at h
  generalize bt p = b at h hs hb
  simp [shortR, shortL, rdB, miss, rstep, badS, makeS, fieldS, eightS, cnt, immS2, immS1, hi, hiTo, hasB] at h
  split at h
  · cases h
  rename_i g hg
  simp only [Option.ite_none_right_eq_some, Option.some.injEq] at hg
  obtain ⟨c0, c1, c2, c3, c4, hg⟩ := hg
  have gd : g.d = 1 * b 2 + 2 * b 3 + 4 * b 4 := by subst hg; simp [pw] <;> omega
  have gr : g.r = 0 := by subst hg; simp [pw] <;> omega
  have gt : g.t = 0 := by subst hg; simp [pw] <;> omega
  have gimm : g.imm = 4 * b 6 + 8 * b 5 + 16 * b 11 + 32 * b 12 + 64 * b 7 + 128 * b 8 + 256 * b 9 + 512 * b 10 := by subst hg; simp [pw] <;> omega
  clear hg
  have B2 := hb 2
  have B3 := hb 3
  have B4 := hb 4
  have B5 := hb 5
  have B6 := hb 6
  have B7 := hb 7
  have B8 := hb 8
  have B9 := hb 9
  have B10 := hb 10
  have B11 := hb 11
  have B12 := hb 12
  clear hb
  repeat' split at h
  all_goals first | (cases h; done) | skip
  all_goals
    have h := Option.some.inj h
    have hd := congrArg Flds.d h
    have hr := congrArg Flds.r h
    have ht := congrArg Flds.t h
    have hm := congrArg Flds.imm h
    clear h
    dsimp only at hd hr ht hm
    have ed0 : bt f.d 0 = b 2 := bt_at (A := 0) (C := 1 * b 3 + 2 * b 4 + 4) 0 (by decide) (by decide : pw 0 = 1) (by omega) (by omega) (by omega) B2
    have ed1 : bt f.d 1 = b 3 := bt_at (A := 1 * b 2) (C := 1 * b 4 + 2) 1 (by decide) (by decide : pw 1 = 2) (by omega) (by omega) (by omega) B3
    have ed2 : bt f.d 2 = b 4 := bt_at (A := 1 * b 2 + 2 * b 3) (C := 1) 2 (by decide) (by decide : pw 2 = 4) (by omega) (by omega) (by omega) B4
    have eimm2 : bt f.imm 2 = b 6 := bt_at (A := 0) (C := 1 * b 5 + 2 * b 11 + 4 * b 12 + 8 * b 7 + 16 * b 8 + 32 * b 9 + 64 * b 10) 2 (by decide) (by decide : pw 2 = 4) (by omega) (by omega) (by omega) B6
    have eimm3 : bt f.imm 3 = b 5 := bt_at (A := 4 * b 6) (C := 1 * b 11 + 2 * b 12 + 4 * b 7 + 8 * b 8 + 16 * b 9 + 32 * b 10) 3 (by decide) (by decide : pw 3 = 8) (by omega) (by omega) (by omega) B5
    have eimm4 : bt f.imm 4 = b 11 := bt_at (A := 4 * b 6 + 8 * b 5) (C := 1 * b 12 + 2 * b 7 + 4 * b 8 + 8 * b 9 + 16 * b 10) 4 (by decide) (by decide : pw 4 = 16) (by omega) (by omega) (by omega) B11
    have eimm5 : bt f.imm 5 = b 12 := bt_at (A := 4 * b 6 + 8 * b 5 + 16 * b 11) (C := 1 * b 7 + 2 * b 8 + 4 * b 9 + 8 * b 10) 5 (by decide) (by decide : pw 5 = 32) (by omega) (by omega) (by omega) B12
    have eimm6 : bt f.imm 6 = b 7 := bt_at (A := 4 * b 6 + 8 * b 5 + 16 * b 11 + 32 * b 12) (C := 1 * b 8 + 2 * b 9 + 4 * b 10) 6 (by decide) (by decide : pw 6 = 64) (by omega) (by omega) (by omega) B7
    have eimm7 : bt f.imm 7 = b 8 := bt_at (A := 4 * b 6 + 8 * b 5 + 16 * b 11 + 32 * b 12 + 64 * b 7) (C := 1 * b 9 + 2 * b 10) 7 (by decide) (by decide : pw 7 = 128) (by omega) (by omega) (by omega) B8
    have eimm8 : bt f.imm 8 = b 9 := bt_at (A := 4 * b 6 + 8 * b 5 + 16 * b 11 + 32 * b 12 + 64 * b 7 + 128 * b 8) (C := 1 * b 10) 8 (by decide) (by decide : pw 8 = 256) (by omega) (by omega) (by omega) B9
    have eimm9 : bt f.imm 9 = b 10 := bt_at (A := 4 * b 6 + 8 * b 5 + 16 * b 11 + 32 * b 12 + 64 * b 7 + 128 * b 8 + 256 * b 9) (C := 0) 9 (by decide) (by decide : pw 9 = 512) (by omega) (by omega) (by omega) B10
    constructor
    · simp [parS, shortR, shortL, fill, fbit, cnt, ed0, ed1, ed2, eimm2, eimm3, eimm4, eimm5, eimm6, eimm7, eimm8, eimm9] <;> omega
    · show legalR 19 _ _ _ _ = true
      simp [legalR, bitsL, tabL, regB, kind, kindC, fitsB, hi, hiTo, hasB] <;> omega
theorem back_1 (p : Int) (f : Flds) (h0 : 0 ≤ p) (h1 : p < 65536) (h : instS (shortR 1) p = some f) : BackS 1 p f := by
  have hs := sum16 p h0 h1
  have hb := bt_bd p
  unfold instS at h
  rw [rd_rdB] at h
  generalize bt p = b at h hs hb
  simp [shortR, shortL, rdB, miss, rstep, badS, makeS, fieldS, eightS, cnt, immS2, immS1, hi, hiTo, hasB] at h
  split at h
  · cases h
  rename_i g hg
  simp only [Option.ite_none_right_eq_some, Option.some.injEq] at hg
  obtain ⟨c0, c1, c2, c3, c4, hg⟩ := hg
  have gd : g.d = 1 * b 2 + 2 * b 3 + 4 * b 4 := by subst hg; simp [pw] <;> omega
  have gr : g.r = 1 * b 7 + 2 * b 8 + 4 * b 9 := by subst hg; simp [pw] <;> omega
  have gt : g.t = 0 := by subst hg; simp [pw] <;> omega
  have gimm : g.imm = 4 * b 6 + 8 * b 10 + 16 * b 11 + 32 * b 12 + 64 * b 5 := by subst hg; simp [pw] <;> omega
  clear hg
  have B2 := hb 2
  have B3 := hb 3
  have B4 := hb 4
  have B5 := hb 5
  have B6 := hb 6
  have B7 := hb 7
  have B8 := hb 8
  have B9 := hb 9
  have B10 := hb 10
  have B11 := hb 11
  have B12 := hb 12
  clear hb
  repeat' split at h
  all_goals first | (cases h; done) | skip
  all_goals
    have h := Option.some.inj h
    have hd := congrArg Flds.d h
    have hr := congrArg Flds.r h
    have ht := congrArg Flds.t h
    have hm := congrArg Flds.imm h
    clear h
    dsimp only at hd hr ht hm
    have ed0 : bt f.d 0 = b 2 := bt_at (A := 0) (C := 1 * b 3 + 2 * b 4 + 4) 0 (by decide) (by decide : pw 0 = 1) (by omega) (by omega) (by omega) B2
    have ed1 : bt f.d 1 = b 3 := bt_at (A := 1 * b 2) (C := 1 * b 4 + 2) 1 (by decide) (by decide : pw 1 = 2) (by omega) (by omega) (by omega) B3
    have ed2 : bt f.d 2 = b 4 := bt_at (A := 1 * b 2 + 2 * b 3) (C := 1) 2 (by decide) (by decide : pw 2 = 4) (by omega) (by omega) (by omega) B4
    have er0 : bt f.r 0 = b 7 := bt_at (A := 0) (C := 1 * b 8 + 2 * b 9 + 4) 0 (by decide) (by decide : pw 0 = 1) (by omega) (by omega) (by omega) B7
    have er1 : bt f.r 1 = b 8 := bt_at (A := 1 * b 7) (C := 1 * b 9 + 2) 1 (by decide) (by decide : pw 1 = 2) (by omega) (by omega) (by omega) B8
    have er2 : bt f.r 2 = b 9 := bt_at (A := 1 * b 7 + 2 * b 8) (C := 1) 2 (by decide) (by decide : pw 2 = 4) (by omega) (by omega) (by omega) B9
    have eimm2 : bt f.imm 2 = b 6 := bt_at (A := 0) (C := 1 * b 10 + 2 * b 11 + 4 * b 12 + 8 * b 5) 2 (by decide) (by decide : pw 2 = 4) (by omega) (by omega) (by omega) B6
    have eimm3 : bt f.imm 3 = b 10 := bt_at (A := 4 * b 6) (C := 1 * b 11 + 2 * b 12 + 4 * b 5) 3 (by decide) (by decide : pw 3 = 8) (by omega) (by omega) (by omega) B10
    have eimm4 : bt f.imm 4 = b 11 := bt_at (A := 4 * b 6 + 8 * b 10) (C := 1 * b 12 + 2 * b 5) 4 (by decide) (by decide : pw 4 = 16) (by omega) (by omega) (by omega) B11
    have eimm5 : bt f.imm 5 = b 12 := bt_at (A := 4 * b 6 + 8 * b 10 + 16 * b 11) (C := 1 * b 5) 5 (by decide) (by decide : pw 5 = 32) (by omega) (by omega) (by omega) B12
    have eimm6 : bt f.imm 6 = b 5 := bt_at (A := 4 * b 6 + 8 * b 10 + 16 * b 11 + 32 * b 12) (C := 0) 6 (by decide) (by decide : pw 6 = 64) (by omega) (by omega) (by omega) B5
    constructor
    · simp [parS, shortR, shortL, fill, fbit, cnt, ed0, ed1, ed2, er0, er1, er2, eimm2, eimm3, eimm4, eimm5, eimm6] <;> omega
    · show legalR 13 _ _ _ _ = true
      simp [legalR, bitsL, tabL, regB, kind, kindC, fitsB, hi, hiTo, hasB] <;> omega
theorem back_2 (p : Int) (f : Flds) (h0 : 0 ≤ p) (h1 : p < 65536) (h : instS (shortR 2) p = some f) : BackS 2 p f := by
  have hs := sum16 p h0 h1
  have hb := bt_bd p
  unfold instS at h
  rw [rd_rdB] at h
  generalize bt p = b at h hs hb
  simp [shortR, shortL, rdB, miss, rstep, badS, makeS, fieldS, eightS, cnt, immS2, immS1, hi, hiTo, hasB] at h
  split at h
  · cases h
  rename_i g hg
  simp only [Option.ite_none_right_eq_some, Option.some.injEq] at hg
  obtain ⟨c0, c1, c2, c3, c4, hg⟩ := hg
  have gd : g.d = 0 := by subst hg; simp [pw] <;> omega
  have gr : g.r = 1 * b 7 + 2 * b 8 + 4 * b 9 := by subst hg; simp [pw] <;> omega
  have gt : g.t = 1 * b 2 + 2 * b 3 + 4 * b 4 := by subst hg; simp [pw] <;> omega
  have gimm : g.imm = 4 * b 6 + 8 * b 10 + 16 * b 11 + 32 * b 12 + 64 * b 5 := by subst hg; simp [pw] <;> omega
  clear hg
  have B2 := hb 2
  have B3 := hb 3
  have B4 := hb 4
  have B5 := hb 5
  have B6 := hb 6
  have B7 := hb 7
  have B8 := hb 8
  have B9 := hb 9
  have B10 := hb 10
  have B11 := hb 11
  have B12 := hb 12
  clear hb
  repeat' split at h
  all_goals first | (cases h; done) | skip
  all_goals
    have h := Option.some.inj h
    have hd := congrArg Flds.d h
    have hr := congrArg Flds.r h
    have ht := congrArg Flds.t h
    have hm := congrArg Flds.imm h
    clear h
    dsimp only at hd hr ht hm
    have er0 : bt f.r 0 = b 7 := bt_at (A := 0) (C := 1 * b 8 + 2 * b 9 + 4) 0 (by decide) (by decide : pw 0 = 1) (by omega) (by omega) (by omega) B7
    have er1 : bt f.r 1 = b 8 := bt_at (A := 1 * b 7) (C := 1 * b 9 + 2) 1 (by decide) (by decide : pw 1 = 2) (by omega) (by omega) (by omega) B8
    have er2 : bt f.r 2 = b 9 := bt_at (A := 1 * b 7 + 2 * b 8) (C := 1) 2 (by decide) (by decide : pw 2 = 4) (by omega) (by omega) (by omega) B9
    have et0 : bt f.t 0 = b 2 := bt_at (A := 0) (C := 1 * b 3 + 2 * b 4 + 4) 0 (by decide) (by decide : pw 0 = 1) (by omega) (by omega) (by omega) B2
    have et1 : bt f.t 1 = b 3 := bt_at (A := 1 * b 2) (C := 1 * b 4 + 2) 1 (by decide) (by decide : pw 1 = 2) (by omega) (by omega) (by omega) B3
    have et2 : bt f.t 2 = b 4 := bt_at (A := 1 * b 2 + 2 * b 3) (C := 1) 2 (by decide) (by decide : pw 2 = 4) (by omega) (by omega) (by omega) B4
    have eimm2 : bt f.imm 2 = b 6 := bt_at (A := 0) (C := 1 * b 10 + 2 * b 11 + 4 * b 12 + 8 * b 5) 2 (by decide) (by decide : pw 2 = 4) (by omega) (by omega) (by omega) B6
    have eimm3 : bt f.imm 3 = b 10 := bt_at (A := 4 * b 6) (C := 1 * b 11 + 2 * b 12 + 4 * b 5) 3 (by decide) (by decide : pw 3 = 8) (by omega) (by omega) (by omega) B10
    have eimm4 : bt f.imm 4 = b 11 := bt_at (A := 4 * b 6 + 8 * b 10) (C := 1 * b 12 + 2 * b 5) 4 (by decide) (by decide : pw 4 = 16) (by omega) (by omega) (by omega) B11
    have eimm5 : bt f.imm 5 = b 12 := bt_at (A := 4 * b 6 + 8 * b 10 + 16 * b 11) (C := 1 * b 5) 5 (by decide) (by decide : pw 5 = 32) (by omega) (by omega) (by omega) B12
    have eimm6 : bt f.imm 6 = b 5 := bt_at (A := 4 * b 6 + 8 * b 10 + 16 * b 11 + 32 * b 12) (C := 0) 6 (by decide) (by decide : pw 6 = 64) (by omega) (by omega) (by omega) B5
    constructor
    · simp [parS, shortR, shortL, fill, fbit, cnt, er0, er1, er2, et0, et1, et2, eimm2, eimm3, eimm4, eimm5, eimm6] <;> omega
    · show legalR 18 _ _ _ _ = true
      simp [legalR, bitsL, tabL, regB, kind, kindC, fitsB, hi, hiTo, hasB] <;> omega
theorem back_3 (p : Int) (f : Flds) (h0 : 0 ≤ p) (h1 : p < 65536) (h : instS (shortR 3) p = some f) : BackS 3 p f := by
  have hs := sum16 p h0 h1
  have hb := bt_bd p
  unfold instS at h
  rw [rd_rdB] at h
  generalize bt p = b at h hs hb
  simp [shortR, shortL, rdB, miss, rstep, badS, makeS, fieldS, eightS, cnt, immS2, immS1, hi, hiTo, hasB] at h
  split at h
  · cases h
  rename_i g hg
  simp only [Option.ite_none_right_eq_some, Option.some.injEq] at hg
  obtain ⟨c0, c1, c2, c3, c4, hg⟩ := hg
  have gd : g.d = 1 * b 7 + 2 * b 8 + 4 * b 9 + 8 * b 10 + 16 * b 11 := by subst hg; simp [pw] <;> omega
  have gr : g.r = 0 := by subst hg; simp [pw] <;> omega
  have gt : g.t = 0 := by subst hg; simp [pw] <;> omega
  have gimm : g.imm = 1 * b 2 + 2 * b 3 + 4 * b 4 + 8 * b 5 + 16 * b 6 + 32 * b 12 := by subst hg; simp [pw] <;> omega
  clear hg
  have B2 := hb 2
  have B3 := hb 3
  have B4 := hb 4
  have B5 := hb 5
  have B6 := hb 6
  have B7 := hb 7
  have B8 := hb 8
  have B9 := hb 9
  have B10 := hb 10
  have B11 := hb 11
  have B12 := hb 12
  clear hb
  have it : bt g.imm 5 = b 12 := by exact bt_at (A := 1 * b 2 + 2 * b 3 + 4 * b 4 + 8 * b 5 + 16 * b 6) (C := 0) 5 (by decide) (by decide : pw 5 = 32) (by omega) (by omega) (by omega) B12
  have hsg : sgn g.imm 5 = g.imm - 64 * b 12 := by rw [sgn_lin, it]; simp [pw]
  repeat' split at h
  all_goals first | (cases h; done) | skip
  all_goals
    have h := Option.some.inj h
    have hd := congrArg Flds.d h
    have hr := congrArg Flds.r h
    have ht := congrArg Flds.t h
    have hm := congrArg Flds.imm h
    clear h
    dsimp only at hd hr ht hm
    have ed0 : bt f.d 0 = b 7 := bt_at (A := 0) (C := 1 * b 8 + 2 * b 9 + 4 * b 10 + 8 * b 11) 0 (by decide) (by decide : pw 0 = 1) (by omega) (by omega) (by omega) B7
    have ed1 : bt f.d 1 = b 8 := bt_at (A := 1 * b 7) (C := 1 * b 9 + 2 * b 10 + 4 * b 11) 1 (by decide) (by decide : pw 1 = 2) (by omega) (by omega) (by omega) B8
    have ed2 : bt f.d 2 = b 9 := bt_at (A := 1 * b 7 + 2 * b 8) (C := 1 * b 10 + 2 * b 11) 2 (by decide) (by decide : pw 2 = 4) (by omega) (by omega) (by omega) B9
    have ed3 : bt f.d 3 = b 10 := bt_at (A := 1 * b 7 + 2 * b 8 + 4 * b 9) (C := 1 * b 11) 3 (by decide) (by decide : pw 3 = 8) (by omega) (by omega) (by omega) B10
    have ed4 : bt f.d 4 = b 11 := bt_at (A := 1 * b 7 + 2 * b 8 + 4 * b 9 + 8 * b 10) (C := 0) 4 (by decide) (by decide : pw 4 = 16) (by omega) (by omega) (by omega) B11
    have eimm0 : bt f.imm 0 = b 2 := bt_at (A := 0) (C := 1 * b 3 + 2 * b 4 + 4 * b 5 + 8 * b 6 + 16 * b 12 + -32 * b 12) 0 (by decide) (by decide : pw 0 = 1) (by omega) (by omega) (by omega) B2
    have eimm1 : bt f.imm 1 = b 3 := bt_at (A := 1 * b 2) (C := 1 * b 4 + 2 * b 5 + 4 * b 6 + 8 * b 12 + -16 * b 12) 1 (by decide) (by decide : pw 1 = 2) (by omega) (by omega) (by omega) B3
    have eimm2 : bt f.imm 2 = b 4 := bt_at (A := 1 * b 2 + 2 * b 3) (C := 1 * b 5 + 2 * b 6 + 4 * b 12 + -8 * b 12) 2 (by decide) (by decide : pw 2 = 4) (by omega) (by omega) (by omega) B4
    have eimm3 : bt f.imm 3 = b 5 := bt_at (A := 1 * b 2 + 2 * b 3 + 4 * b 4) (C := 1 * b 6 + 2 * b 12 + -4 * b 12) 3 (by decide) (by decide : pw 3 = 8) (by omega) (by omega) (by omega) B5
    have eimm4 : bt f.imm 4 = b 6 := bt_at (A := 1 * b 2 + 2 * b 3 + 4 * b 4 + 8 * b 5) (C := 1 * b 12 + -2 * b 12) 4 (by decide) (by decide : pw 4 = 16) (by omega) (by omega) (by omega) B6
    have eimm5 : bt f.imm 5 = b 12 := bt_at (A := 1 * b 2 + 2 * b 3 + 4 * b 4 + 8 * b 5 + 16 * b 6) (C := -1 * b 12) 5 (by decide) (by decide : pw 5 = 32) (by omega) (by omega) (by omega) B12
    constructor
    · simp [parS, shortR, shortL, fill, fbit, cnt, ed0, ed1, ed2, ed3, ed4, eimm0, eimm1, eimm2, eimm3, eimm4, eimm5] <;> omega
    · show legalR 19 _ _ _ _ = true
      simp [legalR, bitsL, tabL, regB, kind, kindC, fitsB, hi, hiTo, hasB] <;> omega
theorem back_4 (p : Int) (f : Flds) (h0 : 0 ≤ p) (h1 : p < 65536) (h : instS (shortR 4) p = some f) : BackS 4 p f := by
  have hs := sum16 p h0 h1
  have hb := bt_bd p
  unfold instS at h
  rw [rd_rdB] at h
  generalize bt p = b at h hs hb
  simp [shortR, shortL, rdB, miss, rstep, badS, makeS, fieldS, eightS, cnt, immS2, immS1, hi, hiTo, hasB] at h
  split at h
  · cases h
  rename_i g hg
  simp only [Option.ite_none_right_eq_some, Option.some.injEq] at hg
  obtain ⟨c0, c1, c2, c3, c4, hg⟩ := hg
  have gd : g.d = 0 := by subst hg; simp [pw] <;> omega
  have gr : g.r = 0 := by subst hg; simp [pw] <;> omega
  have gt : g.t = 0 := by subst hg; simp [pw] <;> omega
  have gimm : g.imm = 2 * b 3 + 4 * b 4 + 8 * b 5 + 16 * b 11 + 32 * b 2 + 64 * b 7 + 128 * b 6 + 256 * b 9 + 512 * b 10 + 1024 * b 8 + 2048 * b 12 := by subst hg; simp [pw] <;> omega
  clear hg
  have B2 := hb 2
  have B3 := hb 3
  have B4 := hb 4
  have B5 := hb 5
  have B6 := hb 6
  have B7 := hb 7
  have B8 := hb 8
  have B9 := hb 9
  have B10 := hb 10
  have B11 := hb 11
  have B12 := hb 12
  clear hb
  have it : bt g.imm 11 = b 12 := by exact bt_at (A := 2 * b 3 + 4 * b 4 + 8 * b 5 + 16 * b 11 + 32 * b 2 + 64 * b 7 + 128 * b 6 + 256 * b 9 + 512 * b 10 + 1024 * b 8) (C := 0) 11 (by decide) (by decide : pw 11 = 2048) (by omega) (by omega) (by omega) B12
  have hsg : sgn g.imm 11 = g.imm - 4096 * b 12 := by rw [sgn_lin, it]; simp [pw]
  repeat' split at h
  all_goals first | (cases h; done) | skip
  all_goals
    have h := Option.some.inj h
    have hd := congrArg Flds.d h
    have hr := congrArg Flds.r h
    have ht := congrArg Flds.t h
    have hm := congrArg Flds.imm h
    clear h
    dsimp only at hd hr ht hm
    have eimm1 : bt f.imm 1 = b 3 := bt_at (A := 0) (C := 1 * b 4 + 2 * b 5 + 4 * b 11 + 8 * b 2 + 16 * b 7 + 32 * b 6 + 64 * b 9 + 128 * b 10 + 256 * b 8 + 512 * b 12 + -1024 * b 12) 1 (by decide) (by decide : pw 1 = 2) (by omega) (by omega) (by omega) B3
    have eimm2 : bt f.imm 2 = b 4 := bt_at (A := 2 * b 3) (C := 1 * b 5 + 2 * b 11 + 4 * b 2 + 8 * b 7 + 16 * b 6 + 32 * b 9 + 64 * b 10 + 128 * b 8 + 256 * b 12 + -512 * b 12) 2 (by decide) (by decide : pw 2 = 4) (by omega) (by omega) (by omega) B4
    have eimm3 : bt f.imm 3 = b 5 := bt_at (A := 2 * b 3 + 4 * b 4) (C := 1 * b 11 + 2 * b 2 + 4 * b 7 + 8 * b 6 + 16 * b 9 + 32 * b 10 + 64 * b 8 + 128 * b 12 + -256 * b 12) 3 (by decide) (by decide : pw 3 = 8) (by omega) (by omega) (by omega) B5
    have eimm4 : bt f.imm 4 = b 11 := bt_at (A := 2 * b 3 + 4 * b 4 + 8 * b 5) (C := 1 * b 2 + 2 * b 7 + 4 * b 6 + 8 * b 9 + 16 * b 10 + 32 * b 8 + 64 * b 12 + -128 * b 12) 4 (by decide) (by decide : pw 4 = 16) (by omega) (by omega) (by omega) B11
    have eimm5 : bt f.imm 5 = b 2 := bt_at (A := 2 * b 3 + 4 * b 4 + 8 * b 5 + 16 * b 11) (C := 1 * b 7 + 2 * b 6 + 4 * b 9 + 8 * b 10 + 16 * b 8 + 32 * b 12 + -64 * b 12) 5 (by decide) (by decide : pw 5 = 32) (by omega) (by omega) (by omega) B2
    have eimm6 : bt f.imm 6 = b 7 := bt_at (A := 2 * b 3 + 4 * b 4 + 8 * b 5 + 16 * b 11 + 32 * b 2) (C := 1 * b 6 + 2 * b 9 + 4 * b 10 + 8 * b 8 + 16 * b 12 + -32 * b 12) 6 (by decide) (by decide : pw 6 = 64) (by omega) (by omega) (by omega) B7
    have eimm7 : bt f.imm 7 = b 6 := bt_at (A := 2 * b 3 + 4 * b 4 + 8 * b 5 + 16 * b 11 + 32 * b 2 + 64 * b 7) (C := 1 * b 9 + 2 * b 10 + 4 * b 8 + 8 * b 12 + -16 * b 12) 7 (by decide) (by decide : pw 7 = 128) (by omega) (by omega) (by omega) B6
    have eimm8 : bt f.imm 8 = b 9 := bt_at (A := 2 * b 3 + 4 * b 4 + 8 * b 5 + 16 * b 11 + 32 * b 2 + 64 * b 7 + 128 * b 6) (C := 1 * b 10 + 2 * b 8 + 4 * b 12 + -8 * b 12) 8 (by decide) (by decide : pw 8 = 256) (by omega) (by omega) (by omega) B9
    have eimm9 : bt f.imm 9 = b 10 := bt_at (A := 2 * b 3 + 4 * b 4 + 8 * b 5 + 16 * b 11 + 32 * b 2 + 64 * b 7 + 128 * b 6 + 256 * b 9) (C := 1 * b 8 + 2 * b 12 + -4 * b 12) 9 (by decide) (by decide : pw 9 = 512) (by omega) (by omega) (by omega) B10
    have eimm10 : bt f.imm 10 = b 8 := bt_at (A := 2 * b 3 + 4 * b 4 + 8 * b 5 + 16 * b 11 + 32 * b 2 + 64 * b 7 + 128 * b 6 + 256 * b 9 + 512 * b 10) (C := 1 * b 12 + -2 * b 12) 10 (by decide) (by decide : pw 10 = 1024) (by omega) (by omega) (by omega) B8
    have eimm11 : bt f.imm 11 = b 12 := bt_at (A := 2 * b 3 + 4 * b 4 + 8 * b 5 + 16 * b 11 + 32 * b 2 + 64 * b 7 + 128 * b 6 + 256 * b 9 + 512 * b 10 + 1024 * b 8) (C := -1 * b 12) 11 (by decide) (by decide : pw 11 = 2048) (by omega) (by omega) (by omega) B12
    constructor
    · simp [parS, shortR, shortL, fill, fbit, cnt, eimm1, eimm2, eimm3, eimm4, eimm5, eimm6, eimm7, eimm8, eimm9, eimm10, eimm11] <;> omega
    · show legalR 3 _ _ _ _ = true
      simp [legalR, bitsL, tabL, regB, kind, kindC, fitsB, hi, hiTo, hasB] <;> omega
theorem back_5 (p : Int) (f : Flds) (h0 : 0 ≤ p) (h1 : p < 65536) (h : instS (shortR 5) p = some f) : BackS 5 p f := by
  have hs := sum16 p h0 h1
  have hb := bt_bd p
  unfold instS at h
  rw [rd_rdB] at h
  generalize bt p = b at h hs hb
  simp [shortR, shortL, rdB, miss, rstep, badS, makeS, fieldS, eightS, cnt, immS2, immS1, hi, hiTo, hasB] at h
  split at h
  · cases h
  rename_i g hg
  simp only [Option.ite_none_right_eq_some, Option.some.injEq] at hg
  obtain ⟨c0, c1, c2, c3, c4, hg⟩ := hg
  have gd : g.d = 1 * b 7 + 2 * b 8 + 4 * b 9 + 8 * b 10 + 16 * b 11 := by subst hg; simp [pw] <;> omega
  have gr : g.r = 0 := by subst hg; simp [pw] <;> omega
  have gt : g.t = 0 := by subst hg; simp [pw] <;> omega
  have gimm : g.imm = 1 * b 2 + 2 * b 3 + 4 * b 4 + 8 * b 5 + 16 * b 6 + 32 * b 12 := by subst hg; simp [pw] <;> omega
  clear hg
  have B2 := hb 2
  have B3 := hb 3
  have B4 := hb 4
  have B5 := hb 5
  have B6 := hb 6
  have B7 := hb 7
  have B8 := hb 8
  have B9 := hb 9
  have B10 := hb 10
  have B11 := hb 11
  have B12 := hb 12
  clear hb
  have it : bt g.imm 5 = b 12 := by exact bt_at (A := 1 * b 2 + 2 * b 3 + 4 * b 4 + 8 * b 5 + 16 * b 6) (C := 0) 5 (by decide) (by decide : pw 5 = 32) (by omega) (by omega) (by omega) B12
  have hsg : sgn g.imm 5 = g.imm - 64 * b 12 := by rw [sgn_lin, it]; simp [pw]
  repeat' split at h
  all_goals first | (cases h; done) | skip
  all_goals
    have h := Option.some.inj h
    have hd := congrArg Flds.d h
    have hr := congrArg Flds.r h
    have ht := congrArg Flds.t h
    have hm := congrArg Flds.imm h
    clear h
    dsimp only at hd hr ht hm
    have ed0 : bt f.d 0 = b 7 := bt_at (A := 0) (C := 1 * b 8 + 2 * b 9 + 4 * b 10 + 8 * b 11) 0 (by decide) (by decide : pw 0 = 1) (by omega) (by omega) (by omega) B7
    have ed1 : bt f.d 1 = b 8 := bt_at (A := 1 * b 7) (C := 1 * b 9 + 2 * b 10 + 4 * b 11) 1 (by decide) (by decide : pw 1 = 2) (by omega) (by omega) (by omega) B8
    have ed2 : bt f.d 2 = b 9 := bt_at (A := 1 * b 7 + 2 * b 8) (C := 1 * b 10 + 2 * b 11) 2 (by decide) (by decide : pw 2 = 4) (by omega) (by omega) (by omega) B9
    have ed3 : bt f.d 3 = b 10 := bt_at (A := 1 * b 7 + 2 * b 8 + 4 * b 9) (C := 1 * b 11) 3 (by decide) (by decide : pw 3 = 8) (by omega) (by omega) (by omega) B10
    have ed4 : bt f.d 4 = b 11 := bt_at (A := 1 * b 7 + 2 * b 8 + 4 * b 9 + 8 * b 10) (C := 0) 4 (by decide) (by decide : pw 4 = 16) (by omega) (by omega) (by omega) B11
    have eimm0 : bt f.imm 0 = b 2 := bt_at (A := 0) (C := 1 * b 3 + 2 * b 4 + 4 * b 5 + 8 * b 6 + 16 * b 12 + -32 * b 12) 0 (by decide) (by decide : pw 0 = 1) (by omega) (by omega) (by omega) B2
    have eimm1 : bt f.imm 1 = b 3 := bt_at (A := 1 * b 2) (C := 1 * b 4 + 2 * b 5 + 4 * b 6 + 8 * b 12 + -16 * b 12) 1 (by decide) (by decide : pw 1 = 2) (by omega) (by omega) (by omega) B3
    have eimm2 : bt f.imm 2 = b 4 := bt_at (A := 1 * b 2 + 2 * b 3) (C := 1 * b 5 + 2 * b 6 + 4 * b 12 + -8 * b 12) 2 (by decide) (by decide : pw 2 = 4) (by omega) (by omega) (by omega) B4
    have eimm3 : bt f.imm 3 = b 5 := bt_at (A := 1 * b 2 + 2 * b 3 + 4 * b 4) (C := 1 * b 6 + 2 * b 12 + -4 * b 12) 3 (by decide) (by decide : pw 3 = 8) (by omega) (by omega) (by omega) B5
    have eimm4 : bt f.imm 4 = b 6 := bt_at (A := 1 * b 2 + 2 * b 3 + 4 * b 4 + 8 * b 5) (C := 1 * b 12 + -2 * b 12) 4 (by decide) (by decide : pw 4 = 16) (by omega) (by omega) (by omega) B6
    have eimm5 : bt f.imm 5 = b 12 := bt_at (A := 1 * b 2 + 2 * b 3 + 4 * b 4 + 8 * b 5 + 16 * b 6) (C := -1 * b 12) 5 (by decide) (by decide : pw 5 = 32) (by omega) (by omega) (by omega) B12
    constructor
    · simp [parS, shortR, shortL, fill, fbit, cnt, ed0, ed1, ed2, ed3, ed4, eimm0, eimm1, eimm2, eimm3, eimm4, eimm5] <;> omega
    · show legalR 19 _ _ _ _ = true
      simp [legalR, bitsL, tabL, regB, kind, kindC, fitsB, hi, hiTo, hasB] <;> omega
theorem back_6 (p : Int) (f : Flds) (h0 : 0 ≤ p) (h1 : p < 65536) (h : instS (shortR 6) p = some f) : BackS 6 p f := by
  have hs := sum16 p h0 h1
  have hb := bt_bd p
  unfold instS at h
  rw [rd_rdB] at h
  generalize bt p = b at h hs hb
  simp [shortR, shortL, rdB, miss, rstep, badS, makeS, fieldS, eightS, cnt, immS2, immS1, hi, hiTo, hasB] at h
  split at h
  · cases h
  rename_i g hg
  simp only [Option.ite_none_right_eq_some, Option.some.injEq] at hg
  obtain ⟨c0, c1, c2, c3, c4, c5, c6, c7, c8, c9, hg⟩ := hg
  have gd : g.d = 0 := by subst hg; simp [pw] <;> omega
  have gr : g.r = 0 := by subst hg; simp [pw] <;> omega
  have gt : g.t = 0 := by subst hg; simp [pw] <;> omega
  have gimm : g.imm = 16 * b 6 + 32 * b 2 + 64 * b 5 + 128 * b 3 + 256 * b 4 + 512 * b 12 := by subst hg; simp [pw] <;> omega
  clear hg
  have B2 := hb 2
  have B3 := hb 3
  have B4 := hb 4
  have B5 := hb 5
  have B6 := hb 6
  have B12 := hb 12
  clear hb
  have it : bt g.imm 9 = b 12 := by exact bt_at (A := 16 * b 6 + 32 * b 2 + 64 * b 5 + 128 * b 3 + 256 * b 4) (C := 0) 9 (by decide) (by decide : pw 9 = 512) (by omega) (by omega) (by omega) B12
  have hsg : sgn g.imm 9 = g.imm - 1024 * b 12 := by rw [sgn_lin, it]; simp [pw]
  repeat' split at h
  all_goals first | (cases h; done) | skip
  all_goals
    have h := Option.some.inj h
    have hd := congrArg Flds.d h
    have hr := congrArg Flds.r h
    have ht := congrArg Flds.t h
    have hm := congrArg Flds.imm h
    clear h
    dsimp only at hd hr ht hm
    have eimm4 : bt f.imm 4 = b 6 := bt_at (A := 0) (C := 1 * b 2 + 2 * b 5 + 4 * b 3 + 8 * b 4 + 16 * b 12 + -32 * b 12) 4 (by decide) (by decide : pw 4 = 16) (by omega) (by omega) (by omega) B6
    have eimm5 : bt f.imm 5 = b 2 := bt_at (A := 16 * b 6) (C := 1 * b 5 + 2 * b 3 + 4 * b 4 + 8 * b 12 + -16 * b 12) 5 (by decide) (by decide : pw 5 = 32) (by omega) (by omega) (by omega) B2
    have eimm6 : bt f.imm 6 = b 5 := bt_at (A := 16 * b 6 + 32 * b 2) (C := 1 * b 3 + 2 * b 4 + 4 * b 12 + -8 * b 12) 6 (by decide) (by decide : pw 6 = 64) (by omega) (by omega) (by omega) B5
    have eimm7 : bt f.imm 7 = b 3 := bt_at (A := 16 * b 6 + 32 * b 2 + 64 * b 5) (C := 1 * b 4 + 2 * b 12 + -4 * b 12) 7 (by decide) (by decide : pw 7 = 128) (by omega) (by omega) (by omega) B3
    have eimm8 : bt f.imm 8 = b 4 := bt_at (A := 16 * b 6 + 32 * b 2 + 64 * b 5 + 128 * b 3) (C := 1 * b 12 + -2 * b 12) 8 (by decide) (by decide : pw 8 = 256) (by omega) (by omega) (by omega) B4
    have eimm9 : bt f.imm 9 = b 12 := bt_at (A := 16 * b 6 + 32 * b 2 + 64 * b 5 + 128 * b 3 + 256 * b 4) (C := -1 * b 12) 9 (by decide) (by decide : pw 9 = 512) (by omega) (by omega) (by omega) B12
    constructor
    · simp [parS, shortR, shortL, fill, fbit, cnt, eimm4, eimm5, eimm6, eimm7, eimm8, eimm9] <;> omega
    · show legalR 19 _ _ _ _ = true
      simp [legalR, bitsL, tabL, regB, kind, kindC, fitsB, hi, hiTo, hasB] <;> omega
theorem back_7 (p : Int) (f : Flds) (h0 : 0 ≤ p) (h1 : p < 65536) (h : instS (shortR 7) p = some f) : BackS 7 p f := by
  have hs := sum16 p h0 h1
  have hb := bt_bd p
  unfold instS at h
  rw [rd_rdB] at h
  generalize bt p = b at h hs hb
  simp [shortR, shortL, rdB, miss, rstep, badS, makeS, fieldS, eightS, cnt, immS2, immS1, hi, hiTo, hasB] at h
  split at h
  · cases h
  rename_i g hg
  simp only [Option.ite_none_right_eq_some, Option.some.injEq] at hg
  obtain ⟨c0, c1, c2, c3, c4, hg⟩ := hg
  have gd : g.d = 1 * b 7 + 2 * b 8 + 4 * b 9 + 8 * b 10 + 16 * b 11 := by subst hg; simp [pw] <;> omega
  have gr : g.r = 0 := by subst hg; simp [pw] <;> omega
  have gt : g.t = 0 := by subst hg; simp [pw] <;> omega
  have gimm : g.imm = 1 * b 2 + 2 * b 3 + 4 * b 4 + 8 * b 5 + 16 * b 6 + 32 * b 12 := by subst hg; simp [pw] <;> omega
  clear hg
  have B2 := hb 2
  have B3 := hb 3
  have B4 := hb 4
  have B5 := hb 5
  have B6 := hb 6
  have B7 := hb 7
  have B8 := hb 8
  have B9 := hb 9
  have B10 := hb 10
  have B11 := hb 11
  have B12 := hb 12
  clear hb
  have it : bt g.imm 5 = b 12 := by exact bt_at (A := 1 * b 2 + 2 * b 3 + 4 * b 4 + 8 * b 5 + 16 * b 6) (C := 0) 5 (by decide) (by decide : pw 5 = 32) (by omega) (by omega) (by omega) B12
  have hsg : sgn g.imm 5 = g.imm - 64 * b 12 := by rw [sgn_lin, it]; simp [pw]
  repeat' split at h
  all_goals first | (cases h; done) | skip
  all_goals
    have h := Option.some.inj h
    have hd := congrArg Flds.d h
    have hr := congrArg Flds.r h
    have ht := congrArg Flds.t h
    have hm := congrArg Flds.imm h
    clear h
    dsimp only at hd hr ht hm
    have ed0 : bt f.d 0 = b 7 := bt_at (A := 0) (C := 1 * b 8 + 2 * b 9 + 4 * b 10 + 8 * b 11) 0 (by decide) (by decide : pw 0 = 1) (by omega) (by omega) (by omega) B7
    have ed1 : bt f.d 1 = b 8 := bt_at (A := 1 * b 7) (C := 1 * b 9 + 2 * b 10 + 4 * b 11) 1 (by decide) (by decide : pw 1 = 2) (by omega) (by omega) (by omega) B8
    have ed2 : bt f.d 2 = b 9 := bt_at (A := 1 * b 7 + 2 * b 8) (C := 1 * b 10 + 2 * b 11) 2 (by decide) (by decide : pw 2 = 4) (by omega) (by omega) (by omega) B9
    have ed3 : bt f.d 3 = b 10 := bt_at (A := 1 * b 7 + 2 * b 8 + 4 * b 9) (C := 1 * b 11) 3 (by decide) (by decide : pw 3 = 8) (by omega) (by omega) (by omega) B10
    have ed4 : bt f.d 4 = b 11 := bt_at (A := 1 * b 7 + 2 * b 8 + 4 * b 9 + 8 * b 10) (C := 0) 4 (by decide) (by decide : pw 4 = 16) (by omega) (by omega) (by omega) B11
    have eimm0 : bt f.imm 0 = b 2 := bt_at (A := 0) (C := 1 * b 3 + 2 * b 4 + 4 * b 5 + 8 * b 6 + 16 * b 12 + -32 * b 12 + 524288 * (if sgn g.imm 5 < 0 then 1 else 0)) 0 (by decide) (by decide : pw 0 = 1) (by omega) (by omega) (by omega) B2
    have eimm1 : bt f.imm 1 = b 3 := bt_at (A := 1 * b 2) (C := 1 * b 4 + 2 * b 5 + 4 * b 6 + 8 * b 12 + -16 * b 12 + 262144 * (if sgn g.imm 5 < 0 then 1 else 0)) 1 (by decide) (by decide : pw 1 = 2) (by omega) (by omega) (by omega) B3
    have eimm2 : bt f.imm 2 = b 4 := bt_at (A := 1 * b 2 + 2 * b 3) (C := 1 * b 5 + 2 * b 6 + 4 * b 12 + -8 * b 12 + 131072 * (if sgn g.imm 5 < 0 then 1 else 0)) 2 (by decide) (by decide : pw 2 = 4) (by omega) (by omega) (by omega) B4
    have eimm3 : bt f.imm 3 = b 5 := bt_at (A := 1 * b 2 + 2 * b 3 + 4 * b 4) (C := 1 * b 6 + 2 * b 12 + -4 * b 12 + 65536 * (if sgn g.imm 5 < 0 then 1 else 0)) 3 (by decide) (by decide : pw 3 = 8) (by omega) (by omega) (by omega) B5
    have eimm4 : bt f.imm 4 = b 6 := bt_at (A := 1 * b 2 + 2 * b 3 + 4 * b 4 + 8 * b 5) (C := 1 * b 12 + -2 * b 12 + 32768 * (if sgn g.imm 5 < 0 then 1 else 0)) 4 (by decide) (by decide : pw 4 = 16) (by omega) (by omega) (by omega) B6
    have eimm5 : bt f.imm 5 = b 12 := bt_at (A := 1 * b 2 + 2 * b 3 + 4 * b 4 + 8 * b 5 + 16 * b 6) (C := -1 * b 12 + 16384 * (if sgn g.imm 5 < 0 then 1 else 0)) 5 (by decide) (by decide : pw 5 = 32) (by omega) (by omega) (by omega) B12
    constructor
    · simp [parS, shortR, shortL, fill, fbit, cnt, ed0, ed1, ed2, ed3, ed4, eimm0, eimm1, eimm2, eimm3, eimm4, eimm5] <;> omega
    · show legalR 1 _ _ _ _ = true
      simp [legalR, bitsL, tabL, regB, kind, kindC, fitsB, hi, hiTo, hasB] <;> omega
theorem back_8 (p : Int) (f : Flds) (h0 : 0 ≤ p) (h1 : p < 65536) (h : instS (shortR 8) p = some f) : BackS 8 p f := by
  have hs := sum16 p h0 h1
  have hb := bt_bd p
  unfold instS at h
  rw [rd_rdB] at h
  generalize bt p = b at h hs hb
  simp [shortR, shortL, rdB, miss, rstep, badS, makeS, fieldS, eightS, cnt, immS2, immS1, hi, hiTo, hasB] at h
  split at h
  · cases h
  rename_i g hg
  simp only [Option.ite_none_right_eq_some, Option.some.injEq] at hg
  obtain ⟨c0, c1, c2, c3, c4, c5, c6, c7, hg⟩ := hg
  have gd : g.d = 1 * b 7 + 2 * b 8 + 4 * b 9 := by subst hg; simp [pw] <;> omega
  have gr : g.r = 0 := by subst hg; simp [pw] <;> omega
  have gt : g.t = 0 := by subst hg; simp [pw] <;> omega
  have gimm : g.imm = 1 * b 2 + 2 * b 3 + 4 * b 4 + 8 * b 5 + 16 * b 6 := by subst hg; simp [pw] <;> omega
  clear hg
  have B2 := hb 2
  have B3 := hb 3
  have B4 := hb 4
  have B5 := hb 5
  have B6 := hb 6
  have B7 := hb 7
  have B8 := hb 8
  have B9 := hb 9
  clear hb
  repeat' split at h
  all_goals first | (cases h; done) | skip
  all_goals
    have h := Option.some.inj h
    have hd := congrArg Flds.d h
    have hr := congrArg Flds.r h
    have ht := congrArg Flds.t h
    have hm := congrArg Flds.imm h
    clear h
    dsimp only at hd hr ht hm
    have ed0 : bt f.d 0 = b 7 := bt_at (A := 0) (C := 1 * b 8 + 2 * b 9 + 4) 0 (by decide) (by decide : pw 0 = 1) (by omega) (by omega) (by omega) B7
    have ed1 : bt f.d 1 = b 8 := bt_at (A := 1 * b 7) (C := 1 * b 9 + 2) 1 (by decide) (by decide : pw 1 = 2) (by omega) (by omega) (by omega) B8
    have ed2 : bt f.d 2 = b 9 := bt_at (A := 1 * b 7 + 2 * b 8) (C := 1) 2 (by decide) (by decide : pw 2 = 4) (by omega) (by omega) (by omega) B9
    have eimm0 : bt f.imm 0 = b 2 := bt_at (A := 0) (C := 1 * b 3 + 2 * b 4 + 4 * b 5 + 8 * b 6) 0 (by decide) (by decide : pw 0 = 1) (by omega) (by omega) (by omega) B2
    have eimm1 : bt f.imm 1 = b 3 := bt_at (A := 1 * b 2) (C := 1 * b 4 + 2 * b 5 + 4 * b 6) 1 (by decide) (by decide : pw 1 = 2) (by omega) (by omega) (by omega) B3
    have eimm2 : bt f.imm 2 = b 4 := bt_at (A := 1 * b 2 + 2 * b 3) (C := 1 * b 5 + 2 * b 6) 2 (by decide) (by decide : pw 2 = 4) (by omega) (by omega) (by omega) B4
    have eimm3 : bt f.imm 3 = b 5 := bt_at (A := 1 * b 2 + 2 * b 3 + 4 * b 4) (C := 1 * b 6) 3 (by decide) (by decide : pw 3 = 8) (by omega) (by omega) (by omega) B5
    have eimm4 : bt f.imm 4 = b 6 := bt_at (A := 1 * b 2 + 2 * b 3 + 4 * b 4 + 8 * b 5) (C := 0) 4 (by decide) (by decide : pw 4 = 16) (by omega) (by omega) (by omega) B6
    constructor
    · simp [parS, shortR, shortL, fill, fbit, cnt, ed0, ed1, ed2, eimm0, eimm1, eimm2, eimm3, eimm4] <;> omega
    · show legalR 26 _ _ _ _ = true
      simp [legalR, bitsL, tabL, regB, kind, kindC, fitsB, hi, hiTo, hasB] <;> omega
theorem back_9 (p : Int) (f : Flds) (h0 : 0 ≤ p) (h1 : p < 65536) (h : instS (shortR 9) p = some f) : BackS 9 p f := by
  have hs := sum16 p h0 h1
  have hb := bt_bd p
  unfold instS at h
  rw [rd_rdB] at h
  generalize bt p = b at h hs hb
  simp [shortR, shortL, rdB, miss, rstep, badS, makeS, fieldS, eightS, cnt, immS2, immS1, hi, hiTo, hasB] at h
  split at h
  · cases h
  rename_i g hg
  simp only [Option.ite_none_right_eq_some, Option.some.injEq] at hg
  obtain ⟨c0, c1, c2, c3, c4, c5, c6, c7, hg⟩ := hg
  have gd : g.d = 1 * b 7 + 2 * b 8 + 4 * b 9 := by subst hg; simp [pw] <;> omega
  have gr : g.r = 0 := by subst hg; simp [pw] <;> omega
  have gt : g.t = 0 := by subst hg; simp [pw] <;> omega
  have gimm : g.imm = 1 * b 2 + 2 * b 3 + 4 * b 4 + 8 * b 5 + 16 * b 6 := by subst hg; simp [pw] <;> omega
  clear hg
  have B2 := hb 2
  have B3 := hb 3
  have B4 := hb 4
  have B5 := hb 5
  have B6 := hb 6
  have B7 := hb 7
  have B8 := hb 8
  have B9 := hb 9
  clear hb
  repeat' split at h
  all_goals first | (cases h; done) | skip
  all_goals
    have h := Option.some.inj h
    have hd := congrArg Flds.d h
    have hr := congrArg Flds.r h
    have ht := congrArg Flds.t h
    have hm := congrArg Flds.imm h
    clear h
    dsimp only at hd hr ht hm
    have ed0 : bt f.d 0 = b 7 := bt_at (A := 0) (C := 1 * b 8 + 2 * b 9 + 4) 0 (by decide) (by decide : pw 0 = 1) (by omega) (by omega) (by omega) B7
    have ed1 : bt f.d 1 = b 8 := bt_at (A := 1 * b 7) (C := 1 * b 9 + 2) 1 (by decide) (by decide : pw 1 = 2) (by omega) (by omega) (by omega) B8
    have ed2 : bt f.d 2 = b 9 := bt_at (A := 1 * b 7 + 2 * b 8) (C := 1) 2 (by decide) (by decide : pw 2 = 4) (by omega) (by omega) (by omega) B9
    have eimm0 : bt f.imm 0 = b 2 := bt_at (A := 0) (C := 1 * b 3 + 2 * b 4 + 4 * b 5 + 8 * b 6) 0 (by decide) (by decide : pw 0 = 1) (by omega) (by omega) (by omega) B2
    have eimm1 : bt f.imm 1 = b 3 := bt_at (A := 1 * b 2) (C := 1 * b 4 + 2 * b 5 + 4 * b 6) 1 (by decide) (by decide : pw 1 = 2) (by omega) (by omega) (by omega) B3
    have eimm2 : bt f.imm 2 = b 4 := bt_at (A := 1 * b 2 + 2 * b 3) (C := 1 * b 5 + 2 * b 6) 2 (by decide) (by decide : pw 2 = 4) (by omega) (by omega) (by omega) B4
    have eimm3 : bt f.imm 3 = b 5 := bt_at (A := 1 * b 2 + 2 * b 3 + 4 * b 4) (C := 1 * b 6) 3 (by decide) (by decide : pw 3 = 8) (by omega) (by omega) (by omega) B5
    have eimm4 : bt f.imm 4 = b 6 := bt_at (A := 1 * b 2 + 2 * b 3 + 4 * b 4 + 8 * b 5) (C := 0) 4 (by decide) (by decide : pw 4 = 16) (by omega) (by omega) (by omega) B6
    constructor
    · simp [parS, shortR, shortL, fill, fbit, cnt, ed0, ed1, ed2, eimm0, eimm1, eimm2, eimm3, eimm4] <;> omega
    · show legalR 27 _ _ _ _ = true
      simp [legalR, bitsL, tabL, regB, kind, kindC, fitsB, hi, hiTo, hasB] <;> omega
theorem back_10 (p : Int) (f : Flds) (h0 : 0 ≤ p) (h1 : p < 65536) (h : instS (shortR 10) p = some f) : BackS 10 p f := by
  have hs := sum16 p h0 h1
  have hb := bt_bd p
  unfold instS at h
  rw [rd_rdB] at h
  generalize bt p = b at h hs hb
  simp [shortR, shortL, rdB, miss, rstep, badS, makeS, fieldS, eightS, cnt, immS2, immS1, hi, hiTo, hasB] at h
  split at h
  · cases h
  rename_i g hg
  simp only [Option.ite_none_right_eq_some, Option.some.injEq] at hg
  obtain ⟨c0, c1, c2, c3, c4, c5, c6, hg⟩ := hg
  have gd : g.d = 1 * b 7 + 2 * b 8 + 4 * b 9 := by subst hg; simp [pw] <;> omega
  have gr : g.r = 0 := by subst hg; simp [pw] <;> omega
  have gt : g.t = 0 := by subst hg; simp [pw] <;> omega
  have gimm : g.imm = 1 * b 2 + 2 * b 3 + 4 * b 4 + 8 * b 5 + 16 * b 6 + 32 * b 12 := by subst hg; simp [pw] <;> omega
  clear hg
  have B2 := hb 2
  have B3 := hb 3
  have B4 := hb 4
  have B5 := hb 5
  have B6 := hb 6
  have B7 := hb 7
  have B8 := hb 8
  have B9 := hb 9
  have B12 := hb 12
  clear hb
  have it : bt g.imm 5 = b 12 := by exact bt_at (A := 1 * b 2 + 2 * b 3 + 4 * b 4 + 8 * b 5 + 16 * b 6) (C := 0) 5 (by decide) (by decide : pw 5 = 32) (by omega) (by omega) (by omega) B12
  have hsg : sgn g.imm 5 = g.imm - 64 * b 12 := by rw [sgn_lin, it]; simp [pw]
  repeat' split at h
  all_goals first | (cases h; done) | skip
  all_goals
    have h := Option.some.inj h
    have hd := congrArg Flds.d h
    have hr := congrArg Flds.r h
    have ht := congrArg Flds.t h
    have hm := congrArg Flds.imm h
    clear h
    dsimp only at hd hr ht hm
    have ed0 : bt f.d 0 = b 7 := bt_at (A := 0) (C := 1 * b 8 + 2 * b 9 + 4) 0 (by decide) (by decide : pw 0 = 1) (by omega) (by omega) (by omega) B7
    have ed1 : bt f.d 1 = b 8 := bt_at (A := 1 * b 7) (C := 1 * b 9 + 2) 1 (by decide) (by decide : pw 1 = 2) (by omega) (by omega) (by omega) B8
    have ed2 : bt f.d 2 = b 9 := bt_at (A := 1 * b 7 + 2 * b 8) (C := 1) 2 (by decide) (by decide : pw 2 = 4) (by omega) (by omega) (by omega) B9
    have eimm0 : bt f.imm 0 = b 2 := bt_at (A := 0) (C := 1 * b 3 + 2 * b 4 + 4 * b 5 + 8 * b 6 + 16 * b 12 + -32 * b 12) 0 (by decide) (by decide : pw 0 = 1) (by omega) (by omega) (by omega) B2
    have eimm1 : bt f.imm 1 = b 3 := bt_at (A := 1 * b 2) (C := 1 * b 4 + 2 * b 5 + 4 * b 6 + 8 * b 12 + -16 * b 12) 1 (by decide) (by decide : pw 1 = 2) (by omega) (by omega) (by omega) B3
    have eimm2 : bt f.imm 2 = b 4 := bt_at (A := 1 * b 2 + 2 * b 3) (C := 1 * b 5 + 2 * b 6 + 4 * b 12 + -8 * b 12) 2 (by decide) (by decide : pw 2 = 4) (by omega) (by omega) (by omega) B4
    have eimm3 : bt f.imm 3 = b 5 := bt_at (A := 1 * b 2 + 2 * b 3 + 4 * b 4) (C := 1 * b 6 + 2 * b 12 + -4 * b 12) 3 (by decide) (by decide : pw 3 = 8) (by omega) (by omega) (by omega) B5
    have eimm4 : bt f.imm 4 = b 6 := bt_at (A := 1 * b 2 + 2 * b 3 + 4 * b 4 + 8 * b 5) (C := 1 * b 12 + -2 * b 12) 4 (by decide) (by decide : pw 4 = 16) (by omega) (by omega) (by omega) B6
    have eimm5 : bt f.imm 5 = b 12 := bt_at (A := 1 * b 2 + 2 * b 3 + 4 * b 4 + 8 * b 5 + 16 * b 6) (C := -1 * b 12) 5 (by decide) (by decide : pw 5 = 32) (by omega) (by omega) (by omega) B12
    constructor
    · simp [parS, shortR, shortL, fill, fbit, cnt, ed0, ed1, ed2, eimm0, eimm1, eimm2, eimm3, eimm4, eimm5] <;> omega
    · show legalR 24 _ _ _ _ = true
      simp [legalR, bitsL, tabL, regB, kind, kindC, fitsB, hi, hiTo, hasB] <;> omega
theorem back_11 (p : Int) (f : Flds) (h0 : 0 ≤ p) (h1 : p < 65536) (h : instS (shortR 11) p = some f) : BackS 11 p f := by
  have hs := sum16 p h0 h1
  have hb := bt_bd p
  unfold instS at h
  rw [rd_rdB] at h
  generalize bt p = b at h hs hb
  simp [shortR, shortL, rdB, miss, rstep, badS, makeS, fieldS, eightS, cnt, immS2, immS1, hi, hiTo, hasB] at h
  split at h
  · cases h
  rename_i g hg
  simp only [Option.ite_none_right_eq_some, Option.some.injEq] at hg
  obtain ⟨c0, c1, c2, c3, c4, c5, c6, c7, c8, c9, hg⟩ := hg
  have gd : g.d = 1 * b 7 + 2 * b 8 + 4 * b 9 := by subst hg; simp [pw] <;> omega
  have gr : g.r = 0 := by subst hg; simp [pw] <;> omega
  have gt : g.t = 1 * b 2 + 2 * b 3 + 4 * b 4 := by subst hg; simp [pw] <;> omega
  have gimm : g.imm = 0 := by subst hg; simp [pw] <;> omega
  clear hg
  have B2 := hb 2
  have B3 := hb 3
  have B4 := hb 4
  have B7 := hb 7
  have B8 := hb 8
  have B9 := hb 9
  clear hb
  repeat' split at h
  all_goals first | (cases h; done) | skip
  all_goals
    have h := Option.some.inj h
    have hd := congrArg Flds.d h
    have hr := congrArg Flds.r h
    have ht := congrArg Flds.t h
    have hm := congrArg Flds.imm h
    clear h
    dsimp only at hd hr ht hm
    have ed0 : bt f.d 0 = b 7 := bt_at (A := 0) (C := 1 * b 8 + 2 * b 9 + 4) 0 (by decide) (by decide : pw 0 = 1) (by omega) (by omega) (by omega) B7
    have ed1 : bt f.d 1 = b 8 := bt_at (A := 1 * b 7) (C := 1 * b 9 + 2) 1 (by decide) (by decide : pw 1 = 2) (by omega) (by omega) (by omega) B8
    have ed2 : bt f.d 2 = b 9 := bt_at (A := 1 * b 7 + 2 * b 8) (C := 1) 2 (by decide) (by decide : pw 2 = 4) (by omega) (by omega) (by omega) B9
    have et0 : bt f.t 0 = b 2 := bt_at (A := 0) (C := 1 * b 3 + 2 * b 4 + 4) 0 (by decide) (by decide : pw 0 = 1) (by omega) (by omega) (by omega) B2
    have et1 : bt f.t 1 = b 3 := bt_at (A := 1 * b 2) (C := 1 * b 4 + 2) 1 (by decide) (by decide : pw 1 = 2) (by omega) (by omega) (by omega) B3
    have et2 : bt f.t 2 = b 4 := bt_at (A := 1 * b 2 + 2 * b 3) (C := 1) 2 (by decide) (by decide : pw 2 = 4) (by omega) (by omega) (by omega) B4
    constructor
    · simp [parS, shortR, shortL, fill, fbit, cnt, ed0, ed1, ed2, et0, et1, et2] <;> omega
    · show legalR 29 _ _ _ _ = true
      simp [legalR, bitsL, tabL, regB, kind, kindC, fitsB, hi, hiTo, hasB] <;> omega
theorem back_12 (p : Int) (f : Flds) (h0 : 0 ≤ p) (h1 : p < 65536) (h : instS (shortR 12) p = some f) : BackS 12 p f := by
  have hs := sum16 p h0 h1
  have hb := bt_bd p
  unfold instS at h
  rw [rd_rdB] at h
  generalize bt p = b at h hs hb
  simp [shortR, shortL, rdB, miss, rstep, badS, makeS, fieldS, eightS, cnt, immS2, immS1, hi, hiTo, hasB] at h
  split at h
  · cases h
  rename_i g hg
  simp only [Option.ite_none_right_eq_some, Option.some.injEq] at hg
  obtain ⟨c0, c1, c2, c3, c4, c5, c6, c7, c8, c9, hg⟩ := hg
  have gd : g.d = 1 * b 7 + 2 * b 8 + 4 * b 9 := by subst hg; simp [pw] <;> omega
  have gr : g.r = 0 := by subst hg; simp [pw] <;> omega
  have gt : g.t = 1 * b 2 + 2 * b 3 + 4 * b 4 := by subst hg; simp [pw] <;> omega
  have gimm : g.imm = 0 := by subst hg; simp [pw] <;> omega
  clear hg
  have B2 := hb 2
  have B3 := hb 3
  have B4 := hb 4
  have B7 := hb 7
  have B8 := hb 8
  have B9 := hb 9
  clear hb
  repeat' split at h
  all_goals first | (cases h; done) | skip
  all_goals
    have h := Option.some.inj h
    have hd := congrArg Flds.d h
    have hr := congrArg Flds.r h
    have ht := congrArg Flds.t h
    have hm := congrArg Flds.imm h
    clear h
    dsimp only at hd hr ht hm
    have ed0 : bt f.d 0 = b 7 := bt_at (A := 0) (C := 1 * b 8 + 2 * b 9 + 4) 0 (by decide) (by decide : pw 0 = 1) (by omega) (by omega) (by omega) B7
    have ed1 : bt f.d 1 = b 8 := bt_at (A := 1 * b 7) (C := 1 * b 9 + 2) 1 (by decide) (by decide : pw 1 = 2) (by omega) (by omega) (by omega) B8
    have ed2 : bt f.d 2 = b 9 := bt_at (A := 1 * b 7 + 2 * b 8) (C := 1) 2 (by decide) (by decide : pw 2 = 4) (by omega) (by omega) (by omega) B9
    have et0 : bt f.t 0 = b 2 := bt_at (A := 0) (C := 1 * b 3 + 2 * b 4 + 4) 0 (by decide) (by decide : pw 0 = 1) (by omega) (by omega) (by omega) B2
    have et1 : bt f.t 1 = b 3 := bt_at (A := 1 * b 2) (C := 1 * b 4 + 2) 1 (by decide) (by decide : pw 1 = 2) (by omega) (by omega) (by omega) B3
    have et2 : bt f.t 2 = b 4 := bt_at (A := 1 * b 2 + 2 * b 3) (C := 1) 2 (by decide) (by decide : pw 2 = 4) (by omega) (by omega) (by omega) B4
    constructor
    · simp [parS, shortR, shortL, fill, fbit, cnt, ed0, ed1, ed2, et0, et1, et2] <;> omega
    · show legalR 33 _ _ _ _ = true
      simp [legalR, bitsL, tabL, regB, kind, kindC, fitsB, hi, hiTo, hasB] <;> omega
end Hm
