/-
  The plain functions that package code's functions come to. Nothing of the dump is imported.
-/
import Derived.Test.YtkjkddcgigbglaaDoorT
set_option linter.unusedVariables false
set_option linter.unusedSimpArgs false
namespace Hm
def fmtL : List Int := [0, 6, 6, 7, 2, 5, 5, 5, 5, 5, 5, 2, 2, 2, 2, 2, 4, 4, 4, 2, 2, 2, 2, 2, 2, 3, 3, 3, 1, 1, 1, 1, 1, 1, 1, 1, 1, 1, 1, 1, 1, 1, 1, 1, 1, 1, 9, 8, 8]
def bitL : List Int := [0, 55, 23, 111, 103, 99, 4195, 16483, 20579, 24675, 28771, 3, 4099, 8195, 16387, 20483, 35, 4131, 8227, 19, 8211, 12307, 16403, 24595, 28691, 4115, 20499, 1073762323, 51, 1073741875, 4147, 8243, 12339, 16435, 20531, 1073762355, 24627, 28723, 33554483, 33558579, 33562675, 33566771, 33570867, 33574963, 33579059, 33583155, 15, 115, 1048691]
def fmtT (k : Nat) : Int := fmtL.getD k 0
def bitT (k : Nat) : Int := bitL.getD k 0
def fmtOf (op : Int) : Int := if 1 ≤ op ∧ op ≤ 48 then fmtT op.toNat else 0
def bitOf (op : Int) : Int := if 1 ≤ op ∧ op ≤ 48 then bitT op.toNat else 0

structure Lay where
  rd : Bool
  rs1 : Bool
  rs2 : Bool
  least : Int
  most : Int
  even : Bool
  f0 : Int
  c0 : Int
  a0 : Int
  f1 : Int
  c1 : Int
  a1 : Int
  f2 : Int
  c2 : Int
  a2 : Int
  f3 : Int
  c3 : Int
  a3 : Int
def layR : Lay := ⟨true, true, true, 0, 0, false, 0, 0, 0, 0, 0, 0, 0, 0, 0, 0, 0, 0⟩
def layI : Lay := ⟨true, true, false, -2048, 2047, false, 0, 12, 20, 0, 0, 0, 0, 0, 0, 0, 0, 0⟩
def layH : Lay := ⟨true, true, false, 0, 31, false, 0, 5, 20, 0, 0, 0, 0, 0, 0, 0, 0, 0⟩
def layS : Lay := ⟨false, true, true, -2048, 2047, false, 5, 7, 25, 0, 5, 7, 0, 0, 0, 0, 0, 0⟩
def layB : Lay := ⟨false, true, true, -4096, 4094, true, 12, 1, 31, 5, 6, 25, 1, 4, 8, 11, 1, 7⟩
def layU : Lay := ⟨true, false, false, 0, 1048575, false, 0, 20, 12, 0, 0, 0, 0, 0, 0, 0, 0, 0⟩
def layJ : Lay := ⟨true, false, false, -1048576, 1048574, true, 20, 1, 31, 1, 10, 21, 11, 1, 20, 12, 8, 12⟩
def layN : Lay := ⟨false, false, false, 0, 0, false, 0, 0, 0, 0, 0, 0, 0, 0, 0, 0, 0, 0⟩
def lay (f : Int) : Lay := if f = 1 then layR else if f = 2 then layI else if f = 3 then layH else if f = 4 then layS else if f = 5 then layB else if f = 6 then layU else if f = 7 then layJ else layN

def fitsC (n : Int) (u : Bool) : Bool := if u then decide (0 ≤ n ∧ n < 32) else decide (n = 0)
def holdsC (least most : Int) (even : Bool) (n : Int) : Bool := decide (least ≤ n ∧ n ≤ most ∧ ¬ (even = true ∧ n % 2 ≠ 0))
def legalC (op rd rs1 rs2 imm : Int) : Bool :=
  if fmtOf op = 0 then false
  else fitsC rd (lay (fmtOf op)).rd && fitsC rs1 (lay (fmtOf op)).rs1 && fitsC rs2 (lay (fmtOf op)).rs2 && holdsC (lay (fmtOf op)).least (lay (fmtOf op)).most (lay (fmtOf op)).even imm

def tellC (f : Int) : Int := if f = 6 ∨ f = 7 then 127 else if f = 2 ∨ f = 4 ∨ f = 5 ∨ f = 9 then 28799 else if f = 1 ∨ f = 3 then 4261441663 else 4294967295
/-- The bits of x from f on, c of them, put at a. -/
def putC (f c a x : Int) : Int := x / pw f.toNat % pw c.toNat * pw a.toNat % 4294967296
def sgnC (least most n : Int) : Int := if most < n then n + 2 * least else n
def regC (x : Int) (u : Bool) : Int := if u then x % 32 else 0
theorem fmt_bd (op : Int) : 0 ≤ fmtOf op ∧ fmtOf op ≤ 9 := by
  unfold fmtOf
  split
  · rename_i h
    have : ∀ j : Fin 49, 0 ≤ fmtT j ∧ fmtT j ≤ 9 := by decide +kernel
    exact this ⟨op.toNat, by omega⟩
  · decide
theorem bit_bd (op : Int) : 0 ≤ bitOf op ∧ bitOf op < 4294967296 := by
  unfold bitOf
  split
  · rename_i h
    have : ∀ j : Fin 49, 0 ≤ bitT j ∧ bitT j < 4294967296 := by decide +kernel
    exact this ⟨op.toNat, by omega⟩
  · decide
/-- What the walks ask of a layout's numbers. -/
structure LayOk (L : Lay) : Prop where
  f0 : 0 ≤ L.f0 ∧ L.f0 ≤ 31
  c0 : 0 ≤ L.c0 ∧ L.c0 ≤ 31
  a0 : 0 ≤ L.a0 ∧ L.a0 ≤ 31
  f1 : 0 ≤ L.f1 ∧ L.f1 ≤ 31
  c1 : 0 ≤ L.c1 ∧ L.c1 ≤ 31
  a1 : 0 ≤ L.a1 ∧ L.a1 ≤ 31
  f2 : 0 ≤ L.f2 ∧ L.f2 ≤ 31
  c2 : 0 ≤ L.c2 ∧ L.c2 ≤ 31
  a2 : 0 ≤ L.a2 ∧ L.a2 ≤ 31
  f3 : 0 ≤ L.f3 ∧ L.f3 ≤ 31
  c3 : 0 ≤ L.c3 ∧ L.c3 ≤ 31
  a3 : 0 ≤ L.a3 ∧ L.a3 ≤ 31
  least : -1048576 ≤ L.least ∧ L.least ≤ 0
  most : 0 ≤ L.most ∧ L.most ≤ 1048575
theorem lay_ok (f : Int) : LayOk (lay f) := by
  unfold lay
  repeat' split
  all_goals constructor <;> decide
end Hm
