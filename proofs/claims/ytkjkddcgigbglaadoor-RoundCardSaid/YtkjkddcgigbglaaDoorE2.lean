/-
  The plain functions that package code's Decode comes to.
-/
import Derived.Test.YtkjkddcgigbglaaDoorE
set_option linter.unusedVariables false
set_option linter.unusedSimpArgs false
namespace Hm
/-- Imm's bits out of x, behind so many pieces. -/
def immA (L : Lay) (x : Int) : Nat → Int
  | 0 => 0
  | 1 => orI 0 (putC L.a0 L.c0 L.f0 x)
  | 2 => orI (orI 0 (putC L.a0 L.c0 L.f0 x)) (putC L.a1 L.c1 L.f1 x)
  | 3 => orI (orI (orI 0 (putC L.a0 L.c0 L.f0 x)) (putC L.a1 L.c1 L.f1 x)) (putC L.a2 L.c2 L.f2 x)
  | _ => orI (orI (orI (orI 0 (putC L.a0 L.c0 L.f0 x)) (putC L.a1 L.c1 L.f1 x)) (putC L.a2 L.c2 L.f2 x)) (putC L.a3 L.c3 L.f3 x)
theorem immA_u32 {L : Lay} {x : Int} (j : Nat) : U32 (immA L x j) := by
  have he : U32 0 := ⟨by decide, by decide⟩
  have p0 := putC_u32 L.a0 L.c0 L.f0 x
  have p1 := putC_u32 L.a1 L.c1 L.f1 x
  have p2 := putC_u32 L.a2 L.c2 L.f2 x
  have p3 := putC_u32 L.a3 L.c3 L.f3 x
  match j with
  | 0 => exact he
  | 1 => exact orI_u32 he p0
  | 2 => exact orI_u32 (orI_u32 he p0) p1
  | 3 => exact orI_u32 (orI_u32 (orI_u32 he p0) p1) p2
  | j + 4 => exact orI_u32 (orI_u32 (orI_u32 (orI_u32 he p0) p1) p2) p3
def immC (L : Lay) (x : Int) : Int := sgnC L.least L.most (immA L x 4)
def fldC (L : Lay) (x : Int) : Flds := ⟨regC (x / 128) L.rd, regC (x / 32768) L.rs1, regC (x / 1048576) L.rs2, immC L x⟩
def andI (a b : Int) : Int := ((a.toNat &&& b.toNat : Nat) : Int)
def matchC (x : Int) (k : Nat) : Bool := andI x (tellC (fmtT k)) == bitT k
def decCFrom (x : Int) : Nat → Nat → Dec
  | 0, _ => ⟨0, ⟨0, 0, 0, 0⟩, 2⟩
  | n + 1, k => if matchC x k then ⟨k, fldC (lay (fmtT k)) x, 0⟩ else decCFrom x n (k + 1)
def decC (x : Int) : Dec := decCFrom x 48 1
theorem decCFrom_no {x : Int} {n k : Nat} (h : matchC x k = false) : decCFrom x (n + 1) k = decCFrom x n (k + 1) := by
  rw [decCFrom, h]; rfl
theorem decCFrom_yes {x : Int} {n k : Nat} (h : matchC x k = true) : decCFrom x (n + 1) k = ⟨k, fldC (lay (fmtT k)) x, 0⟩ := by
  rw [decCFrom, h]; rfl
end Hm
