/-
  The plain functions that package code's Encode comes to.
-/
import Derived.Test.YtkjkddcgigbglaaDoorZ1
set_option linter.unusedVariables false
set_option linter.unusedSimpArgs false
namespace Hm
def orI (a b : Int) : Int := ((a.toNat ||| b.toNat : Nat) : Int)
def U32 (a : Int) : Prop := 0 ≤ a ∧ a < 4294967296
theorem orI_u32 {a b : Int} (ha : U32 a) (hb : U32 b) : U32 (orI a b) := by
  have h1 : a.toNat < 2 ^ 32 := by have := ha.2; have := ha.1; omega
  have h2 : b.toNat < 2 ^ 32 := by have := hb.2; have := hb.1; omega
  have := Nat.or_lt_two_pow h1 h2
  unfold orI U32
  omega
theorem putC_u32 (f c a x : Int) : U32 (putC f c a x) := by unfold putC U32; omega
/-- What stands in the 32 bits before Imm's pieces are put. -/
def enc0 (op rd rs1 rs2 : Int) : Int := orI (orI (orI (bitOf op) (rd * 128)) (rs1 * 32768)) (rs2 * 1048576)
/-- .. behind so many pieces. -/
def encA (L : Lay) (e x : Int) : Nat → Int
  | 0 => e
  | 1 => orI e (putC L.f0 L.c0 L.a0 x)
  | 2 => orI (orI e (putC L.f0 L.c0 L.a0 x)) (putC L.f1 L.c1 L.a1 x)
  | 3 => orI (orI (orI e (putC L.f0 L.c0 L.a0 x)) (putC L.f1 L.c1 L.a1 x)) (putC L.f2 L.c2 L.a2 x)
  | _ => orI (orI (orI (orI e (putC L.f0 L.c0 L.a0 x)) (putC L.f1 L.c1 L.a1 x)) (putC L.f2 L.c2 L.a2 x)) (putC L.f3 L.c3 L.a3 x)
theorem encA_u32 {L : Lay} {e x : Int} (he : U32 e) (j : Nat) : U32 (encA L e x j) := by
  have p0 := putC_u32 L.f0 L.c0 L.a0 x
  have p1 := putC_u32 L.f1 L.c1 L.a1 x
  have p2 := putC_u32 L.f2 L.c2 L.a2 x
  have p3 := putC_u32 L.f3 L.c3 L.a3 x
  match j with
  | 0 => exact he
  | 1 => exact orI_u32 he p0
  | 2 => exact orI_u32 (orI_u32 he p0) p1
  | 3 => exact orI_u32 (orI_u32 (orI_u32 he p0) p1) p2
  | j + 4 => exact orI_u32 (orI_u32 (orI_u32 (orI_u32 he p0) p1) p2) p3
def encC (op rd rs1 rs2 imm : Int) : Int := if legalC op rd rs1 rs2 imm then encA (lay (fmtOf op)) (enc0 op rd rs1 rs2) (imm % 4294967296) 4 else 0
def errC (op rd rs1 rs2 imm : Int) : Int := if legalC op rd rs1 rs2 imm then 0 else 1

theorem fitsC_bd {n : Int} {u : Bool} (h : fitsC n u = true) : 0 ≤ n ∧ n ≤ 31 := by
  cases u <;> simp [fitsC] at h <;> omega
theorem holdsC_bd {l m n : Int} {v : Bool} (h : holdsC l m v n = true) : l ≤ n ∧ n ≤ m := by
  simp [holdsC] at h; omega
structure LegalBd (op rd rs1 rs2 imm : Int) : Prop where
  f : 1 ≤ fmtOf op
  d : 0 ≤ rd ∧ rd ≤ 31
  r : 0 ≤ rs1 ∧ rs1 ≤ 31
  t : 0 ≤ rs2 ∧ rs2 ≤ 31
  i : -1048576 ≤ imm ∧ imm ≤ 1048575
theorem legal_bd {op rd rs1 rs2 imm : Int} (h : legalC op rd rs1 rs2 imm = true) : LegalBd op rd rs1 rs2 imm := by
  unfold legalC at h
  split at h
  · cases h
  · rename_i hf
    simp only [Bool.and_eq_true] at h
    obtain ⟨⟨⟨h1, h2⟩, h3⟩, h4⟩ := h
    have hb := fmt_bd op
    have hL := lay_ok (fmtOf op)
    have h5 := holdsC_bd h4
    have := hL.least
    have := hL.most
    exact ⟨by omega, fitsC_bd h1, fitsC_bd h2, fitsC_bd h3, by omega⟩
end Hm
