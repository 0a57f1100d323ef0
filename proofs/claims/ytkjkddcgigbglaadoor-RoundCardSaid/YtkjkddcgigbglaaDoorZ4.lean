/-
  The plain mathematics: the fields that package code reads are the document's.
-/
import Derived.Test.YtkjkddcgigbglaaDoorZ3
set_option linter.unusedVariables false
set_option linter.unusedSimpArgs false
namespace Hm

def stripC (c : UInt8) : UInt8 := if (c.toNat : Int) = 100 ∨ (c.toNat : Int) = 115 ∨ (c.toNat : Int) = 116 ∨ (65 ≤ (c.toNat : Int) ∧ (c.toNat : Int) ≤ 85) then c else 45
theorem rstep_strip (f : Flds) (c : UInt8) (b : Int) : rstep f (stripC c) b = rstep f c b := by
  unfold stripC
  split
  · rfl
  · rename_i h
    unfold rstep
    rw [if_neg (by decide), if_neg (by decide), if_neg (by decide), if_neg (by decide), if_neg (by omega), if_neg (by omega), if_neg (by omega), if_neg (by omega)]
theorem foldF_strip (x : Int) : ∀ (l : List UInt8) (f : Flds), foldF x (l.map stripC) f = foldF x l f
  | [], f => rfl
  | c :: l, f => by
    rw [List.map_cons, foldF, foldF, rstep_strip, List.length_map, foldF_strip x l]

def patR : List UInt8 := [45, 45, 45, 45, 45, 45, 45, 116, 116, 116, 116, 116, 115, 115, 115, 115, 115, 45, 45, 45, 100, 100, 100, 100, 100, 45, 45, 45, 45, 45, 45, 45]
def patI : List UInt8 := [76, 75, 74, 73, 72, 71, 70, 69, 68, 67, 66, 65, 115, 115, 115, 115, 115, 45, 45, 45, 100, 100, 100, 100, 100, 45, 45, 45, 45, 45, 45, 45]
def patH : List UInt8 := [45, 45, 45, 45, 45, 45, 45, 69, 68, 67, 66, 65, 115, 115, 115, 115, 115, 45, 45, 45, 100, 100, 100, 100, 100, 45, 45, 45, 45, 45, 45, 45]
def patS : List UInt8 := [76, 75, 74, 73, 72, 71, 70, 116, 116, 116, 116, 116, 115, 115, 115, 115, 115, 45, 45, 45, 69, 68, 67, 66, 65, 45, 45, 45, 45, 45, 45, 45]
def patB : List UInt8 := [77, 75, 74, 73, 72, 71, 70, 116, 116, 116, 116, 116, 115, 115, 115, 115, 115, 45, 45, 45, 69, 68, 67, 66, 76, 45, 45, 45, 45, 45, 45, 45]
def patU : List UInt8 := [84, 83, 82, 81, 80, 79, 78, 77, 76, 75, 74, 73, 72, 71, 70, 69, 68, 67, 66, 65, 100, 100, 100, 100, 100, 45, 45, 45, 45, 45, 45, 45]
def patJ : List UInt8 := [85, 75, 74, 73, 72, 71, 70, 69, 68, 67, 66, 76, 84, 83, 82, 81, 80, 79, 78, 77, 100, 100, 100, 100, 100, 45, 45, 45, 45, 45, 45, 45]
def patN : List UInt8 := [45, 45, 45, 45, 45, 45, 45, 45, 45, 45, 45, 45, 45, 45, 45, 45, 45, 45, 45, 45, 45, 45, 45, 45, 45, 45, 45, 45, 45, 45, 45, 45]
def patF (f : Int) : List UInt8 := if f = 1 then patR else if f = 2 then patI else if f = 3 then patH else if f = 4 then patS else if f = 5 then patB else if f = 6 then patU else if f = 7 then patJ else patN
theorem strip_all {k : Nat} (h0 : 1 ≤ k) (h1 : k ≤ 48) : (bitsL k).map stripC = patF (fmtT k) := by
  have : ∀ j : Fin 49, j.val = 0 ∨ (bitsL j).map stripC = patF (fmtT j) := by decide +kernel
  rcases this ⟨k, by omega⟩ with h | h
  · simp at h; omega
  · exact h

/-- The number that n bits from lo on are. -/
def sbx (x : Int) (lo : Nat) : Nat → Int
  | 0 => 0
  | n + 1 => sbx x lo n + bt x (lo + n) * pw n
theorem pw_add (a b : Nat) : pw (a + b) = pw a * pw b := by unfold pw; exact Int.pow_add 2 a b
theorem sbx_eq (x : Int) (lo : Nat) : ∀ n, sbx x lo n = x % 4294967296 / pw lo % pw n
  | 0 => by simp [sbx, pw]
  | n + 1 => by
    rw [sbx, sbx_eq x lo n]
    unfold bt
    generalize x % 4294967296 = y
    have hl := pw_pos lo
    have hn := pw_pos n
    rw [pw_add, ← Int.ediv_ediv_of_nonneg (by omega)]
    generalize y / pw lo = q
    rw [pw_succ]
    generalize hP : pw n = P at *
    have h1 := Int.emod_add_mul_ediv q P
    have h2 := Int.emod_add_mul_ediv q (2 * P)
    have h3 : q / (2 * P) = q / P / 2 := by rw [Int.mul_comm, Int.ediv_ediv_of_nonneg (by omega)]
    have h4 := Int.emod_add_mul_ediv (q / P) 2
    rw [h3] at h2
    generalize q / P = s at *
    generalize s / 2 = t at *
    generalize s % 2 = b at *
    have e1 : P * s = P * b + 2 * (P * t) := by rw [← h4, Int.mul_add, ← Int.mul_assoc, Int.mul_comm P 2, Int.mul_assoc]
    have e2 : 2 * P * t = 2 * (P * t) := Int.mul_assoc 2 P t
    have e3 : b * P = P * b := Int.mul_comm b P
    rw [e1] at h1
    rw [e2] at h2
    rw [e3]
    omega

theorem pw0 : pw 0 = 1 := by decide
theorem pw1 : pw 1 = 2 := by decide
theorem pw2 : pw 2 = 4 := by decide
theorem pw3 : pw 3 = 8 := by decide
theorem pw4 : pw 4 = 16 := by decide
theorem pw5 : pw 5 = 32 := by decide
theorem pw6 : pw 6 = 64 := by decide
theorem pw7 : pw 7 = 128 := by decide
theorem pw8 : pw 8 = 256 := by decide
theorem pw9 : pw 9 = 512 := by decide
theorem pw10 : pw 10 = 1024 := by decide
theorem pw11 : pw 11 = 2048 := by decide
theorem pw12 : pw 12 = 4096 := by decide
theorem pw13 : pw 13 = 8192 := by decide
theorem pw14 : pw 14 = 16384 := by decide
theorem pw15 : pw 15 = 32768 := by decide
theorem pw16 : pw 16 = 65536 := by decide
theorem pw17 : pw 17 = 131072 := by decide
theorem pw18 : pw 18 = 262144 := by decide
theorem pw19 : pw 19 = 524288 := by decide
theorem pw20 : pw 20 = 1048576 := by decide
set_option maxRecDepth 10000 in
theorem foldR (x : Int) : foldF x patR ⟨0, 0, 0, 0⟩ = ⟨sbx x 7 5, sbx x 15 5, sbx x 20 5, 0⟩ := by
  simp [patR, foldF, rstep, sbx, pw0, pw1, pw2, pw3, pw4, pw5, pw6, pw7, pw8, pw9, pw10, pw11, pw12, pw13, pw14, pw15, pw16, pw17, pw18, pw19, pw20]
  omega
set_option maxRecDepth 10000 in
theorem foldI (x : Int) : foldF x patI ⟨0, 0, 0, 0⟩ = ⟨sbx x 7 5, sbx x 15 5, 0, sbx x 20 12⟩ := by
  simp [patI, foldF, rstep, sbx, pw0, pw1, pw2, pw3, pw4, pw5, pw6, pw7, pw8, pw9, pw10, pw11, pw12, pw13, pw14, pw15, pw16, pw17, pw18, pw19, pw20]
  omega
set_option maxRecDepth 10000 in
theorem foldH (x : Int) : foldF x patH ⟨0, 0, 0, 0⟩ = ⟨sbx x 7 5, sbx x 15 5, 0, sbx x 20 5⟩ := by
  simp [patH, foldF, rstep, sbx, pw0, pw1, pw2, pw3, pw4, pw5, pw6, pw7, pw8, pw9, pw10, pw11, pw12, pw13, pw14, pw15, pw16, pw17, pw18, pw19, pw20]
  omega
set_option maxRecDepth 10000 in
theorem foldS (x : Int) : foldF x patS ⟨0, 0, 0, 0⟩ = ⟨0, sbx x 15 5, sbx x 20 5, sbx x 25 7 * 32 + sbx x 7 5⟩ := by
  simp [patS, foldF, rstep, sbx, pw0, pw1, pw2, pw3, pw4, pw5, pw6, pw7, pw8, pw9, pw10, pw11, pw12, pw13, pw14, pw15, pw16, pw17, pw18, pw19, pw20]
  omega
set_option maxRecDepth 10000 in
theorem foldB (x : Int) : foldF x patB ⟨0, 0, 0, 0⟩ = ⟨0, sbx x 15 5, sbx x 20 5, sbx x 31 1 * 4096 + sbx x 25 6 * 32 + sbx x 8 4 * 2 + sbx x 7 1 * 2048⟩ := by
  simp [patB, foldF, rstep, sbx, pw0, pw1, pw2, pw3, pw4, pw5, pw6, pw7, pw8, pw9, pw10, pw11, pw12, pw13, pw14, pw15, pw16, pw17, pw18, pw19, pw20]
  omega
set_option maxRecDepth 10000 in
theorem foldU (x : Int) : foldF x patU ⟨0, 0, 0, 0⟩ = ⟨sbx x 7 5, 0, 0, sbx x 12 20⟩ := by
  simp [patU, foldF, rstep, sbx, pw0, pw1, pw2, pw3, pw4, pw5, pw6, pw7, pw8, pw9, pw10, pw11, pw12, pw13, pw14, pw15, pw16, pw17, pw18, pw19, pw20]
  omega
set_option maxRecDepth 10000 in
theorem foldJ (x : Int) : foldF x patJ ⟨0, 0, 0, 0⟩ = ⟨sbx x 7 5, 0, 0, sbx x 31 1 * 1048576 + sbx x 21 10 * 2 + sbx x 20 1 * 2048 + sbx x 12 8 * 4096⟩ := by
  simp [patJ, foldF, rstep, sbx, pw0, pw1, pw2, pw3, pw4, pw5, pw6, pw7, pw8, pw9, pw10, pw11, pw12, pw13, pw14, pw15, pw16, pw17, pw18, pw19, pw20]
  omega
set_option maxRecDepth 10000 in
theorem foldN (x : Int) : foldF x patN ⟨0, 0, 0, 0⟩ = ⟨0, 0, 0, 0⟩ := by
  simp [patN, foldF, rstep, sbx, pw0, pw1, pw2, pw3, pw4, pw5, pw6, pw7, pw8, pw9, pw10, pw11, pw12, pw13, pw14, pw15, pw16, pw17, pw18, pw19, pw20]
end Hm
