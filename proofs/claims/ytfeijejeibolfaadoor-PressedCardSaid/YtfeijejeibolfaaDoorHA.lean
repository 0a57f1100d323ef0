/-
  Z4 Z5 I1 Z6 Z7 Z8 RA in one text.
-/
import Derived.Test.YtfeijejeibolfaaDoorGD
import Derived.Test.YtfeijejeibolfaaDoorGA
import Derived.Test.YtfeijejeibolfaaDoorGG
set_option linter.unusedVariables false
set_option linter.unusedSimpArgs false
/-
  The plain mathematics: the fields that package code reads are the document's.
-/
namespace Hm

def stripC (c : UInt8) : UInt8 := if (c.toNat : Int) = 100 ∨ (c.toNat : Int) = 115 ∨ (c.toNat : Int) = 116 ∨ (65 ≤ (c.toNat : Int) ∧ (c.toNat : Int) ≤ 85) then c else 45
theorem rstep_strip (f : Flds) (c : UInt8) (b : Int) : rstep f (stripC c) b = rstep f c b := by
  unfold stripC
  split
  · rfl
  · rename_i h
    unfold rstep
    rw [if_neg (by decide), if_neg (by decide), if_neg (by decide), if_neg (by decide), if_neg (by omega), if_neg (by omega), if_neg (by omega), if_neg (by omega)]
theorem foldF_strip (x : Int) : ∀ (l : List UInt8) (f : Flds), foldF x (l.map stripC) f = foldF x l f
  | [], f => rfl
  | c :: l, f => by
    rw [List.map_cons, foldF, foldF, rstep_strip, List.length_map, foldF_strip x l]

def patR : List UInt8 := [45, 45, 45, 45, 45, 45, 45, 116, 116, 116, 116, 116, 115, 115, 115, 115, 115, 45, 45, 45, 100, 100, 100, 100, 100, 45, 45, 45, 45, 45, 45, 45]
def patI : List UInt8 := [76, 75, 74, 73, 72, 71, 70, 69, 68, 67, 66, 65, 115, 115, 115, 115, 115, 45, 45, 45, 100, 100, 100, 100, 100, 45, 45, 45, 45, 45, 45, 45]
def patH : List UInt8 := [45, 45, 45, 45, 45, 45, 45, 69, 68, 67, 66, 65, 115, 115, 115, 115, 115, 45, 45, 45, 100, 100, 100, 100, 100, 45, 45, 45, 45, 45, 45, 45]
def patS : List UInt8 := [76, 75, 74, 73, 72, 71, 70, 116, 116, 116, 116, 116, 115, 115, 115, 115, 115, 45, 45, 45, 69, 68, 67, 66, 65, 45, 45, 45, 45, 45, 45, 45]
def patB : List UInt8 := [77, 75, 74, 73, 72, 71, 70, 116, 116, 116, 116, 116, 115, 115, 115, 115, 115, 45, 45, 45, 69, 68, 67, 66, 76, 45, 45, 45, 45, 45, 45, 45]
def patU : List UInt8 := [84, 83, 82, 81, 80, 79, 78, 77, 76, 75, 74, 73, 72, 71, 70, 69, 68, 67, 66, 65, 100, 100, 100, 100, 100, 45, 45, 45, 45, 45, 45, 45]
def patJ : List UInt8 := [85, 75, 74, 73, 72, 71, 70, 69, 68, 67, 66, 76, 84, 83, 82, 81, 80, 79, 78, 77, 100, 100, 100, 100, 100, 45, 45, 45, 45, 45, 45, 45]
def patN : List UInt8 := [45, 45, 45, 45, 45, 45, 45, 45, 45, 45, 45, 45, 45, 45, 45, 45, 45, 45, 45, 45, 45, 45, 45, 45, 45, 45, 45, 45, 45, 45, 45, 45]
def patF (f : Int) : List UInt8 := if f = 1 then patR else if f = 2 then patI else if f = 3 then patH else if f = 4 then patS else if f = 5 then patB else if f = 6 then patU else if f = 7 then patJ else patN
theorem strip_all {k : Nat} (h0 : 1 ≤ k) (h1 : k ≤ 48) : (bitsL k).map stripC = patF (fmtT k) := by
  have : ∀ j : Fin 49, j.val = 0 ∨ (bitsL j).map stripC = patF (fmtT j) := by decide +kernel
  rcases this ⟨k, by omega⟩ with h | h
  · simp at h; omega
  · exact h

/-- The number that n bits from lo on are. -/
def sbx (x : Int) (lo : Nat) : Nat → Int
  | 0 => 0
  | n + 1 => sbx x lo n + bt x (lo + n) * pw n
theorem pw_add (a b : Nat) : pw (a + b) = pw a * pw b := by unfold pw; exact Int.pow_add 2 a b
theorem sbx_eq (x : Int) (lo : Nat) : ∀ n, sbx x lo n = x % 4294967296 / pw lo % pw n
  | 0 => by simp [sbx, pw]
  | n + 1 => by
    rw [sbx, sbx_eq x lo n]
    unfold bt
    generalize x % 4294967296 = y
    have hl := pw_pos lo
    have hn := pw_pos n
    rw [pw_add, ← Int.ediv_ediv_of_nonneg (by omega)]
    generalize y / pw lo = q
    rw [pw_succ]
    generalize hP : pw n = P at *
    have h1 := Int.emod_add_mul_ediv q P
    have h2 := Int.emod_add_mul_ediv q (2 * P)
    have h3 : q / (2 * P) = q / P / 2 := by rw [Int.mul_comm, Int.ediv_ediv_of_nonneg (by omega)]
    have h4 := Int.emod_add_mul_ediv (q / P) 2
    rw [h3] at h2
    generalize q / P = s at *
    generalize s / 2 = t at *
    generalize s % 2 = b at *
    have e1 : P * s = P * b + 2 * (P * t) := by rw [← h4, Int.mul_add, ← Int.mul_assoc, Int.mul_comm P 2, Int.mul_assoc]
    have e2 : 2 * P * t = 2 * (P * t) := Int.mul_assoc 2 P t
    have e3 : b * P = P * b := Int.mul_comm b P
    rw [e1] at h1
    rw [e2] at h2
    rw [e3]
    omega

theorem pw0 : pw 0 = 1 := by decide
theorem pw1 : pw 1 = 2 := by decide
theorem pw2 : pw 2 = 4 := by decide
theorem pw3 : pw 3 = 8 := by decide
theorem pw4 : pw 4 = 16 := by decide
theorem pw5 : pw 5 = 32 := by decide
theorem pw6 : pw 6 = 64 := by decide
theorem pw7 : pw 7 = 128 := by decide
theorem pw8 : pw 8 = 256 := by decide
theorem pw9 : pw 9 = 512 := by decide
theorem pw10 : pw 10 = 1024 := by decide
theorem pw11 : pw 11 = 2048 := by decide
theorem pw12 : pw 12 = 4096 := by decide
theorem pw13 : pw 13 = 8192 := by decide
theorem pw14 : pw 14 = 16384 := by decide
theorem pw15 : pw 15 = 32768 := by decide
theorem pw16 : pw 16 = 65536 := by decide
theorem pw17 : pw 17 = 131072 := by decide
theorem pw18 : pw 18 = 262144 := by decide
theorem pw19 : pw 19 = 524288 := by decide
theorem pw20 : pw 20 = 1048576 := by decide
set_option maxRecDepth 10000 in
theorem foldR (x : Int) : foldF x patR ⟨0, 0, 0, 0⟩ = ⟨sbx x 7 5, sbx x 15 5, sbx x 20 5, 0⟩ := by
  simp [patR, foldF, rstep, sbx, pw0, pw1, pw2, pw3, pw4, pw5, pw6, pw7, pw8, pw9, pw10, pw11, pw12, pw13, pw14, pw15, pw16, pw17, pw18, pw19, pw20]
  omega
set_option maxRecDepth 10000 in
theorem foldI (x : Int) : foldF x patI ⟨0, 0, 0, 0⟩ = ⟨sbx x 7 5, sbx x 15 5, 0, sbx x 20 12⟩ := by
  simp [patI, foldF, rstep, sbx, pw0, pw1, pw2, pw3, pw4, pw5, pw6, pw7, pw8, pw9, pw10, pw11, pw12, pw13, pw14, pw15, pw16, pw17, pw18, pw19, pw20]
  omega
set_option maxRecDepth 10000 in
theorem foldH (x : Int) : foldF x patH ⟨0, 0, 0, 0⟩ = ⟨sbx x 7 5, sbx x 15 5, 0, sbx x 20 5⟩ := by
  simp [patH, foldF, rstep, sbx, pw0, pw1, pw2, pw3, pw4, pw5, pw6, pw7, pw8, pw9, pw10, pw11, pw12, pw13, pw14, pw15, pw16, pw17, pw18, pw19, pw20]
  omega
set_option maxRecDepth 10000 in
theorem foldS (x : Int) : foldF x patS ⟨0, 0, 0, 0⟩ = ⟨0, sbx x 15 5, sbx x 20 5, sbx x 25 7 * 32 + sbx x 7 5⟩ := by
  simp [patS, foldF, rstep, sbx, pw0, pw1, pw2, pw3, pw4, pw5, pw6, pw7, pw8, pw9, pw10, pw11, pw12, pw13, pw14, pw15, pw16, pw17, pw18, pw19, pw20]
  omega
set_option maxRecDepth 10000 in
theorem foldB (x : Int) : foldF x patB ⟨0, 0, 0, 0⟩ = ⟨0, sbx x 15 5, sbx x 20 5, sbx x 31 1 * 4096 + sbx x 25 6 * 32 + sbx x 8 4 * 2 + sbx x 7 1 * 2048⟩ := by
  simp [patB, foldF, rstep, sbx, pw0, pw1, pw2, pw3, pw4, pw5, pw6, pw7, pw8, pw9, pw10, pw11, pw12, pw13, pw14, pw15, pw16, pw17, pw18, pw19, pw20]
  omega
set_option maxRecDepth 10000 in
theorem foldU (x : Int) : foldF x patU ⟨0, 0, 0, 0⟩ = ⟨sbx x 7 5, 0, 0, sbx x 12 20⟩ := by
  simp [patU, foldF, rstep, sbx, pw0, pw1, pw2, pw3, pw4, pw5, pw6, pw7, pw8, pw9, pw10, pw11, pw12, pw13, pw14, pw15, pw16, pw17, pw18, pw19, pw20]
  omega
set_option maxRecDepth 10000 in
theorem foldJ (x : Int) : foldF x patJ ⟨0, 0, 0, 0⟩ = ⟨sbx x 7 5, 0, 0, sbx x 31 1 * 1048576 + sbx x 21 10 * 2 + sbx x 20 1 * 2048 + sbx x 12 8 * 4096⟩ := by
  simp [patJ, foldF, rstep, sbx, pw0, pw1, pw2, pw3, pw4, pw5, pw6, pw7, pw8, pw9, pw10, pw11, pw12, pw13, pw14, pw15, pw16, pw17, pw18, pw19, pw20]
  omega
set_option maxRecDepth 10000 in
theorem foldN (x : Int) : foldF x patN ⟨0, 0, 0, 0⟩ = ⟨0, 0, 0, 0⟩ := by
  simp [patN, foldF, rstep, sbx, pw0, pw1, pw2, pw3, pw4, pw5, pw6, pw7, pw8, pw9, pw10, pw11, pw12, pw13, pw14, pw15, pw16, pw17, pw18, pw19, pw20]
end Hm

/-
  The plain mathematics: package code's Decode is the document's, whole.
-/
namespace Hm

theorem orI_rc (a b c : Int) : orI (orI a b) c = orI (orI a c) b := by
  unfold orI
  simp only [Int.toNat_natCast]
  rw [Nat.or_assoc, Nat.or_comm b.toNat, ← Nat.or_assoc]
theorem orI_zl {a : Int} (h : 0 ≤ a) : orI 0 a = a := by
  unfold orI
  rw [show (0 : Int).toNat = 0 from rfl, Nat.zero_or, Int.toNat_of_nonneg h]
theorem orI_zr {a : Int} (h : 0 ≤ a) : orI a 0 = a := by
  unfold orI
  rw [show (0 : Int).toNat = 0 from rfl, Nat.or_zero, Int.toNat_of_nonneg h]
theorem orI_add (i : Nat) {A B q : Int} (hA : A = q * pw i) (hq : 0 ≤ q) (hB0 : 0 ≤ B) (hB1 : B < pw i) : orI A B = A + B := by
  obtain ⟨n, rfl⟩ := Int.eq_ofNat_of_zero_le hq
  obtain ⟨b, rfl⟩ := Int.eq_ofNat_of_zero_le hB0
  have hp : pw i = ((2 ^ i : Nat) : Int) := by unfold pw; simp
  rw [hp] at hA hB1
  have hb : b < 2 ^ i := by exact_mod_cast hB1
  have hA' : A = ((n <<< i : Nat) : Int) := by rw [hA, Nat.shiftLeft_eq]; simp
  unfold orI
  rw [hA', Int.toNat_natCast, Int.toNat_natCast, ← Nat.shiftLeft_add_eq_or_of_lt hb]
  simp

theorem sbx_bd (x : Int) (lo n : Nat) : 0 ≤ sbx x lo n ∧ sbx x lo n < pw n := by
  rw [sbx_eq]
  have := pw_pos n
  exact ⟨Int.emod_nonneg _ (by omega), Int.emod_lt_of_pos _ (by omega)⟩
/-- A piece, where it does not run over. -/
theorem putC_eq (x : Int) (x0 : 0 ≤ x) (x1 : x < 4294967296) (a c f : Nat) (h : c + f ≤ 32) : putC a c f x = sbx x a c * pw f := by
  have e : x % 4294967296 = x := by omega
  unfold putC
  rw [sbx_eq, e, Int.toNat_natCast, Int.toNat_natCast, Int.toNat_natCast]
  have h1 := pw_pos c
  have h2 := pw_pos f
  have h3 : 0 ≤ x / pw a % pw c := Int.emod_nonneg _ (by omega)
  have h4 : x / pw a % pw c < pw c := Int.emod_lt_of_pos _ (by omega)
  have h5 : x / pw a % pw c * pw f < pw c * pw f := Int.mul_lt_mul_of_pos_right h4 (by omega)
  have h6 : pw c * pw f ≤ pw 32 := by rw [← pw_add]; exact pw_mono _ _ h
  have h7 : pw 32 = 4294967296 := by decide
  have h8 : 0 ≤ x / pw a % pw c * pw f := Int.mul_nonneg h3 (by omega)
  exact Int.emod_eq_of_lt h8 (by omega)

theorem immSR (x : Int) (x0 : 0 ≤ x) (x1 : x < 4294967296) : immA layR x 4 = 0 := by
  show orI (orI (orI (orI 0 (putC 0 0 0 x)) (putC 0 0 0 x)) (putC 0 0 0 x)) (putC 0 0 0 x) = _
  have e0_0_0 : putC 0 0 0 x = sbx x 0 0 * pw 0 := putC_eq x x0 x1 0 0 0 (by decide)
  have z : putC 0 0 0 x = 0 := by rw [e0_0_0]; simp [sbx]
  rw [z]; decide
theorem immSI (x : Int) (x0 : 0 ≤ x) (x1 : x < 4294967296) : immA layI x 4 = sbx x 20 12 := by
  show orI (orI (orI (orI 0 (putC 20 12 0 x)) (putC 0 0 0 x)) (putC 0 0 0 x)) (putC 0 0 0 x) = _
  have e0_12_20 : putC 20 12 0 x = sbx x 20 12 * pw 0 := putC_eq x x0 x1 20 12 0 (by decide)
  have e0_0_0 : putC 0 0 0 x = sbx x 0 0 * pw 0 := putC_eq x x0 x1 0 0 0 (by decide)
  have z : putC 0 0 0 x = 0 := by rw [e0_0_0]; simp [sbx]
  have b0_12_20 := sbx_bd x 20 12
  simp only [pw0, pw12] at *
  rw [z, e0_12_20, orI_zl (a := sbx x 20 12 * 1) (by omega), orI_zr (a := sbx x 20 12 * 1) (by omega), orI_zr (a := sbx x 20 12 * 1) (by omega), orI_zr (a := sbx x 20 12 * 1) (by omega)]
  omega
theorem immSH (x : Int) (x0 : 0 ≤ x) (x1 : x < 4294967296) : immA layH x 4 = sbx x 20 5 := by
  show orI (orI (orI (orI 0 (putC 20 5 0 x)) (putC 0 0 0 x)) (putC 0 0 0 x)) (putC 0 0 0 x) = _
  have e0_5_20 : putC 20 5 0 x = sbx x 20 5 * pw 0 := putC_eq x x0 x1 20 5 0 (by decide)
  have e0_0_0 : putC 0 0 0 x = sbx x 0 0 * pw 0 := putC_eq x x0 x1 0 0 0 (by decide)
  have z : putC 0 0 0 x = 0 := by rw [e0_0_0]; simp [sbx]
  have b0_5_20 := sbx_bd x 20 5
  simp only [pw0, pw5] at *
  rw [z, e0_5_20, orI_zl (a := sbx x 20 5 * 1) (by omega), orI_zr (a := sbx x 20 5 * 1) (by omega), orI_zr (a := sbx x 20 5 * 1) (by omega), orI_zr (a := sbx x 20 5 * 1) (by omega)]
  omega
theorem immSS (x : Int) (x0 : 0 ≤ x) (x1 : x < 4294967296) : immA layS x 4 = sbx x 25 7 * 32 + sbx x 7 5 := by
  show orI (orI (orI (orI 0 (putC 25 7 5 x)) (putC 7 5 0 x)) (putC 0 0 0 x)) (putC 0 0 0 x) = _
  have e5_7_25 : putC 25 7 5 x = sbx x 25 7 * pw 5 := putC_eq x x0 x1 25 7 5 (by decide)
  have e0_5_7 : putC 7 5 0 x = sbx x 7 5 * pw 0 := putC_eq x x0 x1 7 5 0 (by decide)
  have e0_0_0 : putC 0 0 0 x = sbx x 0 0 * pw 0 := putC_eq x x0 x1 0 0 0 (by decide)
  have z : putC 0 0 0 x = 0 := by rw [e0_0_0]; simp [sbx]
  have b5_7_25 := sbx_bd x 25 7
  have b0_5_7 := sbx_bd x 7 5
  simp only [pw0, pw5, pw7] at *
  have s1 : orI (sbx x 25 7 * 32) (sbx x 7 5 * 1) = sbx x 25 7 * 32 + sbx x 7 5 * 1 := orI_add 5 (q := sbx x 25 7) (by rw [pw5]) (by omega) (by omega) (by rw [pw5]; omega)
  rw [z, e5_7_25, e0_5_7, orI_zl (a := sbx x 25 7 * 32) (by omega), s1, orI_zr (a := sbx x 25 7 * 32 + sbx x 7 5 * 1) (by omega), orI_zr (a := sbx x 25 7 * 32 + sbx x 7 5 * 1) (by omega)]
  omega
theorem immSB (x : Int) (x0 : 0 ≤ x) (x1 : x < 4294967296) : immA layB x 4 = sbx x 31 1 * 4096 + sbx x 25 6 * 32 + sbx x 8 4 * 2 + sbx x 7 1 * 2048 := by
  show orI (orI (orI (orI 0 (putC 31 1 12 x)) (putC 25 6 5 x)) (putC 8 4 1 x)) (putC 7 1 11 x) = _
  have e12_1_31 : putC 31 1 12 x = sbx x 31 1 * pw 12 := putC_eq x x0 x1 31 1 12 (by decide)
  have e5_6_25 : putC 25 6 5 x = sbx x 25 6 * pw 5 := putC_eq x x0 x1 25 6 5 (by decide)
  have e1_4_8 : putC 8 4 1 x = sbx x 8 4 * pw 1 := putC_eq x x0 x1 8 4 1 (by decide)
  have e11_1_7 : putC 7 1 11 x = sbx x 7 1 * pw 11 := putC_eq x x0 x1 7 1 11 (by decide)
  have b12_1_31 := sbx_bd x 31 1
  have b5_6_25 := sbx_bd x 25 6
  have b1_4_8 := sbx_bd x 8 4
  have b11_1_7 := sbx_bd x 7 1
  simp only [pw1, pw4, pw5, pw6, pw11, pw12] at *
  have s1 : orI (sbx x 31 1 * 4096) (sbx x 7 1 * 2048) = sbx x 31 1 * 4096 + sbx x 7 1 * 2048 := orI_add 12 (q := sbx x 31 1) (by rw [pw12]) (by omega) (by omega) (by rw [pw12]; omega)
  have s2 : orI (sbx x 31 1 * 4096 + sbx x 7 1 * 2048) (sbx x 25 6 * 32) = sbx x 31 1 * 4096 + sbx x 7 1 * 2048 + sbx x 25 6 * 32 := orI_add 11 (q := sbx x 31 1 * 2 + sbx x 7 1) (by rw [pw11]; omega) (by omega) (by omega) (by rw [pw11]; omega)
  have s3 : orI (sbx x 31 1 * 4096 + sbx x 7 1 * 2048 + sbx x 25 6 * 32) (sbx x 8 4 * 2) = sbx x 31 1 * 4096 + sbx x 7 1 * 2048 + sbx x 25 6 * 32 + sbx x 8 4 * 2 := orI_add 5 (q := sbx x 31 1 * 128 + sbx x 7 1 * 64 + sbx x 25 6) (by rw [pw5]; omega) (by omega) (by omega) (by rw [pw5]; omega)
  rw [e12_1_31, e5_6_25, e1_4_8, e11_1_7, orI_zl (a := sbx x 31 1 * 4096) (by omega), orI_rc (orI (sbx x 31 1 * 4096) (sbx x 25 6 * 32)) (sbx x 8 4 * 2) (sbx x 7 1 * 2048), orI_rc (sbx x 31 1 * 4096) (sbx x 25 6 * 32) (sbx x 7 1 * 2048), s1, s2, s3]
  omega
theorem immSU (x : Int) (x0 : 0 ≤ x) (x1 : x < 4294967296) : immA layU x 4 = sbx x 12 20 := by
  show orI (orI (orI (orI 0 (putC 12 20 0 x)) (putC 0 0 0 x)) (putC 0 0 0 x)) (putC 0 0 0 x) = _
  have e0_20_12 : putC 12 20 0 x = sbx x 12 20 * pw 0 := putC_eq x x0 x1 12 20 0 (by decide)
  have e0_0_0 : putC 0 0 0 x = sbx x 0 0 * pw 0 := putC_eq x x0 x1 0 0 0 (by decide)
  have z : putC 0 0 0 x = 0 := by rw [e0_0_0]; simp [sbx]
  have b0_20_12 := sbx_bd x 12 20
  simp only [pw0, pw20] at *
  rw [z, e0_20_12, orI_zl (a := sbx x 12 20 * 1) (by omega), orI_zr (a := sbx x 12 20 * 1) (by omega), orI_zr (a := sbx x 12 20 * 1) (by omega), orI_zr (a := sbx x 12 20 * 1) (by omega)]
  omega
theorem immSJ (x : Int) (x0 : 0 ≤ x) (x1 : x < 4294967296) : immA layJ x 4 = sbx x 31 1 * 1048576 + sbx x 21 10 * 2 + sbx x 20 1 * 2048 + sbx x 12 8 * 4096 := by
  show orI (orI (orI (orI 0 (putC 31 1 20 x)) (putC 21 10 1 x)) (putC 20 1 11 x)) (putC 12 8 12 x) = _
  have e20_1_31 : putC 31 1 20 x = sbx x 31 1 * pw 20 := putC_eq x x0 x1 31 1 20 (by decide)
  have e1_10_21 : putC 21 10 1 x = sbx x 21 10 * pw 1 := putC_eq x x0 x1 21 10 1 (by decide)
  have e11_1_20 : putC 20 1 11 x = sbx x 20 1 * pw 11 := putC_eq x x0 x1 20 1 11 (by decide)
  have e12_8_12 : putC 12 8 12 x = sbx x 12 8 * pw 12 := putC_eq x x0 x1 12 8 12 (by decide)
  have b20_1_31 := sbx_bd x 31 1
  have b1_10_21 := sbx_bd x 21 10
  have b11_1_20 := sbx_bd x 20 1
  have b12_8_12 := sbx_bd x 12 8
  simp only [pw1, pw8, pw10, pw11, pw12, pw20] at *
  have s1 : orI (sbx x 31 1 * 1048576) (sbx x 12 8 * 4096) = sbx x 31 1 * 1048576 + sbx x 12 8 * 4096 := orI_add 20 (q := sbx x 31 1) (by rw [pw20]) (by omega) (by omega) (by rw [pw20]; omega)
  have s2 : orI (sbx x 31 1 * 1048576 + sbx x 12 8 * 4096) (sbx x 20 1 * 2048) = sbx x 31 1 * 1048576 + sbx x 12 8 * 4096 + sbx x 20 1 * 2048 := orI_add 12 (q := sbx x 31 1 * 256 + sbx x 12 8) (by rw [pw12]; omega) (by omega) (by omega) (by rw [pw12]; omega)
  have s3 : orI (sbx x 31 1 * 1048576 + sbx x 12 8 * 4096 + sbx x 20 1 * 2048) (sbx x 21 10 * 2) = sbx x 31 1 * 1048576 + sbx x 12 8 * 4096 + sbx x 20 1 * 2048 + sbx x 21 10 * 2 := orI_add 11 (q := sbx x 31 1 * 512 + sbx x 12 8 * 2 + sbx x 20 1) (by rw [pw11]; omega) (by omega) (by omega) (by rw [pw11]; omega)
  rw [e20_1_31, e1_10_21, e11_1_20, e12_8_12, orI_zl (a := sbx x 31 1 * 1048576) (by omega), orI_rc (orI (sbx x 31 1 * 1048576) (sbx x 21 10 * 2)) (sbx x 20 1 * 2048) (sbx x 12 8 * 4096), orI_rc (sbx x 31 1 * 1048576) (sbx x 21 10 * 2) (sbx x 12 8 * 4096), s1, orI_rc (sbx x 31 1 * 1048576 + sbx x 12 8 * 4096) (sbx x 21 10 * 2) (sbx x 20 1 * 2048), s2, s3]
  omega
theorem immSN (x : Int) (x0 : 0 ≤ x) (x1 : x < 4294967296) : immA layN x 4 = 0 := by
  show orI (orI (orI (orI 0 (putC 0 0 0 x)) (putC 0 0 0 x)) (putC 0 0 0 x)) (putC 0 0 0 x) = _
  have e0_0_0 : putC 0 0 0 x = sbx x 0 0 * pw 0 := putC_eq x x0 x1 0 0 0 (by decide)
  have z : putC 0 0 0 x = 0 := by rw [e0_0_0]; simp [sbx]
  rw [z]; decide

def hiF (f : Int) : Int := if f = 2 then 11 else if f = 3 then 4 else if f = 4 then 11 else if f = 5 then 12 else if f = 6 then 19 else if f = 7 then 20 else -1
theorem hi_all {k : Nat} (h0 : 1 ≤ k) (h1 : k ≤ 48) : hi (bitsL k) = hiF (fmtT k) := by
  have : ∀ j : Fin 49, j.val = 0 ∨ hi (bitsL j) = hiF (fmtT j) := by decide +kernel
  rcases this ⟨k, by omega⟩ with h | h
  · simp at h; omega
  · exact h
/-- The sign, as the document has it, by kind and highest letter. -/
def immK (kd h imm : Int) : Int := if kd ≠ 85 ∧ kd ≠ 72 ∧ 0 < imm then sgn imm h.toNat else imm
theorem reg_sbx (x : Int) (x0 : 0 ≤ x) (x1 : x < 4294967296) : regC (x / 128) true = sbx x 7 5 ∧ regC (x / 32768) true = sbx x 15 5 ∧ regC (x / 1048576) true = sbx x 20 5 := by
  have e : x % 4294967296 = x := by omega
  have e7 : pw 7 = 128 := by decide
  have e15 : pw 15 = 32768 := by decide
  rw [sbx_eq, sbx_eq, sbx_eq, e, e7, e15, pw20, pw5]
  exact ⟨rfl, rfl, rfl⟩

theorem sgn_11 (kd n : Int) (hk : kd ≠ 85 ∧ kd ≠ 72) (h0 : 0 ≤ n) (h1 : n < 4096) : sgnC (-2048) 2047 n = immK kd 11 n := by
  have e : bt n 11 = n / 2048 % 2 := by unfold bt; rw [pw11]; omega
  unfold sgnC immK sgn
  rw [show (11 : Int).toNat = 11 from rfl, e, pw11]
  by_cases hp : 0 < n
  · have hc : kd ≠ 85 ∧ kd ≠ 72 ∧ 0 < n := ⟨hk.1, hk.2, hp⟩
    rw [if_pos hc]
    split <;> split <;> omega
  · have hc : ¬ (kd ≠ 85 ∧ kd ≠ 72 ∧ 0 < n) := fun h => hp h.2.2
    have hd : ¬ 2047 < n := by omega
    rw [if_neg hc, if_neg hd]
theorem sgn_12 (kd n : Int) (hk : kd ≠ 85 ∧ kd ≠ 72) (h0 : 0 ≤ n) (h1 : n < 8192) (h2 : n % 2 = 0) : sgnC (-4096) 4094 n = immK kd 12 n := by
  have e : bt n 12 = n / 4096 % 2 := by unfold bt; rw [pw12]; omega
  unfold sgnC immK sgn
  rw [show (12 : Int).toNat = 12 from rfl, e, pw12]
  by_cases hp : 0 < n
  · have hc : kd ≠ 85 ∧ kd ≠ 72 ∧ 0 < n := ⟨hk.1, hk.2, hp⟩
    rw [if_pos hc]
    split <;> split <;> omega
  · have hc : ¬ (kd ≠ 85 ∧ kd ≠ 72 ∧ 0 < n) := fun h => hp h.2.2
    have hd : ¬ 4094 < n := by omega
    rw [if_neg hc, if_neg hd]
theorem sgn_20 (kd n : Int) (hk : kd ≠ 85 ∧ kd ≠ 72) (h0 : 0 ≤ n) (h1 : n < 2097152) (h2 : n % 2 = 0) : sgnC (-1048576) 1048574 n = immK kd 20 n := by
  have e : bt n 20 = n / 1048576 % 2 := by unfold bt; rw [pw20]; omega
  unfold sgnC immK sgn
  rw [show (20 : Int).toNat = 20 from rfl, e, pw20]
  by_cases hp : 0 < n
  · have hc : kd ≠ 85 ∧ kd ≠ 72 ∧ 0 < n := ⟨hk.1, hk.2, hp⟩
    rw [if_pos hc]
    split <;> split <;> omega
  · have hc : ¬ (kd ≠ 85 ∧ kd ≠ 72 ∧ 0 < n) := fun h => hp h.2.2
    have hd : ¬ 1048574 < n := by omega
    rw [if_neg hc, if_neg hd]
theorem fld_eq (x : Int) (x0 : 0 ≤ x) (x1 : x < 4294967296) (f : Int) (h0 : 1 ≤ f) (h1 : f ≤ 9) :
    fldC (lay f) x = { foldF x (patF f) ⟨0, 0, 0, 0⟩ with imm := immK (kindF f) (hiF f) (foldF x (patF f) ⟨0, 0, 0, 0⟩).imm } := by
  obtain ⟨g1, g2, g3⟩ := reg_sbx x x0 x1
  have hf : f = 1 ∨ f = 2 ∨ f = 3 ∨ f = 4 ∨ f = 5 ∨ f = 6 ∨ f = 7 ∨ f = 8 ∨ f = 9 := by omega
  rcases hf with rfl | rfl | rfl | rfl | rfl | rfl | rfl | rfl | rfl
  · show fldC layR x = { foldF x patR ⟨0, 0, 0, 0⟩ with imm := immK 82 (-1) (foldF x patR ⟨0, 0, 0, 0⟩).imm }
    rw [foldR, fldC, immC, immSR x x0 x1]
    show (⟨regC (x / 128) true, regC (x / 32768) true, regC (x / 1048576) true, _⟩ : Flds) = _
    rw [g1, g2, g3]; rfl
  · show fldC layI x = { foldF x patI ⟨0, 0, 0, 0⟩ with imm := immK 73 11 (foldF x patI ⟨0, 0, 0, 0⟩).imm }
    rw [foldI, fldC, immC, immSI x x0 x1]
    show (⟨regC (x / 128) true, regC (x / 32768) true, 0, sgnC (-2048) 2047 _⟩ : Flds) = ⟨_, _, _, immK 73 11 _⟩
    have b := sbx_bd x 20 12
    rw [pw12] at b
    generalize sbx x 20 12 = n at *
    rw [g1, g2, Flds.mk.injEq]
    refine ⟨rfl, rfl, rfl, ?_⟩
    exact sgn_11 _ n (by decide) (by omega) (by omega)
  · show fldC layH x = { foldF x patH ⟨0, 0, 0, 0⟩ with imm := immK 72 4 (foldF x patH ⟨0, 0, 0, 0⟩).imm }
    rw [foldH, fldC, immC, immSH x x0 x1]
    show (⟨regC (x / 128) true, regC (x / 32768) true, 0, sgnC 0 31 _⟩ : Flds) = ⟨_, _, _, immK 72 4 _⟩
    have b := sbx_bd x 20 5
    rw [pw5] at b
    generalize sbx x 20 5 = n at *
    rw [g1, g2, Flds.mk.injEq]
    refine ⟨rfl, rfl, rfl, ?_⟩
    unfold sgnC immK
    rw [if_neg (by omega)]; simp
  · show fldC layS x = { foldF x patS ⟨0, 0, 0, 0⟩ with imm := immK 83 11 (foldF x patS ⟨0, 0, 0, 0⟩).imm }
    rw [foldS, fldC, immC, immSS x x0 x1]
    show (⟨0, regC (x / 32768) true, regC (x / 1048576) true, sgnC (-2048) 2047 _⟩ : Flds) = ⟨_, _, _, immK 83 11 _⟩
    have b := sbx_bd x 25 7
    have b' := sbx_bd x 7 5
    rw [pw7] at b
    rw [pw5] at b'
    rw [g2, g3, Flds.mk.injEq]
    refine ⟨rfl, rfl, rfl, ?_⟩
    generalize hn : sbx x 25 7 * 32 + sbx x 7 5 = n at *
    have : 0 ≤ n ∧ n < 4096 := by omega
    exact sgn_11 _ n (by decide) (by omega) (by omega)
  · show fldC layB x = { foldF x patB ⟨0, 0, 0, 0⟩ with imm := immK 66 12 (foldF x patB ⟨0, 0, 0, 0⟩).imm }
    rw [foldB, fldC, immC, immSB x x0 x1]
    show (⟨0, regC (x / 32768) true, regC (x / 1048576) true, sgnC (-4096) 4094 _⟩ : Flds) = ⟨_, _, _, immK 66 12 _⟩
    have b1 := sbx_bd x 31 1
    have b2 := sbx_bd x 25 6
    have b3 := sbx_bd x 8 4
    have b4 := sbx_bd x 7 1
    simp only [pw1, pw6, pw4] at b1 b2 b3 b4
    rw [g2, g3, Flds.mk.injEq]
    refine ⟨rfl, rfl, rfl, ?_⟩
    generalize hn : sbx x 31 1 * 4096 + sbx x 25 6 * 32 + sbx x 8 4 * 2 + sbx x 7 1 * 2048 = n at *
    have : 0 ≤ n ∧ n < 8192 ∧ n % 2 = 0 := by omega
    clear hn
    exact sgn_12 _ n (by decide) (by omega) (by omega) (by omega)
  · show fldC layU x = { foldF x patU ⟨0, 0, 0, 0⟩ with imm := immK 85 19 (foldF x patU ⟨0, 0, 0, 0⟩).imm }
    rw [foldU, fldC, immC, immSU x x0 x1]
    show (⟨regC (x / 128) true, 0, 0, sgnC 0 1048575 _⟩ : Flds) = ⟨_, _, _, immK 85 19 _⟩
    have b := sbx_bd x 12 20
    rw [pw20] at b
    generalize sbx x 12 20 = n at *
    rw [g1, Flds.mk.injEq]
    refine ⟨rfl, rfl, rfl, ?_⟩
    unfold sgnC immK
    rw [if_neg (by omega)]; simp
  · show fldC layJ x = { foldF x patJ ⟨0, 0, 0, 0⟩ with imm := immK 74 20 (foldF x patJ ⟨0, 0, 0, 0⟩).imm }
    rw [foldJ, fldC, immC, immSJ x x0 x1]
    show (⟨regC (x / 128) true, 0, 0, sgnC (-1048576) 1048574 _⟩ : Flds) = ⟨_, _, _, immK 74 20 _⟩
    have b1 := sbx_bd x 31 1
    have b2 := sbx_bd x 21 10
    have b3 := sbx_bd x 20 1
    have b4 := sbx_bd x 12 8
    simp only [pw1, pw10, pw8] at b1 b2 b3 b4
    rw [g1, Flds.mk.injEq]
    refine ⟨rfl, rfl, rfl, ?_⟩
    generalize hn : sbx x 31 1 * 1048576 + sbx x 21 10 * 2 + sbx x 20 1 * 2048 + sbx x 12 8 * 4096 = n at *
    have : 0 ≤ n ∧ n < 2097152 ∧ n % 2 = 0 := by omega
    clear hn
    exact sgn_20 _ n (by decide) (by omega) (by omega) (by omega)
  · show fldC layN x = { foldF x patN ⟨0, 0, 0, 0⟩ with imm := immK 78 (-1) (foldF x patN ⟨0, 0, 0, 0⟩).imm }
    rw [foldN, fldC, immC, immSN x x0 x1]; rfl
  · show fldC layN x = { foldF x patN ⟨0, 0, 0, 0⟩ with imm := immK 78 (-1) (foldF x patN ⟨0, 0, 0, 0⟩).imm }
    rw [foldN, fldC, immC, immSN x x0 x1]; rfl

theorem dec_eq (x : Int) (x0 : 0 ≤ x) (x1 : x < 4294967296) : decR x = decC x := by
  have h : ∀ n k, 1 ≤ k → k + n = 49 → decFrom x n k = decCFrom x n k := by
    intro n
    induction n with
    | zero => intro k _ _; rfl
    | succ n ih =>
      intro k hk hn
      have hm := match_eq x0 x1 hk (by omega : k ≤ 48)
      have hr := rd_eq x (bitsL k) ⟨0, 0, 0, 0⟩
      cases hc : matchC x k with
      | false =>
        rw [← hm, hc] at hr
        rw [decFrom_none hr, decCFrom_no hc]
        exact ih (k + 1) (by omega) (by omega)
      | true =>
        rw [← hm, hc] at hr
        have ht := tab_ok (k := k) hk (by omega)
        rw [decFrom_some hr, decCFrom_yes hc, fld_eq x x0 x1 _ ht.f0 ht.f1, ← strip_all hk (by omega), foldF_strip]
        unfold immR immK
        rw [ht.k, hi_all hk (by omega)]
  exact h 48 1 (by omega) (by omega)
end Hm

/-
  The plain functions that hartkeep's pick and inst come to.
-/
namespace Hm
def pickI (c n : Int) : Int := (if c < 0 then -(c + 1) else c) % n
theorem pick_bd (c n : Int) (h : 1 ≤ n) : 0 ≤ pickI c n ∧ pickI c n < n := by
  unfold pickI
  exact ⟨Int.emod_nonneg _ (by omega), Int.emod_lt_of_pos _ (by omega)⟩
def instF (op rd rs1 rs2 imm : Int) : Flds :=
  if op ≤ 2 then ⟨pickI rd 32, 0, 0, pickI imm 1048576⟩
  else if op = 3 then ⟨pickI rd 32, 0, 0, 2 * pickI imm 1048576 - 1048576⟩
  else if 5 ≤ op ∧ op ≤ 10 then ⟨0, pickI rs1 32, pickI rs2 32, 2 * pickI imm 4096 - 4096⟩
  else if 16 ≤ op ∧ op ≤ 18 then ⟨0, pickI rs1 32, pickI rs2 32, pickI imm 4096 - 2048⟩
  else if 25 ≤ op ∧ op ≤ 27 then ⟨pickI rd 32, pickI rs1 32, 0, pickI imm 32⟩
  else if 28 ≤ op ∧ op ≤ 45 then ⟨pickI rd 32, pickI rs1 32, pickI rs2 32, 0⟩
  else if op < 46 then ⟨pickI rd 32, pickI rs1 32, 0, pickI imm 4096 - 2048⟩
  else ⟨0, 0, 0, 0⟩
end Hm

/-
  The plain mathematics of Round, its first half: what is written is read.
-/
namespace Hm

theorem bt_floor (n : Int) (j : Nat) (hj : j < 32) : bt n j = n / pw j % 2 := by
  unfold bt
  have hp := pw_pos j
  have e32 : (4294967296 : Int) = pw j * pw (32 - j) := by rw [← pw_add, show j + (32 - j) = 32 from by omega]; decide
  have e2 : pw (32 - j) = 2 * pw (31 - j) := by rw [← pw_succ]; congr 1; omega
  have h := Int.emod_add_mul_ediv n 4294967296
  have h1 : n / pw j = n % 4294967296 / pw j + pw (32 - j) * (n / 4294967296) := by
    conv => lhs; rw [← h]
    rw [show (4294967296 : Int) * (n / 4294967296) = pw j * (pw (32 - j) * (n / 4294967296)) from by rw [← Int.mul_assoc, ← e32]]
    exact Int.add_mul_ediv_left _ _ (by omega)
  rw [h1, e2, Int.mul_assoc]
  generalize pw (31 - j) * (n / 4294967296) = z
  omega
theorem sbx_congr {x y : Int} {a b : Nat} : ∀ {n : Nat}, (∀ j, j < n → bt x (a + j) = bt y (b + j)) → sbx x a n = sbx y b n
  | 0, _ => rfl
  | n + 1, h => by rw [sbx, sbx, sbx_congr (fun j hj => h j (by omega)), h n (by omega)]
theorem b01_inj {a b : Bool} (h : b01 a = b01 b) : a = b := by cases a <;> cases b <;> simp_all [b01]

theorem enc_u32 {op rd rs1 rs2 imm : Int} (hl : legalC op rd rs1 rs2 imm = true) : U32 (encC op rd rs1 rs2 imm) := by
  have hb := legal_bd hl
  have h0 : U32 (bitOf op) := bit_bd op
  have h1 : U32 (rd * 128) := ⟨by have := hb.d; omega, by have := hb.d; omega⟩
  have h2 : U32 (rs1 * 32768) := ⟨by have := hb.r; omega, by have := hb.r; omega⟩
  have h3 : U32 (rs2 * 1048576) := ⟨by have := hb.t; omega, by have := hb.t; omega⟩
  unfold encC
  rw [if_pos hl]
  exact encA_u32 (orI_u32 (orI_u32 (orI_u32 h0 h1) h2) h3) 4
theorem legal_op {op rd rs1 rs2 imm : Int} (hl : legalC op rd rs1 rs2 imm = true) : 1 ≤ op ∧ op ≤ 48 := by
  by_cases h : 1 ≤ op ∧ op ≤ 48
  · exact h
  · rw [legal_eq] at hl; unfold legalR at hl; rw [if_neg h] at hl; cases hl
theorem enc_ok {k : Nat} {rd rs1 rs2 imm : Int} (hl : legalC k rd rs1 rs2 imm = true) : bitsOk rd rs1 rs2 imm (encC k rd rs1 rs2 imm) (bitsL k) := by
  have hop := legal_op hl
  have hu := enc_u32 hl
  obtain ⟨ok, _⟩ := ok_all (k := k) (by omega) (by omega)
  have hbits := enc_bits (op := k) rfl (by omega) (by omega) hl
  unfold encC at hu ⊢
  rw [if_pos hl] at hu ⊢
  generalize encA (lay (fmtOf k)) (enc0 k rd rs1 rs2) (imm % 4294967296) 4 = E at *
  obtain ⟨N, rfl⟩ := Int.eq_ofNat_of_zero_le hu.1
  rw [Int.toNat_natCast] at hbits
  exact bitsOk_of hbits ok

/-! ### Which Op matches -/
theorem match_self {d r t imm E : Int} (h0 : 0 ≤ E) (h1 : E < 4294967296) : ∀ {l : List UInt8}, bitsOk d r t imm E l → matchL E l = true
  | [], _ => rfl
  | c :: l, ⟨hb, hr⟩ => by
    unfold matchL
    rw [match_self h0 h1 hr, Bool.and_true]
    have e : bt E l.length = fbit d r t imm c l := by unfold bt; rw [← hb]; congr 2; omega
    rw [e]
    unfold miss fbit
    by_cases c0 : (c.toNat : Int) = 48
    · rw [c0]; rfl
    by_cases c1 : (c.toNat : Int) = 49
    · rw [c1]; rfl
    have e0 : ((c.toNat : Int) == 48) = false := by simpa using c0
    have e1 : ((c.toNat : Int) == 49) = false := by simpa using c1
    rw [e0, e1]; rfl
def clash : List UInt8 → List UInt8 → Bool
  | c :: l, c' :: l' => (((c.toNat : Int) == 48 && (c'.toNat : Int) == 49) || ((c.toNat : Int) == 49 && (c'.toNat : Int) == 48)) || clash l l'
  | _, _ => false
theorem match_other {d r t imm E : Int} (h0 : 0 ≤ E) (h1 : E < 4294967296) : ∀ {l l' : List UInt8}, bitsOk d r t imm E l → l.length = l'.length → clash l l' = true → matchL E l' = false
  | c :: l, c' :: l', ⟨hb, hr⟩, hlen, hc => by
    unfold clash at hc
    unfold matchL
    rw [Bool.or_eq_true] at hc
    rcases hc with hc | hc
    · have hl2 : l'.length = l.length := by simpa using hlen.symm
      have e : bt E l'.length = fbit d r t imm c l := by rw [hl2]; unfold bt; rw [← hb]; congr 2; omega
      rw [e]
      unfold miss fbit
      rw [Bool.or_eq_true, Bool.and_eq_true, Bool.and_eq_true] at hc
      simp only [beq_iff_eq] at hc
      rcases hc with ⟨a, b⟩ | ⟨a, b⟩ <;> rw [a, b] <;> rfl
    · rw [match_other h0 h1 hr (by simpa using hlen) hc, Bool.and_false]
  | [], _, _, _, hc => by unfold clash at hc; cases hc
  | _ :: _, [], _, _, hc => by unfold clash at hc; cases hc
theorem clash_all {k k' : Nat} (h0 : 1 ≤ k) (h1 : k ≤ 48) (h0' : 1 ≤ k') (h1' : k' ≤ 48) (hne : k' < k) : clash (bitsL k) (bitsL k') = true := by
  have : ∀ j j' : Fin 49, j.val = 0 ∨ j'.val = 0 ∨ ¬ j'.val < j.val ∨ clash (bitsL j) (bitsL j') = true := by decide +kernel
  rcases this ⟨k, by omega⟩ ⟨k', by omega⟩ with h | h | h | h
  · simp at h; omega
  · simp at h; omega
  · exact absurd hne h
  · exact h
theorem dec_first {E : Int} {k : Nat} (hk : matchC E k = true) : ∀ (n j : Nat), j ≤ k → k < j + n → (∀ i, j ≤ i → i < k → matchC E i = false) → decCFrom E n j = ⟨k, fldC (lay (fmtT k)) E, 0⟩
  | 0, j, h1, h2, _ => by omega
  | n + 1, j, h1, h2, hno => by
    by_cases e : j = k
    · subst e; exact decCFrom_yes hk
    · rw [decCFrom_no (hno j (Nat.le_refl _) (by omega))]
      exact dec_first hk n (j + 1) (by omega) (by omega) (fun i h h' => hno i (by omega) h')

/-! ### The fields -/
theorem no_bit {k i : Nat} (h0 : 1 ≤ k) (h1 : k ≤ 48) (hi : i < 32) (hs : symE (lay (fmtT k)) i ≠ []) : (bitT k).toNat.testBit i = false := by
  have : ∀ (j : Fin 49) (i : Fin 32), j.val = 0 ∨ symE (lay (fmtT j)) i = [] ∨ (bitT j).toNat.testBit i = false := by decide +kernel
  rcases this ⟨k, by omega⟩ ⟨i, hi⟩ with h | h | h
  · simp at h; omega
  · exact absurd h hs
  · exact h
/-- A bit of what is written that has one source. -/
theorem enc_src {k : Nat} {rd rs1 rs2 imm : Int} (hl : legalC k rd rs1 rs2 imm = true) {i a j : Nat} (hi : i < 32) (hs : symE (lay (fmtT k)) i = [(a, j)]) :
    bt (encC k rd rs1 rs2 imm) i = if a = 0 then bt rd j else if a = 1 then bt rs1 j else if a = 2 then bt rs2 j else bt imm j := by
  have hop := legal_op hl
  have hu := enc_u32 hl
  have hbits := enc_bits (op := k) rfl (by omega) (by omega) hl i
  rw [hs, no_bit (by omega) (by omega) hi (by rw [hs]; simp)] at hbits
  have e : encC k rd rs1 rs2 imm % 4294967296 = encC k rd rs1 rs2 imm := by have := hu.1; have := hu.2; omega
  rw [bt_nat, e]
  unfold encC
  rw [if_pos hl, hbits]
  simp only [List.any_cons, List.any_nil, Bool.or_false, Bool.false_or]
  unfold ev
  rw [bt_nat rd, bt_nat rs1, bt_nat rs2, bt_nat imm]
  repeat' split
  all_goals rfl
end Hm

/-
  The plain mathematics of Round, its first half, whole.
-/
namespace Hm

theorem sbx_reg (n : Int) (h0 : 0 ≤ n) (h1 : n ≤ 31) : sbx n 0 5 = n := by
  rw [sbx_eq, pw0, pw5]; omega

theorem backR {E rd rs1 rs2 imm : Int} (E0 : 0 ≤ E) (E1 : E < 4294967296) (hsrc : ∀ i a j, i < 32 → symE layR i = [(a, j)] → bt E i = if a = 0 then bt rd j else if a = 1 then bt rs1 j else if a = 2 then bt rs2 j else bt imm j)
    (hd : fitsC rd layR.rd = true) (hr : fitsC rs1 layR.rs1 = true) (ht : fitsC rs2 layR.rs2 = true) (hi : holdsC layR.least layR.most layR.even imm = true) : fldC layR E = ⟨rd, rs1, rs2, imm⟩ := by
  have bd := fitsC_bd hd
  have br := fitsC_bd hr
  have bt' := fitsC_bd ht
  obtain ⟨g1, g2, g3⟩ := reg_sbx E E0 E1
  have bi : 0 ≤ imm ∧ imm ≤ 0 := by
    simp [holdsC, layR] at hi; omega
  have ed : sbx E 7 5 = rd := ((sbx_congr (fun j hj => by have := hsrc (7 + j) 0 (0 + j) (by omega) ((show ∀ q : Fin 5, symE layR (7 + q.val) = [(0, 0 + q.val)] by decide) ⟨j, hj⟩); simpa using this)) : sbx E 7 5 = sbx rd 0 5).trans (sbx_reg rd bd.1 bd.2)
  have er : sbx E 15 5 = rs1 := ((sbx_congr (fun j hj => by have := hsrc (15 + j) 1 (0 + j) (by omega) ((show ∀ q : Fin 5, symE layR (15 + q.val) = [(1, 0 + q.val)] by decide) ⟨j, hj⟩); simpa using this)) : sbx E 15 5 = sbx rs1 0 5).trans (sbx_reg rs1 br.1 br.2)
  have et : sbx E 20 5 = rs2 := ((sbx_congr (fun j hj => by have := hsrc (20 + j) 2 (0 + j) (by omega) ((show ∀ q : Fin 5, symE layR (20 + q.val) = [(2, 0 + q.val)] by decide) ⟨j, hj⟩); simpa using this)) : sbx E 20 5 = sbx rs2 0 5).trans (sbx_reg rs2 bt'.1 bt'.2)
  show (⟨regC (E / 128) true, regC (E / 32768) true, regC (E / 1048576) true, sgnC (0) 0 (immA layR E 4)⟩ : Flds) = _
  rw [immSR E E0 E1, Flds.mk.injEq]
  refine ⟨g1.trans ed, g2.trans er, g3.trans et, ?_⟩
  have : imm = 0 := by omega
  rw [this]; rfl

theorem backI {E rd rs1 rs2 imm : Int} (E0 : 0 ≤ E) (E1 : E < 4294967296) (hsrc : ∀ i a j, i < 32 → symE layI i = [(a, j)] → bt E i = if a = 0 then bt rd j else if a = 1 then bt rs1 j else if a = 2 then bt rs2 j else bt imm j)
    (hd : fitsC rd layI.rd = true) (hr : fitsC rs1 layI.rs1 = true) (ht : fitsC rs2 layI.rs2 = true) (hi : holdsC layI.least layI.most layI.even imm = true) : fldC layI E = ⟨rd, rs1, rs2, imm⟩ := by
  have bd := fitsC_bd hd
  have br := fitsC_bd hr
  have bt' := fitsC_bd ht
  obtain ⟨g1, g2, g3⟩ := reg_sbx E E0 E1
  have bi : -2048 ≤ imm ∧ imm ≤ 2047 := by
    simp [holdsC, layI] at hi; omega
  have ed : sbx E 7 5 = rd := ((sbx_congr (fun j hj => by have := hsrc (7 + j) 0 (0 + j) (by omega) ((show ∀ q : Fin 5, symE layI (7 + q.val) = [(0, 0 + q.val)] by decide) ⟨j, hj⟩); simpa using this)) : sbx E 7 5 = sbx rd 0 5).trans (sbx_reg rd bd.1 bd.2)
  have er : sbx E 15 5 = rs1 := ((sbx_congr (fun j hj => by have := hsrc (15 + j) 1 (0 + j) (by omega) ((show ∀ q : Fin 5, symE layI (15 + q.val) = [(1, 0 + q.val)] by decide) ⟨j, hj⟩); simpa using this)) : sbx E 15 5 = sbx rs1 0 5).trans (sbx_reg rs1 br.1 br.2)
  have et : rs2 = 0 := by simpa [fitsC, layI] using ht
  have p0 : sbx E 20 12 = sbx imm 0 12 := sbx_congr (fun j hj => by have := hsrc (20 + j) 3 (0 + j) (by omega) ((show ∀ q : Fin 12, symE layI (20 + q.val) = [(3, 0 + q.val)] by decide) ⟨j, hj⟩); simpa using this)
  show (⟨regC (E / 128) true, regC (E / 32768) true, 0, sgnC (-2048) 2047 (immA layI E 4)⟩ : Flds) = _
  rw [immSI E E0 E1, p0, Flds.mk.injEq]
  refine ⟨g1.trans ed, g2.trans er, et.symm, ?_⟩
  have q0 := sbx_eq imm 0 12
  simp only [pw0, pw12] at q0
  have hn : sbx imm 0 12 = imm % 4096 := by omega
  rw [hn]
  unfold sgnC
  split <;> omega

theorem backH {E rd rs1 rs2 imm : Int} (E0 : 0 ≤ E) (E1 : E < 4294967296) (hsrc : ∀ i a j, i < 32 → symE layH i = [(a, j)] → bt E i = if a = 0 then bt rd j else if a = 1 then bt rs1 j else if a = 2 then bt rs2 j else bt imm j)
    (hd : fitsC rd layH.rd = true) (hr : fitsC rs1 layH.rs1 = true) (ht : fitsC rs2 layH.rs2 = true) (hi : holdsC layH.least layH.most layH.even imm = true) : fldC layH E = ⟨rd, rs1, rs2, imm⟩ := by
  have bd := fitsC_bd hd
  have br := fitsC_bd hr
  have bt' := fitsC_bd ht
  obtain ⟨g1, g2, g3⟩ := reg_sbx E E0 E1
  have bi : 0 ≤ imm ∧ imm ≤ 31 := by
    simp [holdsC, layH] at hi; omega
  have ed : sbx E 7 5 = rd := ((sbx_congr (fun j hj => by have := hsrc (7 + j) 0 (0 + j) (by omega) ((show ∀ q : Fin 5, symE layH (7 + q.val) = [(0, 0 + q.val)] by decide) ⟨j, hj⟩); simpa using this)) : sbx E 7 5 = sbx rd 0 5).trans (sbx_reg rd bd.1 bd.2)
  have er : sbx E 15 5 = rs1 := ((sbx_congr (fun j hj => by have := hsrc (15 + j) 1 (0 + j) (by omega) ((show ∀ q : Fin 5, symE layH (15 + q.val) = [(1, 0 + q.val)] by decide) ⟨j, hj⟩); simpa using this)) : sbx E 15 5 = sbx rs1 0 5).trans (sbx_reg rs1 br.1 br.2)
  have et : rs2 = 0 := by simpa [fitsC, layH] using ht
  have p0 : sbx E 20 5 = sbx imm 0 5 := sbx_congr (fun j hj => by have := hsrc (20 + j) 3 (0 + j) (by omega) ((show ∀ q : Fin 5, symE layH (20 + q.val) = [(3, 0 + q.val)] by decide) ⟨j, hj⟩); simpa using this)
  show (⟨regC (E / 128) true, regC (E / 32768) true, 0, sgnC (0) 31 (immA layH E 4)⟩ : Flds) = _
  rw [immSH E E0 E1, p0, Flds.mk.injEq]
  refine ⟨g1.trans ed, g2.trans er, et.symm, ?_⟩
  have q0 := sbx_eq imm 0 5
  simp only [pw0, pw5] at q0
  have hn : sbx imm 0 5 = imm % 32 := by omega
  rw [hn]
  unfold sgnC
  split <;> omega

theorem backS {E rd rs1 rs2 imm : Int} (E0 : 0 ≤ E) (E1 : E < 4294967296) (hsrc : ∀ i a j, i < 32 → symE layS i = [(a, j)] → bt E i = if a = 0 then bt rd j else if a = 1 then bt rs1 j else if a = 2 then bt rs2 j else bt imm j)
    (hd : fitsC rd layS.rd = true) (hr : fitsC rs1 layS.rs1 = true) (ht : fitsC rs2 layS.rs2 = true) (hi : holdsC layS.least layS.most layS.even imm = true) : fldC layS E = ⟨rd, rs1, rs2, imm⟩ := by
  have bd := fitsC_bd hd
  have br := fitsC_bd hr
  have bt' := fitsC_bd ht
  obtain ⟨g1, g2, g3⟩ := reg_sbx E E0 E1
  have bi : -2048 ≤ imm ∧ imm ≤ 2047 := by
    simp [holdsC, layS] at hi; omega
  have ed : rd = 0 := by simpa [fitsC, layS] using hd
  have er : sbx E 15 5 = rs1 := ((sbx_congr (fun j hj => by have := hsrc (15 + j) 1 (0 + j) (by omega) ((show ∀ q : Fin 5, symE layS (15 + q.val) = [(1, 0 + q.val)] by decide) ⟨j, hj⟩); simpa using this)) : sbx E 15 5 = sbx rs1 0 5).trans (sbx_reg rs1 br.1 br.2)
  have et : sbx E 20 5 = rs2 := ((sbx_congr (fun j hj => by have := hsrc (20 + j) 2 (0 + j) (by omega) ((show ∀ q : Fin 5, symE layS (20 + q.val) = [(2, 0 + q.val)] by decide) ⟨j, hj⟩); simpa using this)) : sbx E 20 5 = sbx rs2 0 5).trans (sbx_reg rs2 bt'.1 bt'.2)
  have p5 : sbx E 25 7 = sbx imm 5 7 := sbx_congr (fun j hj => by have := hsrc (25 + j) 3 (5 + j) (by omega) ((show ∀ q : Fin 7, symE layS (25 + q.val) = [(3, 5 + q.val)] by decide) ⟨j, hj⟩); simpa using this)
  have p0 : sbx E 7 5 = sbx imm 0 5 := sbx_congr (fun j hj => by have := hsrc (7 + j) 3 (0 + j) (by omega) ((show ∀ q : Fin 5, symE layS (7 + q.val) = [(3, 0 + q.val)] by decide) ⟨j, hj⟩); simpa using this)
  show (⟨0, regC (E / 32768) true, regC (E / 1048576) true, sgnC (-2048) 2047 (immA layS E 4)⟩ : Flds) = _
  rw [immSS E E0 E1, p5, p0, Flds.mk.injEq]
  refine ⟨ed.symm, g2.trans er, g3.trans et, ?_⟩
  have q5 := sbx_eq imm 5 7
  have q0 := sbx_eq imm 0 5
  simp only [pw0, pw5, pw7] at q5 q0
  have hn : sbx imm 5 7 * 32 + sbx imm 0 5 = imm % 4096 := by omega
  rw [hn]
  unfold sgnC
  split <;> omega

theorem backB {E rd rs1 rs2 imm : Int} (E0 : 0 ≤ E) (E1 : E < 4294967296) (hsrc : ∀ i a j, i < 32 → symE layB i = [(a, j)] → bt E i = if a = 0 then bt rd j else if a = 1 then bt rs1 j else if a = 2 then bt rs2 j else bt imm j)
    (hd : fitsC rd layB.rd = true) (hr : fitsC rs1 layB.rs1 = true) (ht : fitsC rs2 layB.rs2 = true) (hi : holdsC layB.least layB.most layB.even imm = true) : fldC layB E = ⟨rd, rs1, rs2, imm⟩ := by
  have bd := fitsC_bd hd
  have br := fitsC_bd hr
  have bt' := fitsC_bd ht
  obtain ⟨g1, g2, g3⟩ := reg_sbx E E0 E1
  have bi : -4096 ≤ imm ∧ imm ≤ 4094 ∧ imm % 2 = 0 := by
    simp [holdsC, layB] at hi; omega
  have ed : rd = 0 := by simpa [fitsC, layB] using hd
  have er : sbx E 15 5 = rs1 := ((sbx_congr (fun j hj => by have := hsrc (15 + j) 1 (0 + j) (by omega) ((show ∀ q : Fin 5, symE layB (15 + q.val) = [(1, 0 + q.val)] by decide) ⟨j, hj⟩); simpa using this)) : sbx E 15 5 = sbx rs1 0 5).trans (sbx_reg rs1 br.1 br.2)
  have et : sbx E 20 5 = rs2 := ((sbx_congr (fun j hj => by have := hsrc (20 + j) 2 (0 + j) (by omega) ((show ∀ q : Fin 5, symE layB (20 + q.val) = [(2, 0 + q.val)] by decide) ⟨j, hj⟩); simpa using this)) : sbx E 20 5 = sbx rs2 0 5).trans (sbx_reg rs2 bt'.1 bt'.2)
  have p12 : sbx E 31 1 = sbx imm 12 1 := sbx_congr (fun j hj => by have := hsrc (31 + j) 3 (12 + j) (by omega) ((show ∀ q : Fin 1, symE layB (31 + q.val) = [(3, 12 + q.val)] by decide) ⟨j, hj⟩); simpa using this)
  have p5 : sbx E 25 6 = sbx imm 5 6 := sbx_congr (fun j hj => by have := hsrc (25 + j) 3 (5 + j) (by omega) ((show ∀ q : Fin 6, symE layB (25 + q.val) = [(3, 5 + q.val)] by decide) ⟨j, hj⟩); simpa using this)
  have p1 : sbx E 8 4 = sbx imm 1 4 := sbx_congr (fun j hj => by have := hsrc (8 + j) 3 (1 + j) (by omega) ((show ∀ q : Fin 4, symE layB (8 + q.val) = [(3, 1 + q.val)] by decide) ⟨j, hj⟩); simpa using this)
  have p11 : sbx E 7 1 = sbx imm 11 1 := sbx_congr (fun j hj => by have := hsrc (7 + j) 3 (11 + j) (by omega) ((show ∀ q : Fin 1, symE layB (7 + q.val) = [(3, 11 + q.val)] by decide) ⟨j, hj⟩); simpa using this)
  show (⟨0, regC (E / 32768) true, regC (E / 1048576) true, sgnC (-4096) 4094 (immA layB E 4)⟩ : Flds) = _
  rw [immSB E E0 E1, p12, p5, p1, p11, Flds.mk.injEq]
  refine ⟨ed.symm, g2.trans er, g3.trans et, ?_⟩
  have q12 := sbx_eq imm 12 1
  have q5 := sbx_eq imm 5 6
  have q1 := sbx_eq imm 1 4
  have q11 := sbx_eq imm 11 1
  simp only [pw1, pw4, pw5, pw6, pw11, pw12] at q12 q5 q1 q11
  have hn : sbx imm 12 1 * 4096 + sbx imm 5 6 * 32 + sbx imm 1 4 * 2 + sbx imm 11 1 * 2048 = imm % 8192 := by omega
  rw [hn]
  unfold sgnC
  split <;> omega

theorem backU {E rd rs1 rs2 imm : Int} (E0 : 0 ≤ E) (E1 : E < 4294967296) (hsrc : ∀ i a j, i < 32 → symE layU i = [(a, j)] → bt E i = if a = 0 then bt rd j else if a = 1 then bt rs1 j else if a = 2 then bt rs2 j else bt imm j)
    (hd : fitsC rd layU.rd = true) (hr : fitsC rs1 layU.rs1 = true) (ht : fitsC rs2 layU.rs2 = true) (hi : holdsC layU.least layU.most layU.even imm = true) : fldC layU E = ⟨rd, rs1, rs2, imm⟩ := by
  have bd := fitsC_bd hd
  have br := fitsC_bd hr
  have bt' := fitsC_bd ht
  obtain ⟨g1, g2, g3⟩ := reg_sbx E E0 E1
  have bi : 0 ≤ imm ∧ imm ≤ 1048575 := by
    simp [holdsC, layU] at hi; omega
  have ed : sbx E 7 5 = rd := ((sbx_congr (fun j hj => by have := hsrc (7 + j) 0 (0 + j) (by omega) ((show ∀ q : Fin 5, symE layU (7 + q.val) = [(0, 0 + q.val)] by decide) ⟨j, hj⟩); simpa using this)) : sbx E 7 5 = sbx rd 0 5).trans (sbx_reg rd bd.1 bd.2)
  have er : rs1 = 0 := by simpa [fitsC, layU] using hr
  have et : rs2 = 0 := by simpa [fitsC, layU] using ht
  have p0 : sbx E 12 20 = sbx imm 0 20 := sbx_congr (fun j hj => by have := hsrc (12 + j) 3 (0 + j) (by omega) ((show ∀ q : Fin 20, symE layU (12 + q.val) = [(3, 0 + q.val)] by decide) ⟨j, hj⟩); simpa using this)
  show (⟨regC (E / 128) true, 0, 0, sgnC (0) 1048575 (immA layU E 4)⟩ : Flds) = _
  rw [immSU E E0 E1, p0, Flds.mk.injEq]
  refine ⟨g1.trans ed, er.symm, et.symm, ?_⟩
  have q0 := sbx_eq imm 0 20
  simp only [pw0, pw20] at q0
  have hn : sbx imm 0 20 = imm % 1048576 := by omega
  rw [hn]
  unfold sgnC
  split <;> omega

theorem backJ {E rd rs1 rs2 imm : Int} (E0 : 0 ≤ E) (E1 : E < 4294967296) (hsrc : ∀ i a j, i < 32 → symE layJ i = [(a, j)] → bt E i = if a = 0 then bt rd j else if a = 1 then bt rs1 j else if a = 2 then bt rs2 j else bt imm j)
    (hd : fitsC rd layJ.rd = true) (hr : fitsC rs1 layJ.rs1 = true) (ht : fitsC rs2 layJ.rs2 = true) (hi : holdsC layJ.least layJ.most layJ.even imm = true) : fldC layJ E = ⟨rd, rs1, rs2, imm⟩ := by
  have bd := fitsC_bd hd
  have br := fitsC_bd hr
  have bt' := fitsC_bd ht
  obtain ⟨g1, g2, g3⟩ := reg_sbx E E0 E1
  have bi : -1048576 ≤ imm ∧ imm ≤ 1048574 ∧ imm % 2 = 0 := by
    simp [holdsC, layJ] at hi; omega
  have ed : sbx E 7 5 = rd := ((sbx_congr (fun j hj => by have := hsrc (7 + j) 0 (0 + j) (by omega) ((show ∀ q : Fin 5, symE layJ (7 + q.val) = [(0, 0 + q.val)] by decide) ⟨j, hj⟩); simpa using this)) : sbx E 7 5 = sbx rd 0 5).trans (sbx_reg rd bd.1 bd.2)
  have er : rs1 = 0 := by simpa [fitsC, layJ] using hr
  have et : rs2 = 0 := by simpa [fitsC, layJ] using ht
  have p20 : sbx E 31 1 = sbx imm 20 1 := sbx_congr (fun j hj => by have := hsrc (31 + j) 3 (20 + j) (by omega) ((show ∀ q : Fin 1, symE layJ (31 + q.val) = [(3, 20 + q.val)] by decide) ⟨j, hj⟩); simpa using this)
  have p1 : sbx E 21 10 = sbx imm 1 10 := sbx_congr (fun j hj => by have := hsrc (21 + j) 3 (1 + j) (by omega) ((show ∀ q : Fin 10, symE layJ (21 + q.val) = [(3, 1 + q.val)] by decide) ⟨j, hj⟩); simpa using this)
  have p11 : sbx E 20 1 = sbx imm 11 1 := sbx_congr (fun j hj => by have := hsrc (20 + j) 3 (11 + j) (by omega) ((show ∀ q : Fin 1, symE layJ (20 + q.val) = [(3, 11 + q.val)] by decide) ⟨j, hj⟩); simpa using this)
  have p12 : sbx E 12 8 = sbx imm 12 8 := sbx_congr (fun j hj => by have := hsrc (12 + j) 3 (12 + j) (by omega) ((show ∀ q : Fin 8, symE layJ (12 + q.val) = [(3, 12 + q.val)] by decide) ⟨j, hj⟩); simpa using this)
  show (⟨regC (E / 128) true, 0, 0, sgnC (-1048576) 1048574 (immA layJ E 4)⟩ : Flds) = _
  rw [immSJ E E0 E1, p20, p1, p11, p12, Flds.mk.injEq]
  refine ⟨g1.trans ed, er.symm, et.symm, ?_⟩
  have q20 := sbx_eq imm 20 1
  have q1 := sbx_eq imm 1 10
  have q11 := sbx_eq imm 11 1
  have q12 := sbx_eq imm 12 8
  simp only [pw1, pw8, pw10, pw11, pw12, pw20] at q20 q1 q11 q12
  have hn : sbx imm 20 1 * 1048576 + sbx imm 1 10 * 2 + sbx imm 11 1 * 2048 + sbx imm 12 8 * 4096 = imm % 2097152 := by omega
  rw [hn]
  unfold sgnC
  split <;> omega

theorem backN {E rd rs1 rs2 imm : Int} (E0 : 0 ≤ E) (E1 : E < 4294967296) (hsrc : ∀ i a j, i < 32 → symE layN i = [(a, j)] → bt E i = if a = 0 then bt rd j else if a = 1 then bt rs1 j else if a = 2 then bt rs2 j else bt imm j)
    (hd : fitsC rd layN.rd = true) (hr : fitsC rs1 layN.rs1 = true) (ht : fitsC rs2 layN.rs2 = true) (hi : holdsC layN.least layN.most layN.even imm = true) : fldC layN E = ⟨rd, rs1, rs2, imm⟩ := by
  have bd := fitsC_bd hd
  have br := fitsC_bd hr
  have bt' := fitsC_bd ht
  obtain ⟨g1, g2, g3⟩ := reg_sbx E E0 E1
  have bi : 0 ≤ imm ∧ imm ≤ 0 := by
    simp [holdsC, layN] at hi; omega
  have ed : rd = 0 := by simpa [fitsC, layN] using hd
  have er : rs1 = 0 := by simpa [fitsC, layN] using hr
  have et : rs2 = 0 := by simpa [fitsC, layN] using ht
  show (⟨0, 0, 0, sgnC (0) 0 (immA layN E 4)⟩ : Flds) = _
  rw [immSN E E0 E1, Flds.mk.injEq]
  refine ⟨ed.symm, er.symm, et.symm, ?_⟩
  have : imm = 0 := by omega
  rw [this]; rfl

theorem fld_back {k : Nat} {rd rs1 rs2 imm : Int} (hl : legalC k rd rs1 rs2 imm = true) : fldC (lay (fmtT k)) (encC k rd rs1 rs2 imm) = ⟨rd, rs1, rs2, imm⟩ := by
  have hop := legal_op hl
  have hu := enc_u32 hl
  have hsrc := fun i a j hi hs => enc_src hl (i := i) (a := a) (j := j) hi hs
  have ht := tab_ok (k := k) (by omega) (by omega)
  have hl' := hl
  unfold legalC at hl'
  have hf : fmtOf (k : Int) = fmtT k := by unfold fmtOf; rw [if_pos (by omega), Int.toNat_natCast]
  rw [hf] at hl'
  split at hl'
  · cases hl'
  simp only [Bool.and_eq_true] at hl'
  obtain ⟨⟨⟨h1, h2⟩, h3⟩, h4⟩ := hl'
  have f0 := ht.f0
  have f1 := ht.f1
  generalize fmtT k = f at *
  generalize encC k rd rs1 rs2 imm = E at *
  have hc : f = 1 ∨ f = 2 ∨ f = 3 ∨ f = 4 ∨ f = 5 ∨ f = 6 ∨ f = 7 ∨ f = 8 ∨ f = 9 := by omega
  rcases hc with rfl | rfl | rfl | rfl | rfl | rfl | rfl | rfl | rfl
  · exact backR hu.1 hu.2 hsrc h1 h2 h3 h4
  · exact backI hu.1 hu.2 hsrc h1 h2 h3 h4
  · exact backH hu.1 hu.2 hsrc h1 h2 h3 h4
  · exact backS hu.1 hu.2 hsrc h1 h2 h3 h4
  · exact backB hu.1 hu.2 hsrc h1 h2 h3 h4
  · exact backU hu.1 hu.2 hsrc h1 h2 h3 h4
  · exact backJ hu.1 hu.2 hsrc h1 h2 h3 h4
  · exact backN hu.1 hu.2 hsrc h1 h2 h3 h4
  · exact backN hu.1 hu.2 hsrc h1 h2 h3 h4

/-- What is written of a legal instruction is read as it. -/
theorem round_a {op rd rs1 rs2 imm : Int} (hl : legalC op rd rs1 rs2 imm = true) : decC (encC op rd rs1 rs2 imm) = ⟨op, ⟨rd, rs1, rs2, imm⟩, 0⟩ := by
  have hop := legal_op hl
  obtain ⟨k, rfl⟩ := Int.eq_ofNat_of_zero_le (by omega : 0 ≤ op)
  have hu := enc_u32 hl
  have hb := enc_ok hl
  have h0 : 1 ≤ k := by omega
  have h1 : k ≤ 48 := by omega
  have hlen := (ok_all h0 h1).2
  have hm : matchC (encC k rd rs1 rs2 imm) k = true := by rw [match_eq hu.1 hu.2 h0 h1]; exact match_self hu.1 hu.2 hb
  have hno : ∀ i, 1 ≤ i → i < k → matchC (encC k rd rs1 rs2 imm) i = false := fun i hi hik => by
    rw [match_eq hu.1 hu.2 hi (by omega)]
    exact match_other hu.1 hu.2 hb (by rw [hlen, (ok_all hi (by omega)).2]) (clash_all h0 h1 hi (by omega) hik)
  unfold decC
  rw [dec_first hm 48 1 h0 (by omega) hno, fld_back hl]
end Hm

/-
  The plain mathematics of Round, its second half: what is read is written.
-/
namespace Hm

theorem mod_bit (z : Int) {n j : Nat} (hj : j < n) : z % pw n / pw j % 2 = z / pw j % 2 := by
  have hp := pw_pos j
  have e32 : pw n = pw j * pw (n - j) := by rw [← pw_add, show j + (n - j) = n from by omega]
  have e2 : pw (n - j) = 2 * pw (n - j - 1) := by rw [← pw_succ]; congr 1; omega
  have h := Int.emod_add_mul_ediv z (pw n)
  have h1 : z / pw j = z % pw n / pw j + pw (n - j) * (z / pw n) := by
    conv => lhs; rw [← h]
    rw [show pw n * (z / pw n) = pw j * (pw (n - j) * (z / pw n)) from by rw [← Int.mul_assoc, ← e32]]
    exact Int.add_mul_ediv_left _ _ (by omega)
  rw [h1, e2, Int.mul_assoc]
  generalize pw (n - j - 1) * (z / pw n) = y
  omega
theorem bt_sbx (x : Int) (lo : Nat) {n j : Nat} (hj : j < n) (hn : n ≤ 32) : bt (sbx x lo n) j = bt x (lo + j) := by
  rw [bt_floor _ _ (by omega), sbx_eq, mod_bit _ hj]
  unfold bt
  have := pw_pos lo
  rw [pw_add, Int.ediv_ediv_of_nonneg (by omega)]
theorem bt_sub (n : Int) {m j : Nat} (hj : j < m) (hm : m ≤ 32) : bt (n - pw m) j = bt n j := by
  rw [bt_floor _ _ (by omega), bt_floor _ _ (by omega)]
  have hp := pw_pos j
  have e : pw m = pw j * pw (m - j) := by rw [← pw_add, show j + (m - j) = m from by omega]
  have e2 : pw (m - j) = 2 * pw (m - j - 1) := by rw [← pw_succ]; congr 1; omega
  have h1 : (n - pw m) / pw j = n / pw j + -(pw (m - j)) := by
    rw [Int.sub_eq_add_neg, e, ← Int.mul_neg]
    exact Int.add_mul_ediv_left _ _ (by omega)
  rw [h1, e2]
  generalize pw (m - j - 1) = y
  omega

def symI (L : Lay) (i : Nat) : List (Nat × Nat) := symP L.a0 L.c0 L.f0 i ++ symP L.a1 L.c1 L.f1 i ++ symP L.a2 L.c2 L.f2 i ++ symP L.a3 L.c3 L.f3 i
theorem imm_bits (L : Lay) (x : Int) (x0 : 0 ≤ x) (i : Nat) : (immA L x 4).toNat.testBit i = (symI L i).any (ev (fun _ => false) (fun _ => false) (fun _ => false) (fun j => x.toNat.testBit j)) := by
  have hp : ∀ f c a, (putC f c a x).toNat.testBit i = (symP f c a i).any (ev (fun _ => false) (fun _ => false) (fun _ => false) (fun j => x.toNat.testBit j)) := fun f c a =>
    put_bit f c a x i x0 _ _ _ _ (fun j => by simp [ev])
  have h0 : (0 : Int).toNat.testBit i = false := by simp
  unfold symI
  simp only [immA, orI_bit, hp, h0, List.any_append, Bool.false_or, Bool.or_assoc]

def PosOk (f : Int) (i : Nat) : Prop :=
  (symE (lay f) i = [] ∧ (tellC f).toNat.testBit i = true) ∨ (symE (lay f) i = [(0, i - 7)] ∧ (lay f).rd = true ∧ 7 ≤ i ∧ i < 12) ∨ (symE (lay f) i = [(1, i - 15)] ∧ (lay f).rs1 = true ∧ 15 ≤ i ∧ i < 20) ∨ (symE (lay f) i = [(2, i - 20)] ∧ (lay f).rs2 = true ∧ 20 ≤ i ∧ i < 25)
  ∨ ∃ j : Fin 21, symE (lay f) i = [(3, j.val)] ∧ symI (lay f) j.val = [(3, i)] ∧ (j.val : Int) ≤ hiF f
theorem pos_ok {f : Int} (h0 : 1 ≤ f) (h1 : f ≤ 8) {i : Nat} (hi : i < 32) : PosOk f i := by
  have hf : f = 1 ∨ f = 2 ∨ f = 3 ∨ f = 4 ∨ f = 5 ∨ f = 6 ∨ f = 7 ∨ f = 8 := by omega
  unfold PosOk
  rcases hf with rfl | rfl | rfl | rfl | rfl | rfl | rfl | rfl
  · exact (show ∀ q : Fin 32, (symE (lay 1) q.val = [] ∧ (tellC 1).toNat.testBit q.val = true) ∨ (symE (lay 1) q.val = [(0, q.val - 7)] ∧ (lay 1).rd = true ∧ 7 ≤ q.val ∧ q.val < 12) ∨ (symE (lay 1) q.val = [(1, q.val - 15)] ∧ (lay 1).rs1 = true ∧ 15 ≤ q.val ∧ q.val < 20) ∨ (symE (lay 1) q.val = [(2, q.val - 20)] ∧ (lay 1).rs2 = true ∧ 20 ≤ q.val ∧ q.val < 25) ∨ ∃ j : Fin 21, symE (lay 1) q.val = [(3, j.val)] ∧ symI (lay 1) j.val = [(3, q.val)] ∧ (j.val : Int) ≤ hiF 1 by decide +kernel) ⟨i, hi⟩
  · exact (show ∀ q : Fin 32, (symE (lay 2) q.val = [] ∧ (tellC 2).toNat.testBit q.val = true) ∨ (symE (lay 2) q.val = [(0, q.val - 7)] ∧ (lay 2).rd = true ∧ 7 ≤ q.val ∧ q.val < 12) ∨ (symE (lay 2) q.val = [(1, q.val - 15)] ∧ (lay 2).rs1 = true ∧ 15 ≤ q.val ∧ q.val < 20) ∨ (symE (lay 2) q.val = [(2, q.val - 20)] ∧ (lay 2).rs2 = true ∧ 20 ≤ q.val ∧ q.val < 25) ∨ ∃ j : Fin 21, symE (lay 2) q.val = [(3, j.val)] ∧ symI (lay 2) j.val = [(3, q.val)] ∧ (j.val : Int) ≤ hiF 2 by decide +kernel) ⟨i, hi⟩
  · exact (show ∀ q : Fin 32, (symE (lay 3) q.val = [] ∧ (tellC 3).toNat.testBit q.val = true) ∨ (symE (lay 3) q.val = [(0, q.val - 7)] ∧ (lay 3).rd = true ∧ 7 ≤ q.val ∧ q.val < 12) ∨ (symE (lay 3) q.val = [(1, q.val - 15)] ∧ (lay 3).rs1 = true ∧ 15 ≤ q.val ∧ q.val < 20) ∨ (symE (lay 3) q.val = [(2, q.val - 20)] ∧ (lay 3).rs2 = true ∧ 20 ≤ q.val ∧ q.val < 25) ∨ ∃ j : Fin 21, symE (lay 3) q.val = [(3, j.val)] ∧ symI (lay 3) j.val = [(3, q.val)] ∧ (j.val : Int) ≤ hiF 3 by decide +kernel) ⟨i, hi⟩
  · exact (show ∀ q : Fin 32, (symE (lay 4) q.val = [] ∧ (tellC 4).toNat.testBit q.val = true) ∨ (symE (lay 4) q.val = [(0, q.val - 7)] ∧ (lay 4).rd = true ∧ 7 ≤ q.val ∧ q.val < 12) ∨ (symE (lay 4) q.val = [(1, q.val - 15)] ∧ (lay 4).rs1 = true ∧ 15 ≤ q.val ∧ q.val < 20) ∨ (symE (lay 4) q.val = [(2, q.val - 20)] ∧ (lay 4).rs2 = true ∧ 20 ≤ q.val ∧ q.val < 25) ∨ ∃ j : Fin 21, symE (lay 4) q.val = [(3, j.val)] ∧ symI (lay 4) j.val = [(3, q.val)] ∧ (j.val : Int) ≤ hiF 4 by decide +kernel) ⟨i, hi⟩
  · exact (show ∀ q : Fin 32, (symE (lay 5) q.val = [] ∧ (tellC 5).toNat.testBit q.val = true) ∨ (symE (lay 5) q.val = [(0, q.val - 7)] ∧ (lay 5).rd = true ∧ 7 ≤ q.val ∧ q.val < 12) ∨ (symE (lay 5) q.val = [(1, q.val - 15)] ∧ (lay 5).rs1 = true ∧ 15 ≤ q.val ∧ q.val < 20) ∨ (symE (lay 5) q.val = [(2, q.val - 20)] ∧ (lay 5).rs2 = true ∧ 20 ≤ q.val ∧ q.val < 25) ∨ ∃ j : Fin 21, symE (lay 5) q.val = [(3, j.val)] ∧ symI (lay 5) j.val = [(3, q.val)] ∧ (j.val : Int) ≤ hiF 5 by decide +kernel) ⟨i, hi⟩
  · exact (show ∀ q : Fin 32, (symE (lay 6) q.val = [] ∧ (tellC 6).toNat.testBit q.val = true) ∨ (symE (lay 6) q.val = [(0, q.val - 7)] ∧ (lay 6).rd = true ∧ 7 ≤ q.val ∧ q.val < 12) ∨ (symE (lay 6) q.val = [(1, q.val - 15)] ∧ (lay 6).rs1 = true ∧ 15 ≤ q.val ∧ q.val < 20) ∨ (symE (lay 6) q.val = [(2, q.val - 20)] ∧ (lay 6).rs2 = true ∧ 20 ≤ q.val ∧ q.val < 25) ∨ ∃ j : Fin 21, symE (lay 6) q.val = [(3, j.val)] ∧ symI (lay 6) j.val = [(3, q.val)] ∧ (j.val : Int) ≤ hiF 6 by decide +kernel) ⟨i, hi⟩
  · exact (show ∀ q : Fin 32, (symE (lay 7) q.val = [] ∧ (tellC 7).toNat.testBit q.val = true) ∨ (symE (lay 7) q.val = [(0, q.val - 7)] ∧ (lay 7).rd = true ∧ 7 ≤ q.val ∧ q.val < 12) ∨ (symE (lay 7) q.val = [(1, q.val - 15)] ∧ (lay 7).rs1 = true ∧ 15 ≤ q.val ∧ q.val < 20) ∨ (symE (lay 7) q.val = [(2, q.val - 20)] ∧ (lay 7).rs2 = true ∧ 20 ≤ q.val ∧ q.val < 25) ∨ ∃ j : Fin 21, symE (lay 7) q.val = [(3, j.val)] ∧ symI (lay 7) j.val = [(3, q.val)] ∧ (j.val : Int) ≤ hiF 7 by decide +kernel) ⟨i, hi⟩
  · exact (show ∀ q : Fin 32, (symE (lay 8) q.val = [] ∧ (tellC 8).toNat.testBit q.val = true) ∨ (symE (lay 8) q.val = [(0, q.val - 7)] ∧ (lay 8).rd = true ∧ 7 ≤ q.val ∧ q.val < 12) ∨ (symE (lay 8) q.val = [(1, q.val - 15)] ∧ (lay 8).rs1 = true ∧ 15 ≤ q.val ∧ q.val < 20) ∨ (symE (lay 8) q.val = [(2, q.val - 20)] ∧ (lay 8).rs2 = true ∧ 20 ≤ q.val ∧ q.val < 25) ∨ ∃ j : Fin 21, symE (lay 8) q.val = [(3, j.val)] ∧ symI (lay 8) j.val = [(3, q.val)] ∧ (j.val : Int) ≤ hiF 8 by decide +kernel) ⟨i, hi⟩
theorem symE_far (L : Lay) {i : Nat} (hi : 32 ≤ i) : symE L i = [] := by
  unfold symE symP
  simp [show ¬ i < 12 from by omega, show ¬ i < 20 from by omega, show ¬ i < 25 from by omega, show ¬ i < 32 from by omega]
theorem sgn_bit (f n : Int) (h0 : 1 ≤ f) (h1 : f ≤ 8) {j : Nat} (hj : (j : Int) ≤ hiF f) : bt (sgnC (lay f).least (lay f).most n) j = bt n j := by
  have hf : f = 1 ∨ f = 2 ∨ f = 3 ∨ f = 4 ∨ f = 5 ∨ f = 6 ∨ f = 7 ∨ f = 8 := by omega
  unfold sgnC
  split
  · rcases hf with rfl | rfl | rfl | rfl | rfl | rfl | rfl | rfl
    · show bt (n + 2 * 0) j = bt n j; rw [show n + 2 * 0 = n from by omega]
    · have hj' : j < 12 := by have : (j : Int) ≤ 11 := hj; omega
      show bt (n + 2 * (-2048)) j = bt n j
      have e : pw 12 = 4096 := by decide
      rw [show n + 2 * (-2048) = n - pw 12 from by omega]
      exact bt_sub n hj' (by decide)
    · show bt (n + 2 * 0) j = bt n j; rw [show n + 2 * 0 = n from by omega]
    · have hj' : j < 12 := by have : (j : Int) ≤ 11 := hj; omega
      show bt (n + 2 * (-2048)) j = bt n j
      have e : pw 12 = 4096 := by decide
      rw [show n + 2 * (-2048) = n - pw 12 from by omega]
      exact bt_sub n hj' (by decide)
    · have hj' : j < 13 := by have : (j : Int) ≤ 12 := hj; omega
      show bt (n + 2 * (-4096)) j = bt n j
      have e : pw 13 = 8192 := by decide
      rw [show n + 2 * (-4096) = n - pw 13 from by omega]
      exact bt_sub n hj' (by decide)
    · show bt (n + 2 * 0) j = bt n j; rw [show n + 2 * 0 = n from by omega]
    · have hj' : j < 21 := by have : (j : Int) ≤ 20 := hj; omega
      show bt (n + 2 * (-1048576)) j = bt n j
      have e : pw 21 = 2097152 := by decide
      rw [show n + 2 * (-1048576) = n - pw 21 from by omega]
      exact bt_sub n hj' (by decide)
    · show bt (n + 2 * 0) j = bt n j; rw [show n + 2 * 0 = n from by omega]
  · rfl

/-- The bits of what was read. -/
theorem bits_b {k : Nat} {x : Int} (x0 : 0 ≤ x) (x1 : x < 4294967296) (h0 : 1 ≤ k) (h1 : k ≤ 48) (hf : fmtT k ≤ 8) (hm : matchC x k = true) (i : Nat) :
    x.toNat.testBit i = ((bitT k).toNat.testBit i || (symE (lay (fmtT k)) i).any (ev (fun j => ((fldC (lay (fmtT k)) x).d % 4294967296).toNat.testBit j) (fun j => ((fldC (lay (fmtT k)) x).r % 4294967296).toNat.testBit j) (fun j => ((fldC (lay (fmtT k)) x).t % 4294967296).toNat.testBit j) (fun j => ((fldC (lay (fmtT k)) x).imm % 4294967296).toNat.testBit j))) := by
  have ht := tab_ok h0 h1
  obtain ⟨_, _, hlt, hnn⟩ := okM_all h0 h1
  obtain ⟨g1, g2, g3⟩ := reg_sbx x x0 x1
  have ex : x % 4294967296 = x := by omega
  by_cases hi : i < 32
  · have hand : x.toNat &&& (tellC (fmtT k)).toNat = (bitT k).toNat := by
      unfold matchC andI at hm
      rw [beq_iff_eq] at hm
      rw [← hm, Int.toNat_natCast]
    rcases pos_ok ht.f0 hf hi with ⟨hs, htl⟩ | ⟨hs, hu, ha, hb⟩ | ⟨hs, hu, ha, hb⟩ | ⟨hs, hu, ha, hb⟩ | ⟨j, hs, hI, hj⟩
    · rw [hs, ← hand, Nat.testBit_and, htl]; simp
    · rw [hs, no_bit h0 h1 hi (by rw [hs]; simp)]
      have e : (fldC (lay (fmtT k)) x).d = sbx x 7 5 := by show regC (x / 128) (lay (fmtT k)).rd = _; rw [hu, g1]
      simp only [List.any_cons, List.any_nil, Bool.or_false, Bool.false_or]
      show _ = ((fldC (lay (fmtT k)) x).d % 4294967296).toNat.testBit (i - 7)
      apply b01_inj
      rw [← bt_nat, e, bt_sbx x 7 (by omega) (by decide), bt_nat, ex, show 7 + (i - 7) = i from by omega]
    · rw [hs, no_bit h0 h1 hi (by rw [hs]; simp)]
      have e : (fldC (lay (fmtT k)) x).r = sbx x 15 5 := by show regC (x / 32768) (lay (fmtT k)).rs1 = _; rw [hu, g2]
      simp only [List.any_cons, List.any_nil, Bool.or_false, Bool.false_or]
      show _ = ((fldC (lay (fmtT k)) x).r % 4294967296).toNat.testBit (i - 15)
      apply b01_inj
      rw [← bt_nat, e, bt_sbx x 15 (by omega) (by decide), bt_nat, ex, show 15 + (i - 15) = i from by omega]
    · rw [hs, no_bit h0 h1 hi (by rw [hs]; simp)]
      have e : (fldC (lay (fmtT k)) x).t = sbx x 20 5 := by show regC (x / 1048576) (lay (fmtT k)).rs2 = _; rw [hu, g3]
      simp only [List.any_cons, List.any_nil, Bool.or_false, Bool.false_or]
      show _ = ((fldC (lay (fmtT k)) x).t % 4294967296).toNat.testBit (i - 20)
      apply b01_inj
      rw [← bt_nat, e, bt_sbx x 20 (by omega) (by decide), bt_nat, ex, show 20 + (i - 20) = i from by omega]
    · rw [hs, no_bit h0 h1 hi (by rw [hs]; simp)]
      simp only [List.any_cons, List.any_nil, Bool.or_false, Bool.false_or]
      show _ = ((fldC (lay (fmtT k)) x).imm % 4294967296).toNat.testBit j.val
      have hu := immA_u32 (L := lay (fmtT k)) (x := x) 4
      have en : immA (lay (fmtT k)) x 4 % 4294967296 = immA (lay (fmtT k)) x 4 := by have := hu.1; have := hu.2; omega
      have hb := imm_bits (lay (fmtT k)) x x0 j.val
      rw [hI] at hb
      have hb' : (immA (lay (fmtT k)) x 4).toNat.testBit j.val = x.toNat.testBit i := by rw [hb]; simp [ev]
      apply b01_inj
      rw [← bt_nat]
      show _ = bt (sgnC (lay (fmtT k)).least (lay (fmtT k)).most (immA (lay (fmtT k)) x 4)) j.val
      rw [sgn_bit _ _ ht.f0 hf hj, bt_nat, en, hb']
  · have hp : 2 ^ 32 ≤ 2 ^ i := Nat.pow_le_pow_right (by decide) (by omega)
    have e32 : (2 : Nat) ^ 32 = 4294967296 := by decide
    have hx : x.toNat < 2 ^ 32 := by omega
    rw [symE_far _ (by omega), Nat.testBit_lt_two_pow (Nat.lt_of_lt_of_le hx hp), Nat.testBit_lt_two_pow (Nat.lt_of_lt_of_le hlt hp)]; rfl

/-- What was read is legal. -/
theorem legal_b {k : Nat} {x : Int} (x0 : 0 ≤ x) (x1 : x < 4294967296) (h0 : 1 ≤ k) (h1 : k ≤ 48) : legalC k (fldC (lay (fmtT k)) x).d (fldC (lay (fmtT k)) x).r (fldC (lay (fmtT k)) x).t (fldC (lay (fmtT k)) x).imm = true := by
  have ht := tab_ok h0 h1
  have f0 := ht.f0
  have f1 := ht.f1
  have hf : fmtOf (k : Int) = fmtT k := by unfold fmtOf; rw [if_pos (by omega), Int.toNat_natCast]
  unfold legalC
  rw [hf, if_neg (by omega)]
  have hreg : ∀ (y : Int) (u : Bool), fitsC (regC y u) u = true := fun y u => by
    cases u
    · rfl
    · simp [fitsC, regC]; omega
  have e1 : fitsC (fldC (lay (fmtT k)) x).d (lay (fmtT k)).rd = true := hreg _ _
  have e2 : fitsC (fldC (lay (fmtT k)) x).r (lay (fmtT k)).rs1 = true := hreg _ _
  have e3 : fitsC (fldC (lay (fmtT k)) x).t (lay (fmtT k)).rs2 = true := hreg _ _
  rw [e1, e2, e3, Bool.true_and, Bool.true_and, Bool.true_and]
  show holdsC _ _ _ (sgnC (lay (fmtT k)).least (lay (fmtT k)).most (immA (lay (fmtT k)) x 4)) = true
  generalize fmtT k = f at *
  have hc : f = 1 ∨ f = 2 ∨ f = 3 ∨ f = 4 ∨ f = 5 ∨ f = 6 ∨ f = 7 ∨ f = 8 ∨ f = 9 := by omega
  rcases hc with rfl | rfl | rfl | rfl | rfl | rfl | rfl | rfl | rfl
  · show holdsC (0) 0 false (sgnC (0) 0 (immA layR x 4)) = true
    rw [immSR x x0 x1]
    decide
  · show holdsC (-2048) 2047 false (sgnC (-2048) 2047 (immA layI x 4)) = true
    rw [immSI x x0 x1]
    have b0 := sbx_bd x 20 12
    simp only [pw12] at b0
    unfold holdsC sgnC
    rw [decide_eq_true_iff]
    split <;> simp <;> omega
  · show holdsC (0) 31 false (sgnC (0) 31 (immA layH x 4)) = true
    rw [immSH x x0 x1]
    have b0 := sbx_bd x 20 5
    simp only [pw5] at b0
    unfold holdsC sgnC
    rw [decide_eq_true_iff]
    split <;> simp <;> omega
  · show holdsC (-2048) 2047 false (sgnC (-2048) 2047 (immA layS x 4)) = true
    rw [immSS x x0 x1]
    have b0 := sbx_bd x 25 7
    have b1 := sbx_bd x 7 5
    simp only [pw5, pw7] at b0 b1
    unfold holdsC sgnC
    rw [decide_eq_true_iff]
    split <;> simp <;> omega
  · show holdsC (-4096) 4094 true (sgnC (-4096) 4094 (immA layB x 4)) = true
    rw [immSB x x0 x1]
    have b0 := sbx_bd x 31 1
    have b1 := sbx_bd x 25 6
    have b2 := sbx_bd x 8 4
    have b3 := sbx_bd x 7 1
    simp only [pw1, pw4, pw6] at b0 b1 b2 b3
    unfold holdsC sgnC
    rw [decide_eq_true_iff]
    split <;> simp <;> omega
  · show holdsC (0) 1048575 false (sgnC (0) 1048575 (immA layU x 4)) = true
    rw [immSU x x0 x1]
    have b0 := sbx_bd x 12 20
    simp only [pw20] at b0
    unfold holdsC sgnC
    rw [decide_eq_true_iff]
    split <;> simp <;> omega
  · show holdsC (-1048576) 1048574 true (sgnC (-1048576) 1048574 (immA layJ x 4)) = true
    rw [immSJ x x0 x1]
    have b0 := sbx_bd x 31 1
    have b1 := sbx_bd x 21 10
    have b2 := sbx_bd x 20 1
    have b3 := sbx_bd x 12 8
    simp only [pw1, pw8, pw10] at b0 b1 b2 b3
    unfold holdsC sgnC
    rw [decide_eq_true_iff]
    split <;> simp <;> omega
  · show holdsC (0) 0 false (sgnC (0) 0 (immA layN x 4)) = true
    rw [immSN x x0 x1]
    decide
  · show holdsC (0) 0 false (sgnC (0) 0 (immA layN x 4)) = true
    rw [immSN x x0 x1]
    decide

/-- What was read is written as it was, but of a fence. -/
theorem enc_b {k : Nat} {x : Int} (x0 : 0 ≤ x) (x1 : x < 4294967296) (h0 : 1 ≤ k) (h1 : k ≤ 48) (hf : fmtT k ≤ 8) (hm : matchC x k = true) :
    encC k (fldC (lay (fmtT k)) x).d (fldC (lay (fmtT k)) x).r (fldC (lay (fmtT k)) x).t (fldC (lay (fmtT k)) x).imm = x := by
  have hl := legal_b x0 x1 h0 h1 (x := x)
  have hu := enc_u32 hl
  have hb := enc_ok hl
  obtain ⟨ok, hlen⟩ := ok_all h0 h1
  have hbits := bits_b x0 x1 h0 h1 hf hm
  have e32 : pw 32 = 4294967296 := by decide
  obtain ⟨N, rfl⟩ := Int.eq_ofNat_of_zero_le x0
  rw [Int.toNat_natCast] at hbits
  have hb2 := bitsOk_of hbits ok
  have a1 := fill_unique hb (w := 0) (by rw [hlen, e32]; have := hu.1; have := hu.2; omega)
  have a2 := fill_unique hb2 (w := 0) (by rw [hlen, e32]; omega)
  exact a1.trans a2.symm
theorem fence_fmt {k : Nat} (h0 : 1 ≤ k) (h1 : k ≤ 48) (hf : ¬ fmtT k ≤ 8) : k = 46 := by
  have : ∀ j : Fin 49, j.val = 0 ∨ fmtT j ≤ 8 ∨ j.val = 46 := by decide +kernel
  rcases this ⟨k, by omega⟩ with h | h | h
  · simp at h; omega
  · exact absurd h hf
  · exact h

/-- Of every 32 bits. -/
def RoundB (x : Int) (D : Dec) : Prop := D = ⟨0, ⟨0, 0, 0, 0⟩, 2⟩ ∨ (D.err = 0 ∧ legalC D.op D.f.d D.f.r D.f.t D.f.imm = true ∧ (encC D.op D.f.d D.f.r D.f.t D.f.imm = x ∨ D.op = 46))
theorem round_b {x : Int} (x0 : 0 ≤ x) (x1 : x < 4294967296) : RoundB x (decC x) := by
  have h : ∀ n k, 1 ≤ k → k + n = 49 → RoundB x (decCFrom x n k) := by
    intro n
    induction n with
    | zero => intro k _ _; exact Or.inl rfl
    | succ n ih =>
      intro k hk hn
      cases hc : matchC x k with
      | false => rw [decCFrom_no hc]; exact ih (k + 1) (by omega) (by omega)
      | true =>
        rw [decCFrom_yes hc]
        refine Or.inr ⟨rfl, legal_b x0 x1 hk (by omega), ?_⟩
        by_cases hf : fmtT k ≤ 8
        · exact Or.inl (enc_b x0 x1 hk (by omega) hf hc)
        · right; have := fence_fmt hk (by omega) hf; subst this; rfl
  exact h 48 1 (by omega) (by omega)

/-! ### What raw numbers speak of is legal -/
def fmtR (op : Int) : Int := if op ≤ 2 then 6 else if op = 3 then 7 else if 5 ≤ op ∧ op ≤ 10 then 5 else if 16 ≤ op ∧ op ≤ 18 then 4 else if 25 ≤ op ∧ op ≤ 27 then 3 else if 28 ≤ op ∧ op ≤ 45 then 1 else if op < 46 then 2 else if op = 46 then 9 else 8
theorem fmtR_eq {op : Int} (h0 : 1 ≤ op) (h1 : op ≤ 48) : fmtOf op = fmtR op := by
  obtain ⟨k, rfl⟩ := Int.eq_ofNat_of_zero_le (by omega : 0 ≤ op)
  have : ∀ j : Fin 49, j.val = 0 ∨ fmtT j = fmtR (j.val : Int) := by decide +kernel
  unfold fmtOf
  rw [if_pos ⟨h0, h1⟩, Int.toNat_natCast]
  rcases this ⟨k, by omega⟩ with h | h
  · simp at h; omega
  · exact h
theorem fits_pick (c : Int) : fitsC (pickI c 32) true = true := by
  have := pick_bd c 32 (by omega)
  simp [fitsC]; omega
theorem inst_legal (op rd rs1 rs2 imm : Int) (h0 : 1 ≤ op) (h1 : op ≤ 48) : legalC op (instF op rd rs1 rs2 imm).d (instF op rd rs1 rs2 imm).r (instF op rd rs1 rs2 imm).t (instF op rd rs1 rs2 imm).imm = true := by
  have i20 := pick_bd imm 1048576 (by omega)
  have i12 := pick_bd imm 4096 (by omega)
  have i5 := pick_bd imm 32 (by omega)
  have pd := fits_pick rd
  have ps := fits_pick rs1
  have pt := fits_pick rs2
  have z : fitsC 0 false = true := rfl
  unfold legalC
  rw [fmtR_eq h0 h1]
  unfold fmtR instF
  by_cases c1 : op ≤ 2
  · simp only [if_pos c1]
    rw [if_neg (by decide), Bool.and_eq_true, Bool.and_eq_true, Bool.and_eq_true]
    exact ⟨⟨⟨pd, z⟩, z⟩, by show holdsC 0 1048575 false _ = true; simp [holdsC]; omega⟩
  simp only [if_neg c1]
  by_cases c2 : op = 3
  · simp only [if_pos c2]
    rw [if_neg (by decide), Bool.and_eq_true, Bool.and_eq_true, Bool.and_eq_true]
    exact ⟨⟨⟨pd, z⟩, z⟩, by show holdsC (-1048576) 1048574 true _ = true; simp [holdsC]; omega⟩
  simp only [if_neg c2]
  by_cases c3 : 5 ≤ op ∧ op ≤ 10
  · simp only [if_pos c3]
    rw [if_neg (by decide), Bool.and_eq_true, Bool.and_eq_true, Bool.and_eq_true]
    exact ⟨⟨⟨z, ps⟩, pt⟩, by show holdsC (-4096) 4094 true _ = true; simp [holdsC]; omega⟩
  simp only [if_neg c3]
  by_cases c4 : 16 ≤ op ∧ op ≤ 18
  · simp only [if_pos c4]
    rw [if_neg (by decide), Bool.and_eq_true, Bool.and_eq_true, Bool.and_eq_true]
    exact ⟨⟨⟨z, ps⟩, pt⟩, by show holdsC (-2048) 2047 false _ = true; simp [holdsC]; omega⟩
  simp only [if_neg c4]
  by_cases c5 : 25 ≤ op ∧ op ≤ 27
  · simp only [if_pos c5]
    rw [if_neg (by decide), Bool.and_eq_true, Bool.and_eq_true, Bool.and_eq_true]
    exact ⟨⟨⟨pd, ps⟩, z⟩, by show holdsC 0 31 false _ = true; simp [holdsC]; omega⟩
  simp only [if_neg c5]
  by_cases c6 : 28 ≤ op ∧ op ≤ 45
  · simp only [if_pos c6]
    rw [if_neg (by decide), Bool.and_eq_true, Bool.and_eq_true, Bool.and_eq_true]
    exact ⟨⟨⟨pd, ps⟩, pt⟩, rfl⟩
  simp only [if_neg c6]
  by_cases c7 : op < 46
  · simp only [if_pos c7]
    rw [if_neg (by decide), Bool.and_eq_true, Bool.and_eq_true, Bool.and_eq_true]
    exact ⟨⟨⟨pd, ps⟩, z⟩, by show holdsC (-2048) 2047 false _ = true; simp [holdsC]; omega⟩
  simp only [if_neg c7]
  by_cases c8 : op = 46
  · simp only [if_pos c8]; decide
  · simp only [if_neg c8]; decide
end Hm

/-
  Mathematics of Pressed on package code's functions. Nothing of the dump is imported.
-/
namespace Hm
structure PressA (x : Int) (D : Dec) (q : Int) : Prop where
  legal : legalC D.op D.f.d D.f.r D.f.t D.f.imm = true
  err : compCE D.op D.f.d D.f.r D.f.t D.f.imm = 0
  comp : compC D.op D.f.d D.f.r D.f.t D.f.imm = q
  q0 : 0 ≤ q
  le : q ≤ x
  back : expC q = D
theorem press_a {x : Int} (h0 : 0 ≤ x) (h1 : x < 65536) (he : (expC x).err = 0) : ∃ q, PressA x (expC x) q := by
  have hx := exp_eq h0 h1
  rw [← hx] at he ⊢
  obtain ⟨a, b, c, d, e⟩ := exp_back h0 h1 he
  refine ⟨_, ⟨?_, ?_, rfl, ?_, ?_, ?_⟩⟩
  · rw [legal_eq]; exact a
  · rw [← compE_eq]; exact b
  · rw [← comp_eq]; exact c
  · rw [← comp_eq]; exact d
  · rw [← comp_eq, ← exp_eq c (by omega)]; exact e
theorem press_err {x : Int} (h0 : 0 ≤ x) (h1 : x < 65536) : (expC x).err = 0 ∨ (expC x = ⟨0, ⟨0, 0, 0, 0⟩, 3⟩ ∧ x % 4 = 3) ∨ (expC x = ⟨0, ⟨0, 0, 0, 0⟩, 2⟩ ∧ x % 4 ≠ 3) := by
  rw [← exp_eq h0 h1]; exact exp_err x
theorem press_b {op d r t i : Int} (hl : legalC op d r t i = true) : (compCE op d r t i = 4 ∧ compC op d r t i = 0) ∨ (compCE op d r t i = 0 ∧ 0 ≤ compC op d r t i ∧ compC op d r t i < 65536 ∧ expC (compC op d r t i) = ⟨op, ⟨d, r, t, i⟩, 0⟩) := by
  have hl' : legalR op d r t i = true := by rw [← legal_eq]; exact hl
  by_cases h : 0 ≤ leastTo op d r t i 26
  · right
    have he : compE op d r t i = 0 := by unfold compE; rw [if_pos hl', if_pos h]
    obtain ⟨a, b, c⟩ := comp_back he
    rw [compE_eq] at he
    rw [comp_eq] at a b c
    exact ⟨he, a, b, by rw [← exp_eq a b]; exact c⟩
  · left
    rw [← compE_eq, ← comp_eq]
    constructor
    · unfold compE; rw [if_pos hl', if_neg h]
    · unfold compR; rw [if_neg (fun hh => h hh.2)]
end Hm
