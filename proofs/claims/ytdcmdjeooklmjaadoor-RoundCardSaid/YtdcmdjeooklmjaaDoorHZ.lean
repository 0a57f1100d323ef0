/-
  Z4 Z5 in one text.
-/
import Derived.Test.YtdcmdjeooklmjaaDoorGD
set_option linter.unusedVariables false
set_option linter.unusedSimpArgs false
/-
  The plain mathematics: the fields that package code reads are the document's.
-/
namespace Hm

def stripC (c : UInt8) : UInt8 := if (c.toNat : Int) = 100 ∨ (c.toNat : Int) = 115 ∨ (c.toNat : Int) = 116 ∨ (65 ≤ (c.toNat : Int) ∧ (c.toNat : Int) ≤ 85) then c else 45
theorem rstep_strip (f : Flds) (c : UInt8) (b : Int) : rstep f (stripC c) b = rstep f c b := by
  unfold stripC
  split
  · rfl
  · rename_i h
    unfold rstep
    rw [if_neg (by decide), if_neg (by decide), if_neg (by decide), if_neg (by decide), if_neg (by omega), if_neg (by omega), if_neg (by omega), if_neg (by omega)]
theorem foldF_strip (x : Int) : ∀ (l : List UInt8) (f : Flds), foldF x (l.map stripC) f = foldF x l f
  | [], f => rfl
  | c :: l, f => by
    rw [List.map_cons, foldF, foldF, rstep_strip, List.length_map, foldF_strip x l]

def patR : List UInt8 := [45, 45, 45, 45, 45, 45, 45, 116, 116, 116, 116, 116, 115, 115, 115, 115, 115, 45, 45, 45, 100, 100, 100, 100, 100, 45, 45, 45, 45, 45, 45, 45]
def patI : List UInt8 := [76, 75, 74, 73, 72, 71, 70, 69, 68, 67, 66, 65, 115, 115, 115, 115, 115, 45, 45, 45, 100, 100, 100, 100, 100, 45, 45, 45, 45, 45, 45, 45]
def patH : List UInt8 := [45, 45, 45, 45, 45, 45, 45, 69, 68, 67, 66, 65, 115, 115, 115, 115, 115, 45, 45, 45, 100, 100, 100, 100, 100, 45, 45, 45, 45, 45, 45, 45]
def patS : List UInt8 := [76, 75, 74, 73, 72, 71, 70, 116, 116, 116, 116, 116, 115, 115, 115, 115, 115, 45, 45, 45, 69, 68, 67, 66, 65, 45, 45, 45, 45, 45, 45, 45]
def patB : List UInt8 := [77, 75, 74, 73, 72, 71, 70, 116, 116, 116, 116, 116, 115, 115, 115, 115, 115, 45, 45, 45, 69, 68, 67, 66, 76, 45, 45, 45, 45, 45, 45, 45]
def patU : List UInt8 := [84, 83, 82, 81, 80, 79, 78, 77, 76, 75, 74, 73, 72, 71, 70, 69, 68, 67, 66, 65, 100, 100, 100, 100, 100, 45, 45, 45, 45, 45, 45, 45]
def patJ : List UInt8 := [85, 75, 74, 73, 72, 71, 70, 69, 68, 67, 66, 76, 84, 83, 82, 81, 80, 79, 78, 77, 100, 100, 100, 100, 100, 45, 45, 45, 45, 45, 45, 45]
def patN : List UInt8 := [45, 45, 45, 45, 45, 45, 45, 45, 45, 45, 45, 45, 45, 45, 45, 45, 45, 45, 45, 45, 45, 45, 45, 45, 45, 45, 45, 45, 45, 45, 45, 45]
def patF (f : Int) : List UInt8 := if f = 1 then patR else if f = 2 then patI else if f = 3 then patH else if f = 4 then patS else if f = 5 then patB else if f = 6 then patU else if f = 7 then patJ else patN
theorem strip_all {k : Nat} (h0 : 1 ≤ k) (h1 : k ≤ 48) : (bitsL k).map stripC = patF (fmtT k) := by
  have : ∀ j : Fin 49, j.val = 0 ∨ (bitsL j).map stripC = patF (fmtT j) := by decide +kernel
  rcases this ⟨k, by omega⟩ with h | h
  · simp at h; omega
  · exact h

/-- The number that n bits from lo on are. -/
def sbx (x : Int) (lo : Nat) : Nat → Int
  | 0 => 0
  | n + 1 => sbx x lo n + bt x (lo + n) * pw n
theorem pw_add (a b : Nat) : pw (a + b) = pw a * pw b := by unfold pw; exact Int.pow_add 2 a b
theorem sbx_eq (x : Int) (lo : Nat) : ∀ n, sbx x lo n = x % 4294967296 / pw lo % pw n
  | 0 => by simp [sbx, pw]
  | n + 1 => by
    rw [sbx, sbx_eq x lo n]
    unfold bt
    generalize x % 4294967296 = y
    have hl := pw_pos lo
    have hn := pw_pos n
    rw [pw_add, ← Int.ediv_ediv_of_nonneg (by omega)]
    generalize y / pw lo = q
    rw [pw_succ]
    generalize hP : pw n = P at *
    have h1 := Int.emod_add_mul_ediv q P
    have h2 := Int.emod_add_mul_ediv q (2 * P)
    have h3 : q / (2 * P) = q / P / 2 := by rw [Int.mul_comm, Int.ediv_ediv_of_nonneg (by omega)]
    have h4 := Int.emod_add_mul_ediv (q / P) 2
    rw [h3] at h2
    generalize q / P = s at *
    generalize s / 2 = t at *
    generalize s % 2 = b at *
    have e1 : P * s = P * b + 2 * (P * t) := by rw [← h4, Int.mul_add, ← Int.mul_assoc, Int.mul_comm P 2, Int.mul_assoc]
    have e2 : 2 * P * t = 2 * (P * t) := Int.mul_assoc 2 P t
    have e3 : b * P = P * b := Int.mul_comm b P
    rw [e1] at h1
    rw [e2] at h2
    rw [e3]
    omega

theorem pw0 : pw 0 = 1 := by decide
theorem pw1 : pw 1 = 2 := by decide
theorem pw2 : pw 2 = 4 := by decide
theorem pw3 : pw 3 = 8 := by decide
theorem pw4 : pw 4 = 16 := by decide
theorem pw5 : pw 5 = 32 := by decide
theorem pw6 : pw 6 = 64 := by decide
theorem pw7 : pw 7 = 128 := by decide
theorem pw8 : pw 8 = 256 := by decide
theorem pw9 : pw 9 = 512 := by decide
theorem pw10 : pw 10 = 1024 := by decide
theorem pw11 : pw 11 = 2048 := by decide
theorem pw12 : pw 12 = 4096 := by decide
theorem pw13 : pw 13 = 8192 := by decide
theorem pw14 : pw 14 = 16384 := by decide
theorem pw15 : pw 15 = 32768 := by decide
theorem pw16 : pw 16 = 65536 := by decide
theorem pw17 : pw 17 = 131072 := by decide
theorem pw18 : pw 18 = 262144 := by decide
theorem pw19 : pw 19 = 524288 := by decide
theorem pw20 : pw 20 = 1048576 := by decide
set_option maxRecDepth 10000 in
theorem foldR (x : Int) : foldF x patR ⟨0, 0, 0, 0⟩ = ⟨sbx x 7 5, sbx x 15 5, sbx x 20 5, 0⟩ := by
  simp [patR, foldF, rstep, sbx, pw0, pw1, pw2, pw3, pw4, pw5, pw6, pw7, pw8, pw9, pw10, pw11, pw12, pw13, pw14, pw15, pw16, pw17, pw18, pw19, pw20]
  omega
set_option maxRecDepth 10000 in
theorem foldI (x : Int) : foldF x patI ⟨0, 0, 0, 0⟩ = ⟨sbx x 7 5, sbx x 15 5, 0, sbx x 20 12⟩ := by
  simp [patI, foldF, rstep, sbx, pw0, pw1, pw2, pw3, pw4, pw5, pw6, pw7, pw8, pw9, pw10, pw11, pw12, pw13, pw14, pw15, pw16, pw17, pw18, pw19, pw20]
  omega
set_option maxRecDepth 10000 in
theorem foldH (x : Int) : foldF x patH ⟨0, 0, 0, 0⟩ = ⟨sbx x 7 5, sbx x 15 5, 0, sbx x 20 5⟩ := by
  simp [patH, foldF, rstep, sbx, pw0, pw1, pw2, pw3, pw4, pw5, pw6, pw7, pw8, pw9, pw10, pw11, pw12, pw13, pw14, pw15, pw16, pw17, pw18, pw19, pw20]
  omega
set_option maxRecDepth 10000 in
theorem foldS (x : Int) : foldF x patS ⟨0, 0, 0, 0⟩ = ⟨0, sbx x 15 5, sbx x 20 5, sbx x 25 7 * 32 + sbx x 7 5⟩ := by
  simp [patS, foldF, rstep, sbx, pw0, pw1, pw2, pw3, pw4, pw5, pw6, pw7, pw8, pw9, pw10, pw11, pw12, pw13, pw14, pw15, pw16, pw17, pw18, pw19, pw20]
  omega
set_option maxRecDepth 10000 in
theorem foldB (x : Int) : foldF x patB ⟨0, 0, 0, 0⟩ = ⟨0, sbx x 15 5, sbx x 20 5, sbx x 31 1 * 4096 + sbx x 25 6 * 32 + sbx x 8 4 * 2 + sbx x 7 1 * 2048⟩ := by
  simp [patB, foldF, rstep, sbx, pw0, pw1, pw2, pw3, pw4, pw5, pw6, pw7, pw8, pw9, pw10, pw11, pw12, pw13, pw14, pw15, pw16, pw17, pw18, pw19, pw20]
  omega
set_option maxRecDepth 10000 in
theorem foldU (x : Int) : foldF x patU ⟨0, 0, 0, 0⟩ = ⟨sbx x 7 5, 0, 0, sbx x 12 20⟩ := by
  simp [patU, foldF, rstep, sbx, pw0, pw1, pw2, pw3, pw4, pw5, pw6, pw7, pw8, pw9, pw10, pw11, pw12, pw13, pw14, pw15, pw16, pw17, pw18, pw19, pw20]
  omega
set_option maxRecDepth 10000 in
theorem foldJ (x : Int) : foldF x patJ ⟨0, 0, 0, 0⟩ = ⟨sbx x 7 5, 0, 0, sbx x 31 1 * 1048576 + sbx x 21 10 * 2 + sbx x 20 1 * 2048 + sbx x 12 8 * 4096⟩ := by
  simp [patJ, foldF, rstep, sbx, pw0, pw1, pw2, pw3, pw4, pw5, pw6, pw7, pw8, pw9, pw10, pw11, pw12, pw13, pw14, pw15, pw16, pw17, pw18, pw19, pw20]
  omega
set_option maxRecDepth 10000 in
theorem foldN (x : Int) : foldF x patN ⟨0, 0, 0, 0⟩ = ⟨0, 0, 0, 0⟩ := by
  simp [patN, foldF, rstep, sbx, pw0, pw1, pw2, pw3, pw4, pw5, pw6, pw7, pw8, pw9, pw10, pw11, pw12, pw13, pw14, pw15, pw16, pw17, pw18, pw19, pw20]
end Hm

/-
  The plain mathematics: package code's Decode is the document's, whole.
-/
namespace Hm

theorem orI_rc (a b c : Int) : orI (orI a b) c = orI (orI a c) b := by
  unfold orI
  simp only [Int.toNat_natCast]
  rw [Nat.or_assoc, Nat.or_comm b.toNat, ← Nat.or_assoc]
theorem orI_zl {a : Int} (h : 0 ≤ a) : orI 0 a = a := by
  unfold orI
  rw [show (0 : Int).toNat = 0 from rfl, Nat.zero_or, Int.toNat_of_nonneg h]
theorem orI_zr {a : Int} (h : 0 ≤ a) : orI a 0 = a := by
  unfold orI
  rw [show (0 : Int).toNat = 0 from rfl, Nat.or_zero, Int.toNat_of_nonneg h]
theorem orI_add (i : Nat) {A B q : Int} (hA : A = q * pw i) (hq : 0 ≤ q) (hB0 : 0 ≤ B) (hB1 : B < pw i) : orI A B = A + B := by
  obtain ⟨n, rfl⟩ := Int.eq_ofNat_of_zero_le hq
  obtain ⟨b, rfl⟩ := Int.eq_ofNat_of_zero_le hB0
  have hp : pw i = ((2 ^ i : Nat) : Int) := by unfold pw; simp
  rw [hp] at hA hB1
  have hb : b < 2 ^ i := by exact_mod_cast hB1
  have hA' : A = ((n <<< i : Nat) : Int) := by rw [hA, Nat.shiftLeft_eq]; simp
  unfold orI
  rw [hA', Int.toNat_natCast, Int.toNat_natCast, ← Nat.shiftLeft_add_eq_or_of_lt hb]
  simp

theorem sbx_bd (x : Int) (lo n : Nat) : 0 ≤ sbx x lo n ∧ sbx x lo n < pw n := by
  rw [sbx_eq]
  have := pw_pos n
  exact ⟨Int.emod_nonneg _ (by omega), Int.emod_lt_of_pos _ (by omega)⟩
/-- A piece, where it does not run over. -/
theorem putC_eq (x : Int) (x0 : 0 ≤ x) (x1 : x < 4294967296) (a c f : Nat) (h : c + f ≤ 32) : putC a c f x = sbx x a c * pw f := by
  have e : x % 4294967296 = x := by omega
  unfold putC
  rw [sbx_eq, e, Int.toNat_natCast, Int.toNat_natCast, Int.toNat_natCast]
  have h1 := pw_pos c
  have h2 := pw_pos f
  have h3 : 0 ≤ x / pw a % pw c := Int.emod_nonneg _ (by omega)
  have h4 : x / pw a % pw c < pw c := Int.emod_lt_of_pos _ (by omega)
  have h5 : x / pw a % pw c * pw f < pw c * pw f := Int.mul_lt_mul_of_pos_right h4 (by omega)
  have h6 : pw c * pw f ≤ pw 32 := by rw [← pw_add]; exact pw_mono _ _ h
  have h7 : pw 32 = 4294967296 := by decide
  have h8 : 0 ≤ x / pw a % pw c * pw f := Int.mul_nonneg h3 (by omega)
  exact Int.emod_eq_of_lt h8 (by omega)

theorem immSR (x : Int) (x0 : 0 ≤ x) (x1 : x < 4294967296) : immA layR x 4 = 0 := by
  show orI (orI (orI (orI 0 (putC 0 0 0 x)) (putC 0 0 0 x)) (putC 0 0 0 x)) (putC 0 0 0 x) = _
  have e0_0_0 : putC 0 0 0 x = sbx x 0 0 * pw 0 := putC_eq x x0 x1 0 0 0 (by decide)
  have z : putC 0 0 0 x = 0 := by rw [e0_0_0]; simp [sbx]
  rw [z]; decide
theorem immSI (x : Int) (x0 : 0 ≤ x) (x1 : x < 4294967296) : immA layI x 4 = sbx x 20 12 := by
  show orI (orI (orI (orI 0 (putC 20 12 0 x)) (putC 0 0 0 x)) (putC 0 0 0 x)) (putC 0 0 0 x) = _
  have e0_12_20 : putC 20 12 0 x = sbx x 20 12 * pw 0 := putC_eq x x0 x1 20 12 0 (by decide)
  have e0_0_0 : putC 0 0 0 x = sbx x 0 0 * pw 0 := putC_eq x x0 x1 0 0 0 (by decide)
  have z : putC 0 0 0 x = 0 := by rw [e0_0_0]; simp [sbx]
  have b0_12_20 := sbx_bd x 20 12
  simp only [pw0, pw12] at *
  rw [z, e0_12_20, orI_zl (a := sbx x 20 12 * 1) (by omega), orI_zr (a := sbx x 20 12 * 1) (by omega), orI_zr (a := sbx x 20 12 * 1) (by omega), orI_zr (a := sbx x 20 12 * 1) (by omega)]
  omega
theorem immSH (x : Int) (x0 : 0 ≤ x) (x1 : x < 4294967296) : immA layH x 4 = sbx x 20 5 := by
  show orI (orI (orI (orI 0 (putC 20 5 0 x)) (putC 0 0 0 x)) (putC 0 0 0 x)) (putC 0 0 0 x) = _
  have e0_5_20 : putC 20 5 0 x = sbx x 20 5 * pw 0 := putC_eq x x0 x1 20 5 0 (by decide)
  have e0_0_0 : putC 0 0 0 x = sbx x 0 0 * pw 0 := putC_eq x x0 x1 0 0 0 (by decide)
  have z : putC 0 0 0 x = 0 := by rw [e0_0_0]; simp [sbx]
  have b0_5_20 := sbx_bd x 20 5
  simp only [pw0, pw5] at *
  rw [z, e0_5_20, orI_zl (a := sbx x 20 5 * 1) (by omega), orI_zr (a := sbx x 20 5 * 1) (by omega), orI_zr (a := sbx x 20 5 * 1) (by omega), orI_zr (a := sbx x 20 5 * 1) (by omega)]
  omega
theorem immSS (x : Int) (x0 : 0 ≤ x) (x1 : x < 4294967296) : immA layS x 4 = sbx x 25 7 * 32 + sbx x 7 5 := by
  show orI (orI (orI (orI 0 (putC 25 7 5 x)) (putC 7 5 0 x)) (putC 0 0 0 x)) (putC 0 0 0 x) = _
  have e5_7_25 : putC 25 7 5 x = sbx x 25 7 * pw 5 := putC_eq x x0 x1 25 7 5 (by decide)
  have e0_5_7 : putC 7 5 0 x = sbx x 7 5 * pw 0 := putC_eq x x0 x1 7 5 0 (by decide)
  have e0_0_0 : putC 0 0 0 x = sbx x 0 0 * pw 0 := putC_eq x x0 x1 0 0 0 (by decide)
  have z : putC 0 0 0 x = 0 := by rw [e0_0_0]; simp [sbx]
  have b5_7_25 := sbx_bd x 25 7
  have b0_5_7 := sbx_bd x 7 5
  simp only [pw0, pw5, pw7] at *
  have s1 : orI (sbx x 25 7 * 32) (sbx x 7 5 * 1) = sbx x 25 7 * 32 + sbx x 7 5 * 1 := orI_add 5 (q := sbx x 25 7) (by rw [pw5]) (by omega) (by omega) (by rw [pw5]; omega)
  rw [z, e5_7_25, e0_5_7, orI_zl (a := sbx x 25 7 * 32) (by omega), s1, orI_zr (a := sbx x 25 7 * 32 + sbx x 7 5 * 1) (by omega), orI_zr (a := sbx x 25 7 * 32 + sbx x 7 5 * 1) (by omega)]
  omega
theorem immSB (x : Int) (x0 : 0 ≤ x) (x1 : x < 4294967296) : immA layB x 4 = sbx x 31 1 * 4096 + sbx x 25 6 * 32 + sbx x 8 4 * 2 + sbx x 7 1 * 2048 := by
  show orI (orI (orI (orI 0 (putC 31 1 12 x)) (putC 25 6 5 x)) (putC 8 4 1 x)) (putC 7 1 11 x) = _
  have e12_1_31 : putC 31 1 12 x = sbx x 31 1 * pw 12 := putC_eq x x0 x1 31 1 12 (by decide)
  have e5_6_25 : putC 25 6 5 x = sbx x 25 6 * pw 5 := putC_eq x x0 x1 25 6 5 (by decide)
  have e1_4_8 : putC 8 4 1 x = sbx x 8 4 * pw 1 := putC_eq x x0 x1 8 4 1 (by decide)
  have e11_1_7 : putC 7 1 11 x = sbx x 7 1 * pw 11 := putC_eq x x0 x1 7 1 11 (by decide)
  have b12_1_31 := sbx_bd x 31 1
  have b5_6_25 := sbx_bd x 25 6
  have b1_4_8 := sbx_bd x 8 4
  have b11_1_7 := sbx_bd x 7 1
  simp only [pw1, pw4, pw5, pw6, pw11, pw12] at *
  have s1 : orI (sbx x 31 1 * 4096) (sbx x 7 1 * 2048) = sbx x 31 1 * 4096 + sbx x 7 1 * 2048 := orI_add 12 (q := sbx x 31 1) (by rw [pw12]) (by omega) (by omega) (by rw [pw12]; omega)
  have s2 : orI (sbx x 31 1 * 4096 + sbx x 7 1 * 2048) (sbx x 25 6 * 32) = sbx x 31 1 * 4096 + sbx x 7 1 * 2048 + sbx x 25 6 * 32 := orI_add 11 (q := sbx x 31 1 * 2 + sbx x 7 1) (by rw [pw11]; omega) (by omega) (by omega) (by rw [pw11]; omega)
  have s3 : orI (sbx x 31 1 * 4096 + sbx x 7 1 * 2048 + sbx x 25 6 * 32) (sbx x 8 4 * 2) = sbx x 31 1 * 4096 + sbx x 7 1 * 2048 + sbx x 25 6 * 32 + sbx x 8 4 * 2 := orI_add 5 (q := sbx x 31 1 * 128 + sbx x 7 1 * 64 + sbx x 25 6) (by rw [pw5]; omega) (by omega) (by omega) (by rw [pw5]; omega)
  rw [e12_1_31, e5_6_25, e1_4_8, e11_1_7, orI_zl (a := sbx x 31 1 * 4096) (by omega), orI_rc (orI (sbx x 31 1 * 4096) (sbx x 25 6 * 32)) (sbx x 8 4 * 2) (sbx x 7 1 * 2048), orI_rc (sbx x 31 1 * 4096) (sbx x 25 6 * 32) (sbx x 7 1 * 2048), s1, s2, s3]
  omega
theorem immSU (x : Int) (x0 : 0 ≤ x) (x1 : x < 4294967296) : immA layU x 4 = sbx x 12 20 := by
  show orI (orI (orI (orI 0 (putC 12 20 0 x)) (putC 0 0 0 x)) (putC 0 0 0 x)) (putC 0 0 0 x) = _
  have e0_20_12 : putC 12 20 0 x = sbx x 12 20 * pw 0 := putC_eq x x0 x1 12 20 0 (by decide)
  have e0_0_0 : putC 0 0 0 x = sbx x 0 0 * pw 0 := putC_eq x x0 x1 0 0 0 (by decide)
  have z : putC 0 0 0 x = 0 := by rw [e0_0_0]; simp [sbx]
  have b0_20_12 := sbx_bd x 12 20
  simp only [pw0, pw20] at *
  rw [z, e0_20_12, orI_zl (a := sbx x 12 20 * 1) (by omega), orI_zr (a := sbx x 12 20 * 1) (by omega), orI_zr (a := sbx x 12 20 * 1) (by omega), orI_zr (a := sbx x 12 20 * 1) (by omega)]
  omega
theorem immSJ (x : Int) (x0 : 0 ≤ x) (x1 : x < 4294967296) : immA layJ x 4 = sbx x 31 1 * 1048576 + sbx x 21 10 * 2 + sbx x 20 1 * 2048 + sbx x 12 8 * 4096 := by
  show orI (orI (orI (orI 0 (putC 31 1 20 x)) (putC 21 10 1 x)) (putC 20 1 11 x)) (putC 12 8 12 x) = _
  have e20_1_31 : putC 31 1 20 x = sbx x 31 1 * pw 20 := putC_eq x x0 x1 31 1 20 (by decide)
  have e1_10_21 : putC 21 10 1 x = sbx x 21 10 * pw 1 := putC_eq x x0 x1 21 10 1 (by decide)
  have e11_1_20 : putC 20 1 11 x = sbx x 20 1 * pw 11 := putC_eq x x0 x1 20 1 11 (by decide)
  have e12_8_12 : putC 12 8 12 x = sbx x 12 8 * pw 12 := putC_eq x x0 x1 12 8 12 (by decide)
  have b20_1_31 := sbx_bd x 31 1
  have b1_10_21 := sbx_bd x 21 10
  have b11_1_20 := sbx_bd x 20 1
  have b12_8_12 := sbx_bd x 12 8
  simp only [pw1, pw8, pw10, pw11, pw12, pw20] at *
  have s1 : orI (sbx x 31 1 * 1048576) (sbx x 12 8 * 4096) = sbx x 31 1 * 1048576 + sbx x 12 8 * 4096 := orI_add 20 (q := sbx x 31 1) (by rw [pw20]) (by omega) (by omega) (by rw [pw20]; omega)
  have s2 : orI (sbx x 31 1 * 1048576 + sbx x 12 8 * 4096) (sbx x 20 1 * 2048) = sbx x 31 1 * 1048576 + sbx x 12 8 * 4096 + sbx x 20 1 * 2048 := orI_add 12 (q := sbx x 31 1 * 256 + sbx x 12 8) (by rw [pw12]; omega) (by omega) (by omega) (by rw [pw12]; omega)
  have s3 : orI (sbx x 31 1 * 1048576 + sbx x 12 8 * 4096 + sbx x 20 1 * 2048) (sbx x 21 10 * 2) = sbx x 31 1 * 1048576 + sbx x 12 8 * 4096 + sbx x 20 1 * 2048 + sbx x 21 10 * 2 := orI_add 11 (q := sbx x 31 1 * 512 + sbx x 12 8 * 2 + sbx x 20 1) (by rw [pw11]; omega) (by omega) (by omega) (by rw [pw11]; omega)
  rw [e20_1_31, e1_10_21, e11_1_20, e12_8_12, orI_zl (a := sbx x 31 1 * 1048576) (by omega), orI_rc (orI (sbx x 31 1 * 1048576) (sbx x 21 10 * 2)) (sbx x 20 1 * 2048) (sbx x 12 8 * 4096), orI_rc (sbx x 31 1 * 1048576) (sbx x 21 10 * 2) (sbx x 12 8 * 4096), s1, orI_rc (sbx x 31 1 * 1048576 + sbx x 12 8 * 4096) (sbx x 21 10 * 2) (sbx x 20 1 * 2048), s2, s3]
  omega
theorem immSN (x : Int) (x0 : 0 ≤ x) (x1 : x < 4294967296) : immA layN x 4 = 0 := by
  show orI (orI (orI (orI 0 (putC 0 0 0 x)) (putC 0 0 0 x)) (putC 0 0 0 x)) (putC 0 0 0 x) = _
  have e0_0_0 : putC 0 0 0 x = sbx x 0 0 * pw 0 := putC_eq x x0 x1 0 0 0 (by decide)
  have z : putC 0 0 0 x = 0 := by rw [e0_0_0]; simp [sbx]
  rw [z]; decide

def hiF (f : Int) : Int := if f = 2 then 11 else if f = 3 then 4 else if f = 4 then 11 else if f = 5 then 12 else if f = 6 then 19 else if f = 7 then 20 else -1
theorem hi_all {k : Nat} (h0 : 1 ≤ k) (h1 : k ≤ 48) : hi (bitsL k) = hiF (fmtT k) := by
  have : ∀ j : Fin 49, j.val = 0 ∨ hi (bitsL j) = hiF (fmtT j) := by decide +kernel
  rcases this ⟨k, by omega⟩ with h | h
  · simp at h; omega
  · exact h
/-- The sign, as the document has it, by kind and highest letter. -/
def immK (kd h imm : Int) : Int := if kd ≠ 85 ∧ kd ≠ 72 ∧ 0 < imm then sgn imm h.toNat else imm
theorem reg_sbx (x : Int) (x0 : 0 ≤ x) (x1 : x < 4294967296) : regC (x / 128) true = sbx x 7 5 ∧ regC (x / 32768) true = sbx x 15 5 ∧ regC (x / 1048576) true = sbx x 20 5 := by
  have e : x % 4294967296 = x := by omega
  have e7 : pw 7 = 128 := by decide
  have e15 : pw 15 = 32768 := by decide
  rw [sbx_eq, sbx_eq, sbx_eq, e, e7, e15, pw20, pw5]
  exact ⟨rfl, rfl, rfl⟩

theorem sgn_11 (kd n : Int) (hk : kd ≠ 85 ∧ kd ≠ 72) (h0 : 0 ≤ n) (h1 : n < 4096) : sgnC (-2048) 2047 n = immK kd 11 n := by
  have e : bt n 11 = n / 2048 % 2 := by unfold bt; rw [pw11]; omega
  unfold sgnC immK sgn
  rw [show (11 : Int).toNat = 11 from rfl, e, pw11]
  by_cases hp : 0 < n
  · have hc : kd ≠ 85 ∧ kd ≠ 72 ∧ 0 < n := ⟨hk.1, hk.2, hp⟩
    rw [if_pos hc]
    split <;> split <;> omega
  · have hc : ¬ (kd ≠ 85 ∧ kd ≠ 72 ∧ 0 < n) := fun h => hp h.2.2
    have hd : ¬ 2047 < n := by omega
    rw [if_neg hc, if_neg hd]
theorem sgn_12 (kd n : Int) (hk : kd ≠ 85 ∧ kd ≠ 72) (h0 : 0 ≤ n) (h1 : n < 8192) (h2 : n % 2 = 0) : sgnC (-4096) 4094 n = immK kd 12 n := by
  have e : bt n 12 = n / 4096 % 2 := by unfold bt; rw [pw12]; omega
  unfold sgnC immK sgn
  rw [show (12 : Int).toNat = 12 from rfl, e, pw12]
  by_cases hp : 0 < n
  · have hc : kd ≠ 85 ∧ kd ≠ 72 ∧ 0 < n := ⟨hk.1, hk.2, hp⟩
    rw [if_pos hc]
    split <;> split <;> omega
  · have hc : ¬ (kd ≠ 85 ∧ kd ≠ 72 ∧ 0 < n) := fun h => hp h.2.2
    have hd : ¬ 4094 < n := by omega
    rw [if_neg hc, if_neg hd]
theorem sgn_20 (kd n : Int) (hk : kd ≠ 85 ∧ kd ≠ 72) (h0 : 0 ≤ n) (h1 : n < 2097152) (h2 : n % 2 = 0) : sgnC (-1048576) 1048574 n = immK kd 20 n := by
  have e : bt n 20 = n / 1048576 % 2 := by unfold bt; rw [pw20]; omega
  unfold sgnC immK sgn
  rw [show (20 : Int).toNat = 20 from rfl, e, pw20]
  by_cases hp : 0 < n
  · have hc : kd ≠ 85 ∧ kd ≠ 72 ∧ 0 < n := ⟨hk.1, hk.2, hp⟩
    rw [if_pos hc]
    split <;> split <;> omega
  · have hc : ¬ (kd ≠ 85 ∧ kd ≠ 72 ∧ 0 < n) := fun h => hp h.2.2
    have hd : ¬ 1048574 < n := by omega
    rw [if_neg hc, if_neg hd]
theorem fld_eq (x : Int) (x0 : 0 ≤ x) (x1 : x < 4294967296) (f : Int) (h0 : 1 ≤ f) (h1 : f ≤ 9) :
    fldC (lay f) x = { foldF x (patF f) ⟨0, 0, 0, 0⟩ with imm := immK (kindF f) (hiF f) (foldF x (patF f) ⟨0, 0, 0, 0⟩).imm } := by
  obtain ⟨g1, g2, g3⟩ := reg_sbx x x0 x1
  have hf : f = 1 ∨ f = 2 ∨ f = 3 ∨ f = 4 ∨ f = 5 ∨ f = 6 ∨ f = 7 ∨ f = 8 ∨ f = 9 := by omega
  rcases hf with rfl | rfl | rfl | rfl | rfl | rfl | rfl | rfl | rfl
  · show fldC layR x = { foldF x patR ⟨0, 0, 0, 0⟩ with imm := immK 82 (-1) (foldF x patR ⟨0, 0, 0, 0⟩).imm }
    rw [foldR, fldC, immC, immSR x x0 x1]
    show (⟨regC (x / 128) true, regC (x / 32768) true, regC (x / 1048576) true, _⟩ : Flds) = _
    rw [g1, g2, g3]; rfl
  · show fldC layI x = { foldF x patI ⟨0, 0, 0, 0⟩ with imm := immK 73 11 (foldF x patI ⟨0, 0, 0, 0⟩).imm }
    rw [foldI, fldC, immC, immSI x x0 x1]
    show (⟨regC (x / 128) true, regC (x / 32768) true, 0, sgnC (-2048) 2047 _⟩ : Flds) = ⟨_, _, _, immK 73 11 _⟩
    have b := sbx_bd x 20 12
    rw [pw12] at b
    generalize sbx x 20 12 = n at *
    rw [g1, g2, Flds.mk.injEq]
    refine ⟨rfl, rfl, rfl, ?_⟩
    exact sgn_11 _ n (by decide) (by omega) (by omega)
  · show fldC layH x = { foldF x patH ⟨0, 0, 0, 0⟩ with imm := immK 72 4 (foldF x patH ⟨0, 0, 0, 0⟩).imm }
    rw [foldH, fldC, immC, immSH x x0 x1]
    show (⟨regC (x / 128) true, regC (x / 32768) true, 0, sgnC 0 31 _⟩ : Flds) = ⟨_, _, _, immK 72 4 _⟩
    have b := sbx_bd x 20 5
    rw [pw5] at b
    generalize sbx x 20 5 = n at *
    rw [g1, g2, Flds.mk.injEq]
    refine ⟨rfl, rfl, rfl, ?_⟩
    unfold sgnC immK
    rw [if_neg (by omega)]; simp
  · show fldC layS x = { foldF x patS ⟨0, 0, 0, 0⟩ with imm := immK 83 11 (foldF x patS ⟨0, 0, 0, 0⟩).imm }
    rw [foldS, fldC, immC, immSS x x0 x1]
    show (⟨0, regC (x / 32768) true, regC (x / 1048576) true, sgnC (-2048) 2047 _⟩ : Flds) = ⟨_, _, _, immK 83 11 _⟩
    have b := sbx_bd x 25 7
    have b' := sbx_bd x 7 5
    rw [pw7] at b
    rw [pw5] at b'
    rw [g2, g3, Flds.mk.injEq]
    refine ⟨rfl, rfl, rfl, ?_⟩
    generalize hn : sbx x 25 7 * 32 + sbx x 7 5 = n at *
    have : 0 ≤ n ∧ n < 4096 := by omega
    exact sgn_11 _ n (by decide) (by omega) (by omega)
  · show fldC layB x = { foldF x patB ⟨0, 0, 0, 0⟩ with imm := immK 66 12 (foldF x patB ⟨0, 0, 0, 0⟩).imm }
    rw [foldB, fldC, immC, immSB x x0 x1]
    show (⟨0, regC (x / 32768) true, regC (x / 1048576) true, sgnC (-4096) 4094 _⟩ : Flds) = ⟨_, _, _, immK 66 12 _⟩
    have b1 := sbx_bd x 31 1
    have b2 := sbx_bd x 25 6
    have b3 := sbx_bd x 8 4
    have b4 := sbx_bd x 7 1
    simp only [pw1, pw6, pw4] at b1 b2 b3 b4
    rw [g2, g3, Flds.mk.injEq]
    refine ⟨rfl, rfl, rfl, ?_⟩
    generalize hn : sbx x 31 1 * 4096 + sbx x 25 6 * 32 + sbx x 8 4 * 2 + sbx x 7 1 * 2048 = n at *
    have : 0 ≤ n ∧ n < 8192 ∧ n % 2 = 0 := by omega
    clear hn
    exact sgn_12 _ n (by decide) (by omega) (by omega) (by omega)
  · show fldC layU x = { foldF x patU ⟨0, 0, 0, 0⟩ with imm := immK 85 19 (foldF x patU ⟨0, 0, 0, 0⟩).imm }
    rw [foldU, fldC, immC, immSU x x0 x1]
    show (⟨regC (x / 128) true, 0, 0, sgnC 0 1048575 _⟩ : Flds) = ⟨_, _, _, immK 85 19 _⟩
    have b := sbx_bd x 12 20
    rw [pw20] at b
    generalize sbx x 12 20 = n at *
    rw [g1, Flds.mk.injEq]
    refine ⟨rfl, rfl, rfl, ?_⟩
    unfold sgnC immK
    rw [if_neg (by omega)]; simp
  · show fldC layJ x = { foldF x patJ ⟨0, 0, 0, 0⟩ with imm := immK 74 20 (foldF x patJ ⟨0, 0, 0, 0⟩).imm }
    rw [foldJ, fldC, immC, immSJ x x0 x1]
    show (⟨regC (x / 128) true, 0, 0, sgnC (-1048576) 1048574 _⟩ : Flds) = ⟨_, _, _, immK 74 20 _⟩
    have b1 := sbx_bd x 31 1
    have b2 := sbx_bd x 21 10
    have b3 := sbx_bd x 20 1
    have b4 := sbx_bd x 12 8
    simp only [pw1, pw10, pw8] at b1 b2 b3 b4
    rw [g1, Flds.mk.injEq]
    refine ⟨rfl, rfl, rfl, ?_⟩
    generalize hn : sbx x 31 1 * 1048576 + sbx x 21 10 * 2 + sbx x 20 1 * 2048 + sbx x 12 8 * 4096 = n at *
    have : 0 ≤ n ∧ n < 2097152 ∧ n % 2 = 0 := by omega
    clear hn
    exact sgn_20 _ n (by decide) (by omega) (by omega) (by omega)
  · show fldC layN x = { foldF x patN ⟨0, 0, 0, 0⟩ with imm := immK 78 (-1) (foldF x patN ⟨0, 0, 0, 0⟩).imm }
    rw [foldN, fldC, immC, immSN x x0 x1]; rfl
  · show fldC layN x = { foldF x patN ⟨0, 0, 0, 0⟩ with imm := immK 78 (-1) (foldF x patN ⟨0, 0, 0, 0⟩).imm }
    rw [foldN, fldC, immC, immSN x x0 x1]; rfl

theorem dec_eq (x : Int) (x0 : 0 ≤ x) (x1 : x < 4294967296) : decR x = decC x := by
  have h : ∀ n k, 1 ≤ k → k + n = 49 → decFrom x n k = decCFrom x n k := by
    intro n
    induction n with
    | zero => intro k _ _; rfl
    | succ n ih =>
      intro k hk hn
      have hm := match_eq x0 x1 hk (by omega : k ≤ 48)
      have hr := rd_eq x (bitsL k) ⟨0, 0, 0, 0⟩
      cases hc : matchC x k with
      | false =>
        rw [← hm, hc] at hr
        rw [decFrom_none hr, decCFrom_no hc]
        exact ih (k + 1) (by omega) (by omega)
      | true =>
        rw [← hm, hc] at hr
        have ht := tab_ok (k := k) hk (by omega)
        rw [decFrom_some hr, decCFrom_yes hc, fld_eq x x0 x1 _ ht.f0 ht.f1, ← strip_all hk (by omega), foldF_strip]
        unfold immR immK
        rw [ht.k, hi_all hk (by omega)]
  exact h 48 1 (by omega) (by omega)
end Hm
