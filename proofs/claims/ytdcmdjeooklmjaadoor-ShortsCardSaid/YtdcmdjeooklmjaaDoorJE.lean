/-
  Y3 Y4 YB in one text.
-/
import Derived.Test.YtdcmdjeooklmjaaDoorJD
set_option linter.unusedVariables false
set_option linter.unusedSimpArgs false
/-
  Mathematics of short instructions (made by gen_Y3.py): what a row reads. Nothing of the dump is imported.
-/
namespace Hm
theorem rowA_0 (p : Int) (h0 : 0 ≤ p) (h1 : p < 65536) : makeS (shortR 0) (foldF p (shortR 0).bits ⟨0, 0, 0, 0⟩) = fldS (rowC 0) p ∧ badS (shortR 0) (foldF p (shortR 0).bits ⟨0, 0, 0, 0⟩) = hitsC (rowC 0).not' (fldS (rowC 0) p) := by
  have hb := bt_bd p
  have hx : U32 p := ⟨h0, by omega⟩
  have hF : fldS (rowC 0) p = ⟨takeP 6 p, takeP 2 p, takeP 0 p, wrapC (-2048) 2047 (stakeC 3 p)⟩ := rfl
  rw [hF, take_6 p h0 h1, take_2 p h0 h1, take_0 p h0 h1, stake_3 p hx]
  clear hF hx
  have gf : foldF p (shortR 0).bits ⟨0, 0, 0, 0⟩ = ⟨bt p 2 + 2 * bt p 3 + 4 * bt p 4, 0, 0, 4 * bt p 6 + 8 * bt p 5 + 16 * bt p 11 + 32 * bt p 12 + 64 * bt p 7 + 128 * bt p 8 + 256 * bt p 9 + 512 * bt p 10⟩ := by
    simp [foldF, shortR, shortL, rstep, pw, cnt]
    try omega
  rw [gf]
  clear gf
  generalize bt p = b at *
  have B2 := hb 2
  have B3 := hb 3
  have B4 := hb 4
  have B5 := hb 5
  have B6 := hb 6
  have B7 := hb 7
  have B8 := hb 8
  have B9 := hb 9
  have B10 := hb 10
  have B11 := hb 11
  have B12 := hb 12
  clear hb
  constructor
  · simp [makeS, shortR, shortL, fieldS, eightS, cnt, immS2, immS1, hi, hiTo, hasB, wrapC]
    try omega
  · simp [badS, shortR, shortL, hitsC, rowC, rowsC, wrapC, hasN, andI]
    try (rw [Bool.eq_iff_iff]; simp only [Bool.or_eq_true, beq_iff_eq]; (repeat' split) <;> omega)
theorem rowA_1 (p : Int) (h0 : 0 ≤ p) (h1 : p < 65536) : makeS (shortR 1) (foldF p (shortR 1).bits ⟨0, 0, 0, 0⟩) = fldS (rowC 1) p ∧ badS (shortR 1) (foldF p (shortR 1).bits ⟨0, 0, 0, 0⟩) = hitsC (rowC 1).not' (fldS (rowC 1) p) := by
  have hb := bt_bd p
  have hx : U32 p := ⟨h0, by omega⟩
  have hF : fldS (rowC 1) p = ⟨takeP 6 p, takeP 5 p, takeP 0 p, wrapC (-2048) 2047 (stakeC 4 p)⟩ := rfl
  rw [hF, take_6 p h0 h1, take_5 p h0 h1, take_0 p h0 h1, stake_4 p hx]
  clear hF hx
  have gf : foldF p (shortR 1).bits ⟨0, 0, 0, 0⟩ = ⟨bt p 2 + 2 * bt p 3 + 4 * bt p 4, bt p 7 + 2 * bt p 8 + 4 * bt p 9, 0, 4 * bt p 6 + 8 * bt p 10 + 16 * bt p 11 + 32 * bt p 12 + 64 * bt p 5⟩ := by
    simp [foldF, shortR, shortL, rstep, pw, cnt]
    try omega
  rw [gf]
  clear gf
  generalize bt p = b at *
  have B2 := hb 2
  have B3 := hb 3
  have B4 := hb 4
  have B5 := hb 5
  have B6 := hb 6
  have B7 := hb 7
  have B8 := hb 8
  have B9 := hb 9
  have B10 := hb 10
  have B11 := hb 11
  have B12 := hb 12
  clear hb
  constructor
  · simp [makeS, shortR, shortL, fieldS, eightS, cnt, immS2, immS1, hi, hiTo, hasB, wrapC]
    try omega
  · simp [badS, shortR, shortL, hitsC, rowC, rowsC, wrapC, hasN, andI]
    try (rw [Bool.eq_iff_iff]; simp only [Bool.or_eq_true, beq_iff_eq]; (repeat' split) <;> omega)
theorem rowA_2 (p : Int) (h0 : 0 ≤ p) (h1 : p < 65536) : makeS (shortR 2) (foldF p (shortR 2).bits ⟨0, 0, 0, 0⟩) = fldS (rowC 2) p ∧ badS (shortR 2) (foldF p (shortR 2).bits ⟨0, 0, 0, 0⟩) = hitsC (rowC 2).not' (fldS (rowC 2) p) := by
  have hb := bt_bd p
  have hx : U32 p := ⟨h0, by omega⟩
  have hF : fldS (rowC 2) p = ⟨takeP 0 p, takeP 5 p, takeP 6 p, wrapC (-2048) 2047 (stakeC 4 p)⟩ := rfl
  rw [hF, take_0 p h0 h1, take_5 p h0 h1, take_6 p h0 h1, stake_4 p hx]
  clear hF hx
  have gf : foldF p (shortR 2).bits ⟨0, 0, 0, 0⟩ = ⟨0, bt p 7 + 2 * bt p 8 + 4 * bt p 9, bt p 2 + 2 * bt p 3 + 4 * bt p 4, 4 * bt p 6 + 8 * bt p 10 + 16 * bt p 11 + 32 * bt p 12 + 64 * bt p 5⟩ := by
    simp [foldF, shortR, shortL, rstep, pw, cnt]
    try omega
  rw [gf]
  clear gf
  generalize bt p = b at *
  have B2 := hb 2
  have B3 := hb 3
  have B4 := hb 4
  have B5 := hb 5
  have B6 := hb 6
  have B7 := hb 7
  have B8 := hb 8
  have B9 := hb 9
  have B10 := hb 10
  have B11 := hb 11
  have B12 := hb 12
  clear hb
  constructor
  · simp [makeS, shortR, shortL, fieldS, eightS, cnt, immS2, immS1, hi, hiTo, hasB, wrapC]
    try omega
  · simp [badS, shortR, shortL, hitsC, rowC, rowsC, wrapC, hasN, andI]
    try (rw [Bool.eq_iff_iff]; simp only [Bool.or_eq_true, beq_iff_eq]; (repeat' split) <;> omega)
theorem rowA_3 (p : Int) (h0 : 0 ≤ p) (h1 : p < 65536) : makeS (shortR 3) (foldF p (shortR 3).bits ⟨0, 0, 0, 0⟩) = fldS (rowC 3) p ∧ badS (shortR 3) (foldF p (shortR 3).bits ⟨0, 0, 0, 0⟩) = hitsC (rowC 3).not' (fldS (rowC 3) p) := by
  have hb := bt_bd p
  have hx : U32 p := ⟨h0, by omega⟩
  have hF : fldS (rowC 3) p = ⟨takeP 3 p, takeP 3 p, takeP 0 p, wrapC (-2048) 2047 (stakeC 2 p)⟩ := rfl
  rw [hF, take_3 p h0 h1, take_0 p h0 h1, stake_2 p hx]
  clear hF hx
  have gf : foldF p (shortR 3).bits ⟨0, 0, 0, 0⟩ = ⟨bt p 7 + 2 * bt p 8 + 4 * bt p 9 + 8 * bt p 10 + 16 * bt p 11, 0, 0, bt p 2 + 2 * bt p 3 + 4 * bt p 4 + 8 * bt p 5 + 16 * bt p 6 + 32 * bt p 12⟩ := by
    simp [foldF, shortR, shortL, rstep, pw, cnt]
    try omega
  rw [gf]
  clear gf
  generalize bt p = b at *
  have B2 := hb 2
  have B3 := hb 3
  have B4 := hb 4
  have B5 := hb 5
  have B6 := hb 6
  have B7 := hb 7
  have B8 := hb 8
  have B9 := hb 9
  have B10 := hb 10
  have B11 := hb 11
  have B12 := hb 12
  clear hb
  have it : bt (b 2 + 2 * b 3 + 4 * b 4 + 8 * b 5 + 16 * b 6 + 32 * b 12) 5 = b 12 := bt_at (A := 1 * b 2 + 2 * b 3 + 4 * b 4 + 8 * b 5 + 16 * b 6) (C := 0) 5 (by decide) (by decide : pw 5 = 32) (by omega) (by omega) (by omega) B12
  have hsg : sgn (b 2 + 2 * b 3 + 4 * b 4 + 8 * b 5 + 16 * b 6 + 32 * b 12) 5 = (b 2 + 2 * b 3 + 4 * b 4 + 8 * b 5 + 16 * b 6 + 32 * b 12) - 64 * b 12 := by rw [sgn_lin, it]; simp [pw]
  constructor
  · simp [makeS, shortR, shortL, fieldS, eightS, cnt, immS2, immS1, hi, hiTo, hasB, wrapC, hsg]
    try omega
  · simp [badS, shortR, shortL, hitsC, rowC, rowsC, wrapC, hasN, andI]
    try (rw [Bool.eq_iff_iff]; simp only [Bool.or_eq_true, beq_iff_eq]; (repeat' split) <;> omega)
theorem rowA_4 (p : Int) (h0 : 0 ≤ p) (h1 : p < 65536) : makeS (shortR 4) (foldF p (shortR 4).bits ⟨0, 0, 0, 0⟩) = fldS (rowC 4) p ∧ badS (shortR 4) (foldF p (shortR 4).bits ⟨0, 0, 0, 0⟩) = hitsC (rowC 4).not' (fldS (rowC 4) p) := by
  have hb := bt_bd p
  have hx : U32 p := ⟨h0, by omega⟩
  have hF : fldS (rowC 4) p = ⟨takeP 1 p, takeP 0 p, takeP 0 p, wrapC (-1048576) 1048574 (stakeC 9 p)⟩ := rfl
  rw [hF, take_1 p h0 h1, take_0 p h0 h1, stake_9 p hx]
  clear hF hx
  have gf : foldF p (shortR 4).bits ⟨0, 0, 0, 0⟩ = ⟨0, 0, 0, 2 * bt p 3 + 4 * bt p 4 + 8 * bt p 5 + 16 * bt p 11 + 32 * bt p 2 + 64 * bt p 7 + 128 * bt p 6 + 256 * bt p 9 + 512 * bt p 10 + 1024 * bt p 8 + 2048 * bt p 12⟩ := by
    simp [foldF, shortR, shortL, rstep, pw, cnt]
    try omega
  rw [gf]
  clear gf
  generalize bt p = b at *
  have B2 := hb 2
  have B3 := hb 3
  have B4 := hb 4
  have B5 := hb 5
  have B6 := hb 6
  have B7 := hb 7
  have B8 := hb 8
  have B9 := hb 9
  have B10 := hb 10
  have B11 := hb 11
  have B12 := hb 12
  clear hb
  have it : bt (2 * b 3 + 4 * b 4 + 8 * b 5 + 16 * b 11 + 32 * b 2 + 64 * b 7 + 128 * b 6 + 256 * b 9 + 512 * b 10 + 1024 * b 8 + 2048 * b 12) 11 = b 12 := bt_at (A := 2 * b 3 + 4 * b 4 + 8 * b 5 + 16 * b 11 + 32 * b 2 + 64 * b 7 + 128 * b 6 + 256 * b 9 + 512 * b 10 + 1024 * b 8) (C := 0) 11 (by decide) (by decide : pw 11 = 2048) (by omega) (by omega) (by omega) B12
  have hsg : sgn (2 * b 3 + 4 * b 4 + 8 * b 5 + 16 * b 11 + 32 * b 2 + 64 * b 7 + 128 * b 6 + 256 * b 9 + 512 * b 10 + 1024 * b 8 + 2048 * b 12) 11 = (2 * b 3 + 4 * b 4 + 8 * b 5 + 16 * b 11 + 32 * b 2 + 64 * b 7 + 128 * b 6 + 256 * b 9 + 512 * b 10 + 1024 * b 8 + 2048 * b 12) - 4096 * b 12 := by rw [sgn_lin, it]; simp [pw]
  constructor
  · simp [makeS, shortR, shortL, fieldS, eightS, cnt, immS2, immS1, hi, hiTo, hasB, wrapC, hsg]
    try omega
  · simp [badS, shortR, shortL, hitsC, rowC, rowsC, wrapC, hasN, andI]
    try (rw [Bool.eq_iff_iff]; simp only [Bool.or_eq_true, beq_iff_eq]; (repeat' split) <;> omega)
theorem rowA_5 (p : Int) (h0 : 0 ≤ p) (h1 : p < 65536) : makeS (shortR 5) (foldF p (shortR 5).bits ⟨0, 0, 0, 0⟩) = fldS (rowC 5) p ∧ badS (shortR 5) (foldF p (shortR 5).bits ⟨0, 0, 0, 0⟩) = hitsC (rowC 5).not' (fldS (rowC 5) p) := by
  have hb := bt_bd p
  have hx : U32 p := ⟨h0, by omega⟩
  have hF : fldS (rowC 5) p = ⟨takeP 3 p, takeP 0 p, takeP 0 p, wrapC (-2048) 2047 (stakeC 2 p)⟩ := rfl
  rw [hF, take_3 p h0 h1, take_0 p h0 h1, stake_2 p hx]
  clear hF hx
  have gf : foldF p (shortR 5).bits ⟨0, 0, 0, 0⟩ = ⟨bt p 7 + 2 * bt p 8 + 4 * bt p 9 + 8 * bt p 10 + 16 * bt p 11, 0, 0, bt p 2 + 2 * bt p 3 + 4 * bt p 4 + 8 * bt p 5 + 16 * bt p 6 + 32 * bt p 12⟩ := by
    simp [foldF, shortR, shortL, rstep, pw, cnt]
    try omega
  rw [gf]
  clear gf
  generalize bt p = b at *
  have B2 := hb 2
  have B3 := hb 3
  have B4 := hb 4
  have B5 := hb 5
  have B6 := hb 6
  have B7 := hb 7
  have B8 := hb 8
  have B9 := hb 9
  have B10 := hb 10
  have B11 := hb 11
  have B12 := hb 12
  clear hb
  have it : bt (b 2 + 2 * b 3 + 4 * b 4 + 8 * b 5 + 16 * b 6 + 32 * b 12) 5 = b 12 := bt_at (A := 1 * b 2 + 2 * b 3 + 4 * b 4 + 8 * b 5 + 16 * b 6) (C := 0) 5 (by decide) (by decide : pw 5 = 32) (by omega) (by omega) (by omega) B12
  have hsg : sgn (b 2 + 2 * b 3 + 4 * b 4 + 8 * b 5 + 16 * b 6 + 32 * b 12) 5 = (b 2 + 2 * b 3 + 4 * b 4 + 8 * b 5 + 16 * b 6 + 32 * b 12) - 64 * b 12 := by rw [sgn_lin, it]; simp [pw]
  constructor
  · simp [makeS, shortR, shortL, fieldS, eightS, cnt, immS2, immS1, hi, hiTo, hasB, wrapC, hsg]
    try omega
  · simp [badS, shortR, shortL, hitsC, rowC, rowsC, wrapC, hasN, andI]
    try (rw [Bool.eq_iff_iff]; simp only [Bool.or_eq_true, beq_iff_eq]; (repeat' split) <;> omega)
theorem rowA_6 (p : Int) (h0 : 0 ≤ p) (h1 : p < 65536) : makeS (shortR 6) (foldF p (shortR 6).bits ⟨0, 0, 0, 0⟩) = fldS (rowC 6) p ∧ badS (shortR 6) (foldF p (shortR 6).bits ⟨0, 0, 0, 0⟩) = hitsC (rowC 6).not' (fldS (rowC 6) p) := by
  have hb := bt_bd p
  have hx : U32 p := ⟨h0, by omega⟩
  have hF : fldS (rowC 6) p = ⟨takeP 2 p, takeP 2 p, takeP 0 p, wrapC (-2048) 2047 (stakeC 7 p)⟩ := rfl
  rw [hF, take_2 p h0 h1, take_0 p h0 h1, stake_7 p hx]
  clear hF hx
  have gf : foldF p (shortR 6).bits ⟨0, 0, 0, 0⟩ = ⟨0, 0, 0, 16 * bt p 6 + 32 * bt p 2 + 64 * bt p 5 + 128 * bt p 3 + 256 * bt p 4 + 512 * bt p 12⟩ := by
    simp [foldF, shortR, shortL, rstep, pw, cnt]
    try omega
  rw [gf]
  clear gf
  generalize bt p = b at *
  have B2 := hb 2
  have B3 := hb 3
  have B4 := hb 4
  have B5 := hb 5
  have B6 := hb 6
  have B12 := hb 12
  clear hb
  have it : bt (16 * b 6 + 32 * b 2 + 64 * b 5 + 128 * b 3 + 256 * b 4 + 512 * b 12) 9 = b 12 := bt_at (A := 16 * b 6 + 32 * b 2 + 64 * b 5 + 128 * b 3 + 256 * b 4) (C := 0) 9 (by decide) (by decide : pw 9 = 512) (by omega) (by omega) (by omega) B12
  have hsg : sgn (16 * b 6 + 32 * b 2 + 64 * b 5 + 128 * b 3 + 256 * b 4 + 512 * b 12) 9 = (16 * b 6 + 32 * b 2 + 64 * b 5 + 128 * b 3 + 256 * b 4 + 512 * b 12) - 1024 * b 12 := by rw [sgn_lin, it]; simp [pw]
  constructor
  · simp [makeS, shortR, shortL, fieldS, eightS, cnt, immS2, immS1, hi, hiTo, hasB, wrapC, hsg]
    try omega
  · simp [badS, shortR, shortL, hitsC, rowC, rowsC, wrapC, hasN, andI]
    try (rw [Bool.eq_iff_iff]; simp only [Bool.or_eq_true, beq_iff_eq]; (repeat' split) <;> omega)
theorem rowA_7 (p : Int) (h0 : 0 ≤ p) (h1 : p < 65536) : makeS (shortR 7) (foldF p (shortR 7).bits ⟨0, 0, 0, 0⟩) = fldS (rowC 7) p ∧ badS (shortR 7) (foldF p (shortR 7).bits ⟨0, 0, 0, 0⟩) = hitsC (rowC 7).not' (fldS (rowC 7) p) := by
  have hb := bt_bd p
  have hx : U32 p := ⟨h0, by omega⟩
  have hF : fldS (rowC 7) p = ⟨takeP 3 p, takeP 0 p, takeP 0 p, wrapC (0) 1048575 (stakeC 2 p)⟩ := rfl
  rw [hF, take_3 p h0 h1, take_0 p h0 h1, stake_2 p hx]
  clear hF hx
  have gf : foldF p (shortR 7).bits ⟨0, 0, 0, 0⟩ = ⟨bt p 7 + 2 * bt p 8 + 4 * bt p 9 + 8 * bt p 10 + 16 * bt p 11, 0, 0, bt p 2 + 2 * bt p 3 + 4 * bt p 4 + 8 * bt p 5 + 16 * bt p 6 + 32 * bt p 12⟩ := by
    simp [foldF, shortR, shortL, rstep, pw, cnt]
    try omega
  rw [gf]
  clear gf
  generalize bt p = b at *
  have B2 := hb 2
  have B3 := hb 3
  have B4 := hb 4
  have B5 := hb 5
  have B6 := hb 6
  have B7 := hb 7
  have B8 := hb 8
  have B9 := hb 9
  have B10 := hb 10
  have B11 := hb 11
  have B12 := hb 12
  clear hb
  have it : bt (b 2 + 2 * b 3 + 4 * b 4 + 8 * b 5 + 16 * b 6 + 32 * b 12) 5 = b 12 := bt_at (A := 1 * b 2 + 2 * b 3 + 4 * b 4 + 8 * b 5 + 16 * b 6) (C := 0) 5 (by decide) (by decide : pw 5 = 32) (by omega) (by omega) (by omega) B12
  have hsg : sgn (b 2 + 2 * b 3 + 4 * b 4 + 8 * b 5 + 16 * b 6 + 32 * b 12) 5 = (b 2 + 2 * b 3 + 4 * b 4 + 8 * b 5 + 16 * b 6 + 32 * b 12) - 64 * b 12 := by rw [sgn_lin, it]; simp [pw]
  constructor
  · simp [makeS, shortR, shortL, fieldS, eightS, cnt, immS2, immS1, hi, hiTo, hasB, wrapC, hsg]
    try omega
  · simp [badS, shortR, shortL, hitsC, rowC, rowsC, wrapC, hasN, andI]
    try (rw [Bool.eq_iff_iff]; simp only [Bool.or_eq_true, beq_iff_eq]; (repeat' split) <;> omega)
theorem rowA_8 (p : Int) (h0 : 0 ≤ p) (h1 : p < 65536) : makeS (shortR 8) (foldF p (shortR 8).bits ⟨0, 0, 0, 0⟩) = fldS (rowC 8) p ∧ badS (shortR 8) (foldF p (shortR 8).bits ⟨0, 0, 0, 0⟩) = hitsC (rowC 8).not' (fldS (rowC 8) p) := by
  have hb := bt_bd p
  have hx : U32 p := ⟨h0, by omega⟩
  have hF : fldS (rowC 8) p = ⟨takeP 5 p, takeP 5 p, takeP 0 p, wrapC (0) 31 (stakeC 1 p)⟩ := rfl
  rw [hF, take_5 p h0 h1, take_0 p h0 h1, stake_1 p hx]
  clear hF hx
  have gf : foldF p (shortR 8).bits ⟨0, 0, 0, 0⟩ = ⟨bt p 7 + 2 * bt p 8 + 4 * bt p 9, 0, 0, bt p 2 + 2 * bt p 3 + 4 * bt p 4 + 8 * bt p 5 + 16 * bt p 6⟩ := by
    simp [foldF, shortR, shortL, rstep, pw, cnt]
    try omega
  rw [gf]
  clear gf
  generalize bt p = b at *
  have B2 := hb 2
  have B3 := hb 3
  have B4 := hb 4
  have B5 := hb 5
  have B6 := hb 6
  have B7 := hb 7
  have B8 := hb 8
  have B9 := hb 9
  clear hb
  constructor
  · simp [makeS, shortR, shortL, fieldS, eightS, cnt, immS2, immS1, hi, hiTo, hasB, wrapC]
    try omega
  · simp [badS, shortR, shortL, hitsC, rowC, rowsC, wrapC, hasN, andI]
    try (rw [Bool.eq_iff_iff]; simp only [Bool.or_eq_true, beq_iff_eq]; (repeat' split) <;> omega)
theorem rowA_9 (p : Int) (h0 : 0 ≤ p) (h1 : p < 65536) : makeS (shortR 9) (foldF p (shortR 9).bits ⟨0, 0, 0, 0⟩) = fldS (rowC 9) p ∧ badS (shortR 9) (foldF p (shortR 9).bits ⟨0, 0, 0, 0⟩) = hitsC (rowC 9).not' (fldS (rowC 9) p) := by
  have hb := bt_bd p
  have hx : U32 p := ⟨h0, by omega⟩
  have hF : fldS (rowC 9) p = ⟨takeP 5 p, takeP 5 p, takeP 0 p, wrapC (0) 31 (stakeC 1 p)⟩ := rfl
  rw [hF, take_5 p h0 h1, take_0 p h0 h1, stake_1 p hx]
  clear hF hx
  have gf : foldF p (shortR 9).bits ⟨0, 0, 0, 0⟩ = ⟨bt p 7 + 2 * bt p 8 + 4 * bt p 9, 0, 0, bt p 2 + 2 * bt p 3 + 4 * bt p 4 + 8 * bt p 5 + 16 * bt p 6⟩ := by
    simp [foldF, shortR, shortL, rstep, pw, cnt]
    try omega
  rw [gf]
  clear gf
  generalize bt p = b at *
  have B2 := hb 2
  have B3 := hb 3
  have B4 := hb 4
  have B5 := hb 5
  have B6 := hb 6
  have B7 := hb 7
  have B8 := hb 8
  have B9 := hb 9
  clear hb
  constructor
  · simp [makeS, shortR, shortL, fieldS, eightS, cnt, immS2, immS1, hi, hiTo, hasB, wrapC]
    try omega
  · simp [badS, shortR, shortL, hitsC, rowC, rowsC, wrapC, hasN, andI]
    try (rw [Bool.eq_iff_iff]; simp only [Bool.or_eq_true, beq_iff_eq]; (repeat' split) <;> omega)
theorem rowA_10 (p : Int) (h0 : 0 ≤ p) (h1 : p < 65536) : makeS (shortR 10) (foldF p (shortR 10).bits ⟨0, 0, 0, 0⟩) = fldS (rowC 10) p ∧ badS (shortR 10) (foldF p (shortR 10).bits ⟨0, 0, 0, 0⟩) = hitsC (rowC 10).not' (fldS (rowC 10) p) := by
  have hb := bt_bd p
  have hx : U32 p := ⟨h0, by omega⟩
  have hF : fldS (rowC 10) p = ⟨takeP 5 p, takeP 5 p, takeP 0 p, wrapC (-2048) 2047 (stakeC 2 p)⟩ := rfl
  rw [hF, take_5 p h0 h1, take_0 p h0 h1, stake_2 p hx]
  clear hF hx
  have gf : foldF p (shortR 10).bits ⟨0, 0, 0, 0⟩ = ⟨bt p 7 + 2 * bt p 8 + 4 * bt p 9, 0, 0, bt p 2 + 2 * bt p 3 + 4 * bt p 4 + 8 * bt p 5 + 16 * bt p 6 + 32 * bt p 12⟩ := by
    simp [foldF, shortR, shortL, rstep, pw, cnt]
    try omega
  rw [gf]
  clear gf
  generalize bt p = b at *
  have B2 := hb 2
  have B3 := hb 3
  have B4 := hb 4
  have B5 := hb 5
  have B6 := hb 6
  have B7 := hb 7
  have B8 := hb 8
  have B9 := hb 9
  have B12 := hb 12
  clear hb
  have it : bt (b 2 + 2 * b 3 + 4 * b 4 + 8 * b 5 + 16 * b 6 + 32 * b 12) 5 = b 12 := bt_at (A := 1 * b 2 + 2 * b 3 + 4 * b 4 + 8 * b 5 + 16 * b 6) (C := 0) 5 (by decide) (by decide : pw 5 = 32) (by omega) (by omega) (by omega) B12
  have hsg : sgn (b 2 + 2 * b 3 + 4 * b 4 + 8 * b 5 + 16 * b 6 + 32 * b 12) 5 = (b 2 + 2 * b 3 + 4 * b 4 + 8 * b 5 + 16 * b 6 + 32 * b 12) - 64 * b 12 := by rw [sgn_lin, it]; simp [pw]
  constructor
  · simp [makeS, shortR, shortL, fieldS, eightS, cnt, immS2, immS1, hi, hiTo, hasB, wrapC, hsg]
    try omega
  · simp [badS, shortR, shortL, hitsC, rowC, rowsC, wrapC, hasN, andI]
    try (rw [Bool.eq_iff_iff]; simp only [Bool.or_eq_true, beq_iff_eq]; (repeat' split) <;> omega)
theorem rowA_11 (p : Int) (h0 : 0 ≤ p) (h1 : p < 65536) : makeS (shortR 11) (foldF p (shortR 11).bits ⟨0, 0, 0, 0⟩) = fldS (rowC 11) p ∧ badS (shortR 11) (foldF p (shortR 11).bits ⟨0, 0, 0, 0⟩) = hitsC (rowC 11).not' (fldS (rowC 11) p) := by
  have hb := bt_bd p
  have hx : U32 p := ⟨h0, by omega⟩
  have hF : fldS (rowC 11) p = ⟨takeP 5 p, takeP 5 p, takeP 6 p, wrapC (0) 0 (stakeC 0 p)⟩ := rfl
  rw [hF, take_5 p h0 h1, take_6 p h0 h1, stake_0 p hx]
  clear hF hx
  have gf : foldF p (shortR 11).bits ⟨0, 0, 0, 0⟩ = ⟨bt p 7 + 2 * bt p 8 + 4 * bt p 9, 0, bt p 2 + 2 * bt p 3 + 4 * bt p 4, 0⟩ := by
    simp [foldF, shortR, shortL, rstep, pw, cnt]
    try omega
  rw [gf]
  clear gf
  generalize bt p = b at *
  have B2 := hb 2
  have B3 := hb 3
  have B4 := hb 4
  have B7 := hb 7
  have B8 := hb 8
  have B9 := hb 9
  clear hb
  constructor
  · simp [makeS, shortR, shortL, fieldS, eightS, cnt, immS2, immS1, hi, hiTo, hasB, wrapC]
    try omega
  · simp [badS, shortR, shortL, hitsC, rowC, rowsC, wrapC, hasN, andI]
    try (rw [Bool.eq_iff_iff]; simp only [Bool.or_eq_true, beq_iff_eq]; (repeat' split) <;> omega)
theorem rowA_12 (p : Int) (h0 : 0 ≤ p) (h1 : p < 65536) : makeS (shortR 12) (foldF p (shortR 12).bits ⟨0, 0, 0, 0⟩) = fldS (rowC 12) p ∧ badS (shortR 12) (foldF p (shortR 12).bits ⟨0, 0, 0, 0⟩) = hitsC (rowC 12).not' (fldS (rowC 12) p) := by
  have hb := bt_bd p
  have hx : U32 p := ⟨h0, by omega⟩
  have hF : fldS (rowC 12) p = ⟨takeP 5 p, takeP 5 p, takeP 6 p, wrapC (0) 0 (stakeC 0 p)⟩ := rfl
  rw [hF, take_5 p h0 h1, take_6 p h0 h1, stake_0 p hx]
  clear hF hx
  have gf : foldF p (shortR 12).bits ⟨0, 0, 0, 0⟩ = ⟨bt p 7 + 2 * bt p 8 + 4 * bt p 9, 0, bt p 2 + 2 * bt p 3 + 4 * bt p 4, 0⟩ := by
    simp [foldF, shortR, shortL, rstep, pw, cnt]
    try omega
  rw [gf]
  clear gf
  generalize bt p = b at *
  have B2 := hb 2
  have B3 := hb 3
  have B4 := hb 4
  have B7 := hb 7
  have B8 := hb 8
  have B9 := hb 9
  clear hb
  constructor
  · simp [makeS, shortR, shortL, fieldS, eightS, cnt, immS2, immS1, hi, hiTo, hasB, wrapC]
    try omega
  · simp [badS, shortR, shortL, hitsC, rowC, rowsC, wrapC, hasN, andI]
    try (rw [Bool.eq_iff_iff]; simp only [Bool.or_eq_true, beq_iff_eq]; (repeat' split) <;> omega)
end Hm

/-
  Mathematics of short instructions (made by gen_Y3.py): what a row reads. Nothing of the dump is imported.
-/
namespace Hm
theorem rowA_13 (p : Int) (h0 : 0 ≤ p) (h1 : p < 65536) : makeS (shortR 13) (foldF p (shortR 13).bits ⟨0, 0, 0, 0⟩) = fldS (rowC 13) p ∧ badS (shortR 13) (foldF p (shortR 13).bits ⟨0, 0, 0, 0⟩) = hitsC (rowC 13).not' (fldS (rowC 13) p) := by
  have hb := bt_bd p
  have hx : U32 p := ⟨h0, by omega⟩
  have hF : fldS (rowC 13) p = ⟨takeP 5 p, takeP 5 p, takeP 6 p, wrapC (0) 0 (stakeC 0 p)⟩ := rfl
  rw [hF, take_5 p h0 h1, take_6 p h0 h1, stake_0 p hx]
  clear hF hx
  have gf : foldF p (shortR 13).bits ⟨0, 0, 0, 0⟩ = ⟨bt p 7 + 2 * bt p 8 + 4 * bt p 9, 0, bt p 2 + 2 * bt p 3 + 4 * bt p 4, 0⟩ := by
    simp [foldF, shortR, shortL, rstep, pw, cnt]
    try omega
  rw [gf]
  clear gf
  generalize bt p = b at *
  have B2 := hb 2
  have B3 := hb 3
  have B4 := hb 4
  have B7 := hb 7
  have B8 := hb 8
  have B9 := hb 9
  clear hb
  constructor
  · simp [makeS, shortR, shortL, fieldS, eightS, cnt, immS2, immS1, hi, hiTo, hasB, wrapC]
    try omega
  · simp [badS, shortR, shortL, hitsC, rowC, rowsC, wrapC, hasN, andI]
    try (rw [Bool.eq_iff_iff]; simp only [Bool.or_eq_true, beq_iff_eq]; (repeat' split) <;> omega)
theorem rowA_14 (p : Int) (h0 : 0 ≤ p) (h1 : p < 65536) : makeS (shortR 14) (foldF p (shortR 14).bits ⟨0, 0, 0, 0⟩) = fldS (rowC 14) p ∧ badS (shortR 14) (foldF p (shortR 14).bits ⟨0, 0, 0, 0⟩) = hitsC (rowC 14).not' (fldS (rowC 14) p) := by
  have hb := bt_bd p
  have hx : U32 p := ⟨h0, by omega⟩
  have hF : fldS (rowC 14) p = ⟨takeP 5 p, takeP 5 p, takeP 6 p, wrapC (0) 0 (stakeC 0 p)⟩ := rfl
  rw [hF, take_5 p h0 h1, take_6 p h0 h1, stake_0 p hx]
  clear hF hx
  have gf : foldF p (shortR 14).bits ⟨0, 0, 0, 0⟩ = ⟨bt p 7 + 2 * bt p 8 + 4 * bt p 9, 0, bt p 2 + 2 * bt p 3 + 4 * bt p 4, 0⟩ := by
    simp [foldF, shortR, shortL, rstep, pw, cnt]
    try omega
  rw [gf]
  clear gf
  generalize bt p = b at *
  have B2 := hb 2
  have B3 := hb 3
  have B4 := hb 4
  have B7 := hb 7
  have B8 := hb 8
  have B9 := hb 9
  clear hb
  constructor
  · simp [makeS, shortR, shortL, fieldS, eightS, cnt, immS2, immS1, hi, hiTo, hasB, wrapC]
    try omega
  · simp [badS, shortR, shortL, hitsC, rowC, rowsC, wrapC, hasN, andI]
    try (rw [Bool.eq_iff_iff]; simp only [Bool.or_eq_true, beq_iff_eq]; (repeat' split) <;> omega)
theorem rowA_15 (p : Int) (h0 : 0 ≤ p) (h1 : p < 65536) : makeS (shortR 15) (foldF p (shortR 15).bits ⟨0, 0, 0, 0⟩) = fldS (rowC 15) p ∧ badS (shortR 15) (foldF p (shortR 15).bits ⟨0, 0, 0, 0⟩) = hitsC (rowC 15).not' (fldS (rowC 15) p) := by
  have hb := bt_bd p
  have hx : U32 p := ⟨h0, by omega⟩
  have hF : fldS (rowC 15) p = ⟨takeP 0 p, takeP 0 p, takeP 0 p, wrapC (-1048576) 1048574 (stakeC 9 p)⟩ := rfl
  rw [hF, take_0 p h0 h1, stake_9 p hx]
  clear hF hx
  have gf : foldF p (shortR 15).bits ⟨0, 0, 0, 0⟩ = ⟨0, 0, 0, 2 * bt p 3 + 4 * bt p 4 + 8 * bt p 5 + 16 * bt p 11 + 32 * bt p 2 + 64 * bt p 7 + 128 * bt p 6 + 256 * bt p 9 + 512 * bt p 10 + 1024 * bt p 8 + 2048 * bt p 12⟩ := by
    simp [foldF, shortR, shortL, rstep, pw, cnt]
    try omega
  rw [gf]
  clear gf
  generalize bt p = b at *
  have B2 := hb 2
  have B3 := hb 3
  have B4 := hb 4
  have B5 := hb 5
  have B6 := hb 6
  have B7 := hb 7
  have B8 := hb 8
  have B9 := hb 9
  have B10 := hb 10
  have B11 := hb 11
  have B12 := hb 12
  clear hb
  have it : bt (2 * b 3 + 4 * b 4 + 8 * b 5 + 16 * b 11 + 32 * b 2 + 64 * b 7 + 128 * b 6 + 256 * b 9 + 512 * b 10 + 1024 * b 8 + 2048 * b 12) 11 = b 12 := bt_at (A := 2 * b 3 + 4 * b 4 + 8 * b 5 + 16 * b 11 + 32 * b 2 + 64 * b 7 + 128 * b 6 + 256 * b 9 + 512 * b 10 + 1024 * b 8) (C := 0) 11 (by decide) (by decide : pw 11 = 2048) (by omega) (by omega) (by omega) B12
  have hsg : sgn (2 * b 3 + 4 * b 4 + 8 * b 5 + 16 * b 11 + 32 * b 2 + 64 * b 7 + 128 * b 6 + 256 * b 9 + 512 * b 10 + 1024 * b 8 + 2048 * b 12) 11 = (2 * b 3 + 4 * b 4 + 8 * b 5 + 16 * b 11 + 32 * b 2 + 64 * b 7 + 128 * b 6 + 256 * b 9 + 512 * b 10 + 1024 * b 8 + 2048 * b 12) - 4096 * b 12 := by rw [sgn_lin, it]; simp [pw]
  constructor
  · simp [makeS, shortR, shortL, fieldS, eightS, cnt, immS2, immS1, hi, hiTo, hasB, wrapC, hsg]
    try omega
  · simp [badS, shortR, shortL, hitsC, rowC, rowsC, wrapC, hasN, andI]
    try (rw [Bool.eq_iff_iff]; simp only [Bool.or_eq_true, beq_iff_eq]; (repeat' split) <;> omega)
theorem rowA_16 (p : Int) (h0 : 0 ≤ p) (h1 : p < 65536) : makeS (shortR 16) (foldF p (shortR 16).bits ⟨0, 0, 0, 0⟩) = fldS (rowC 16) p ∧ badS (shortR 16) (foldF p (shortR 16).bits ⟨0, 0, 0, 0⟩) = hitsC (rowC 16).not' (fldS (rowC 16) p) := by
  have hb := bt_bd p
  have hx : U32 p := ⟨h0, by omega⟩
  have hF : fldS (rowC 16) p = ⟨takeP 0 p, takeP 5 p, takeP 0 p, wrapC (-4096) 4094 (stakeC 8 p)⟩ := rfl
  rw [hF, take_0 p h0 h1, take_5 p h0 h1, stake_8 p hx]
  clear hF hx
  have gf : foldF p (shortR 16).bits ⟨0, 0, 0, 0⟩ = ⟨0, bt p 7 + 2 * bt p 8 + 4 * bt p 9, 0, 2 * bt p 3 + 4 * bt p 4 + 8 * bt p 10 + 16 * bt p 11 + 32 * bt p 2 + 64 * bt p 5 + 128 * bt p 6 + 256 * bt p 12⟩ := by
    simp [foldF, shortR, shortL, rstep, pw, cnt]
    try omega
  rw [gf]
  clear gf
  generalize bt p = b at *
  have B2 := hb 2
  have B3 := hb 3
  have B4 := hb 4
  have B5 := hb 5
  have B6 := hb 6
  have B7 := hb 7
  have B8 := hb 8
  have B9 := hb 9
  have B10 := hb 10
  have B11 := hb 11
  have B12 := hb 12
  clear hb
  have it : bt (2 * b 3 + 4 * b 4 + 8 * b 10 + 16 * b 11 + 32 * b 2 + 64 * b 5 + 128 * b 6 + 256 * b 12) 8 = b 12 := bt_at (A := 2 * b 3 + 4 * b 4 + 8 * b 10 + 16 * b 11 + 32 * b 2 + 64 * b 5 + 128 * b 6) (C := 0) 8 (by decide) (by decide : pw 8 = 256) (by omega) (by omega) (by omega) B12
  have hsg : sgn (2 * b 3 + 4 * b 4 + 8 * b 10 + 16 * b 11 + 32 * b 2 + 64 * b 5 + 128 * b 6 + 256 * b 12) 8 = (2 * b 3 + 4 * b 4 + 8 * b 10 + 16 * b 11 + 32 * b 2 + 64 * b 5 + 128 * b 6 + 256 * b 12) - 512 * b 12 := by rw [sgn_lin, it]; simp [pw]
  constructor
  · simp [makeS, shortR, shortL, fieldS, eightS, cnt, immS2, immS1, hi, hiTo, hasB, wrapC, hsg]
    try omega
  · simp [badS, shortR, shortL, hitsC, rowC, rowsC, wrapC, hasN, andI]
    try (rw [Bool.eq_iff_iff]; simp only [Bool.or_eq_true, beq_iff_eq]; (repeat' split) <;> omega)
theorem rowA_17 (p : Int) (h0 : 0 ≤ p) (h1 : p < 65536) : makeS (shortR 17) (foldF p (shortR 17).bits ⟨0, 0, 0, 0⟩) = fldS (rowC 17) p ∧ badS (shortR 17) (foldF p (shortR 17).bits ⟨0, 0, 0, 0⟩) = hitsC (rowC 17).not' (fldS (rowC 17) p) := by
  have hb := bt_bd p
  have hx : U32 p := ⟨h0, by omega⟩
  have hF : fldS (rowC 17) p = ⟨takeP 0 p, takeP 5 p, takeP 0 p, wrapC (-4096) 4094 (stakeC 8 p)⟩ := rfl
  rw [hF, take_0 p h0 h1, take_5 p h0 h1, stake_8 p hx]
  clear hF hx
  have gf : foldF p (shortR 17).bits ⟨0, 0, 0, 0⟩ = ⟨0, bt p 7 + 2 * bt p 8 + 4 * bt p 9, 0, 2 * bt p 3 + 4 * bt p 4 + 8 * bt p 10 + 16 * bt p 11 + 32 * bt p 2 + 64 * bt p 5 + 128 * bt p 6 + 256 * bt p 12⟩ := by
    simp [foldF, shortR, shortL, rstep, pw, cnt]
    try omega
  rw [gf]
  clear gf
  generalize bt p = b at *
  have B2 := hb 2
  have B3 := hb 3
  have B4 := hb 4
  have B5 := hb 5
  have B6 := hb 6
  have B7 := hb 7
  have B8 := hb 8
  have B9 := hb 9
  have B10 := hb 10
  have B11 := hb 11
  have B12 := hb 12
  clear hb
  have it : bt (2 * b 3 + 4 * b 4 + 8 * b 10 + 16 * b 11 + 32 * b 2 + 64 * b 5 + 128 * b 6 + 256 * b 12) 8 = b 12 := bt_at (A := 2 * b 3 + 4 * b 4 + 8 * b 10 + 16 * b 11 + 32 * b 2 + 64 * b 5 + 128 * b 6) (C := 0) 8 (by decide) (by decide : pw 8 = 256) (by omega) (by omega) (by omega) B12
  have hsg : sgn (2 * b 3 + 4 * b 4 + 8 * b 10 + 16 * b 11 + 32 * b 2 + 64 * b 5 + 128 * b 6 + 256 * b 12) 8 = (2 * b 3 + 4 * b 4 + 8 * b 10 + 16 * b 11 + 32 * b 2 + 64 * b 5 + 128 * b 6 + 256 * b 12) - 512 * b 12 := by rw [sgn_lin, it]; simp [pw]
  constructor
  · simp [makeS, shortR, shortL, fieldS, eightS, cnt, immS2, immS1, hi, hiTo, hasB, wrapC, hsg]
    try omega
  · simp [badS, shortR, shortL, hitsC, rowC, rowsC, wrapC, hasN, andI]
    try (rw [Bool.eq_iff_iff]; simp only [Bool.or_eq_true, beq_iff_eq]; (repeat' split) <;> omega)
theorem rowA_18 (p : Int) (h0 : 0 ≤ p) (h1 : p < 65536) : makeS (shortR 18) (foldF p (shortR 18).bits ⟨0, 0, 0, 0⟩) = fldS (rowC 18) p ∧ badS (shortR 18) (foldF p (shortR 18).bits ⟨0, 0, 0, 0⟩) = hitsC (rowC 18).not' (fldS (rowC 18) p) := by
  have hb := bt_bd p
  have hx : U32 p := ⟨h0, by omega⟩
  have hF : fldS (rowC 18) p = ⟨takeP 3 p, takeP 3 p, takeP 0 p, wrapC (0) 31 (stakeC 1 p)⟩ := rfl
  rw [hF, take_3 p h0 h1, take_0 p h0 h1, stake_1 p hx]
  clear hF hx
  have gf : foldF p (shortR 18).bits ⟨0, 0, 0, 0⟩ = ⟨bt p 7 + 2 * bt p 8 + 4 * bt p 9 + 8 * bt p 10 + 16 * bt p 11, 0, 0, bt p 2 + 2 * bt p 3 + 4 * bt p 4 + 8 * bt p 5 + 16 * bt p 6⟩ := by
    simp [foldF, shortR, shortL, rstep, pw, cnt]
    try omega
  rw [gf]
  clear gf
  generalize bt p = b at *
  have B2 := hb 2
  have B3 := hb 3
  have B4 := hb 4
  have B5 := hb 5
  have B6 := hb 6
  have B7 := hb 7
  have B8 := hb 8
  have B9 := hb 9
  have B10 := hb 10
  have B11 := hb 11
  clear hb
  constructor
  · simp [makeS, shortR, shortL, fieldS, eightS, cnt, immS2, immS1, hi, hiTo, hasB, wrapC]
    try omega
  · simp [badS, shortR, shortL, hitsC, rowC, rowsC, wrapC, hasN, andI]
    try (rw [Bool.eq_iff_iff]; simp only [Bool.or_eq_true, beq_iff_eq]; (repeat' split) <;> omega)
theorem rowA_19 (p : Int) (h0 : 0 ≤ p) (h1 : p < 65536) : makeS (shortR 19) (foldF p (shortR 19).bits ⟨0, 0, 0, 0⟩) = fldS (rowC 19) p ∧ badS (shortR 19) (foldF p (shortR 19).bits ⟨0, 0, 0, 0⟩) = hitsC (rowC 19).not' (fldS (rowC 19) p) := by
  have hb := bt_bd p
  have hx : U32 p := ⟨h0, by omega⟩
  have hF : fldS (rowC 19) p = ⟨takeP 3 p, takeP 2 p, takeP 0 p, wrapC (-2048) 2047 (stakeC 5 p)⟩ := rfl
  rw [hF, take_3 p h0 h1, take_2 p h0 h1, take_0 p h0 h1, stake_5 p hx]
  clear hF hx
  have gf : foldF p (shortR 19).bits ⟨0, 0, 0, 0⟩ = ⟨bt p 7 + 2 * bt p 8 + 4 * bt p 9 + 8 * bt p 10 + 16 * bt p 11, 0, 0, 4 * bt p 4 + 8 * bt p 5 + 16 * bt p 6 + 32 * bt p 12 + 64 * bt p 2 + 128 * bt p 3⟩ := by
    simp [foldF, shortR, shortL, rstep, pw, cnt]
    try omega
  rw [gf]
  clear gf
  generalize bt p = b at *
  have B2 := hb 2
  have B3 := hb 3
  have B4 := hb 4
  have B5 := hb 5
  have B6 := hb 6
  have B7 := hb 7
  have B8 := hb 8
  have B9 := hb 9
  have B10 := hb 10
  have B11 := hb 11
  have B12 := hb 12
  clear hb
  constructor
  · simp [makeS, shortR, shortL, fieldS, eightS, cnt, immS2, immS1, hi, hiTo, hasB, wrapC]
    try omega
  · simp [badS, shortR, shortL, hitsC, rowC, rowsC, wrapC, hasN, andI]
    try (rw [Bool.eq_iff_iff]; simp only [Bool.or_eq_true, beq_iff_eq]; (repeat' split) <;> omega)
theorem rowA_20 (p : Int) (h0 : 0 ≤ p) (h1 : p < 65536) : makeS (shortR 20) (foldF p (shortR 20).bits ⟨0, 0, 0, 0⟩) = fldS (rowC 20) p ∧ badS (shortR 20) (foldF p (shortR 20).bits ⟨0, 0, 0, 0⟩) = hitsC (rowC 20).not' (fldS (rowC 20) p) := by
  have hb := bt_bd p
  have hx : U32 p := ⟨h0, by omega⟩
  have hF : fldS (rowC 20) p = ⟨takeP 0 p, takeP 3 p, takeP 0 p, wrapC (-2048) 2047 (stakeC 0 p)⟩ := rfl
  rw [hF, take_0 p h0 h1, take_3 p h0 h1, stake_0 p hx]
  clear hF hx
  have gf : foldF p (shortR 20).bits ⟨0, 0, 0, 0⟩ = ⟨0, bt p 7 + 2 * bt p 8 + 4 * bt p 9 + 8 * bt p 10 + 16 * bt p 11, 0, 0⟩ := by
    simp [foldF, shortR, shortL, rstep, pw, cnt]
    try omega
  rw [gf]
  clear gf
  generalize bt p = b at *
  have B7 := hb 7
  have B8 := hb 8
  have B9 := hb 9
  have B10 := hb 10
  have B11 := hb 11
  clear hb
  constructor
  · simp [makeS, shortR, shortL, fieldS, eightS, cnt, immS2, immS1, hi, hiTo, hasB, wrapC]
    try omega
  · simp [badS, shortR, shortL, hitsC, rowC, rowsC, wrapC, hasN, andI]
    try (rw [Bool.eq_iff_iff]; simp only [Bool.or_eq_true, beq_iff_eq]; (repeat' split) <;> omega)
theorem rowA_21 (p : Int) (h0 : 0 ≤ p) (h1 : p < 65536) : makeS (shortR 21) (foldF p (shortR 21).bits ⟨0, 0, 0, 0⟩) = fldS (rowC 21) p ∧ badS (shortR 21) (foldF p (shortR 21).bits ⟨0, 0, 0, 0⟩) = hitsC (rowC 21).not' (fldS (rowC 21) p) := by
  have hb := bt_bd p
  have hx : U32 p := ⟨h0, by omega⟩
  have hF : fldS (rowC 21) p = ⟨takeP 3 p, takeP 0 p, takeP 4 p, wrapC (0) 0 (stakeC 0 p)⟩ := rfl
  rw [hF, take_3 p h0 h1, take_0 p h0 h1, take_4 p h0 h1, stake_0 p hx]
  clear hF hx
  have gf : foldF p (shortR 21).bits ⟨0, 0, 0, 0⟩ = ⟨bt p 7 + 2 * bt p 8 + 4 * bt p 9 + 8 * bt p 10 + 16 * bt p 11, 0, bt p 2 + 2 * bt p 3 + 4 * bt p 4 + 8 * bt p 5 + 16 * bt p 6, 0⟩ := by
    simp [foldF, shortR, shortL, rstep, pw, cnt]
    try omega
  rw [gf]
  clear gf
  generalize bt p = b at *
  have B2 := hb 2
  have B3 := hb 3
  have B4 := hb 4
  have B5 := hb 5
  have B6 := hb 6
  have B7 := hb 7
  have B8 := hb 8
  have B9 := hb 9
  have B10 := hb 10
  have B11 := hb 11
  clear hb
  constructor
  · simp [makeS, shortR, shortL, fieldS, eightS, cnt, immS2, immS1, hi, hiTo, hasB, wrapC]
    try omega
  · simp [badS, shortR, shortL, hitsC, rowC, rowsC, wrapC, hasN, andI]
    try (rw [Bool.eq_iff_iff]; simp only [Bool.or_eq_true, beq_iff_eq]; (repeat' split) <;> omega)
theorem rowA_22 (p : Int) (h0 : 0 ≤ p) (h1 : p < 65536) : makeS (shortR 22) (foldF p (shortR 22).bits ⟨0, 0, 0, 0⟩) = fldS (rowC 22) p ∧ badS (shortR 22) (foldF p (shortR 22).bits ⟨0, 0, 0, 0⟩) = hitsC (rowC 22).not' (fldS (rowC 22) p) := by
  have hb := bt_bd p
  have hx : U32 p := ⟨h0, by omega⟩
  have hF : fldS (rowC 22) p = ⟨takeP 0 p, takeP 0 p, takeP 0 p, wrapC (0) 0 (stakeC 0 p)⟩ := rfl
  rw [hF, take_0 p h0 h1, stake_0 p hx]
  clear hF hx
  have gf : foldF p (shortR 22).bits ⟨0, 0, 0, 0⟩ = ⟨0, 0, 0, 0⟩ := by
    simp [foldF, shortR, shortL, rstep, pw, cnt]
    try omega
  rw [gf]
  clear gf
  generalize bt p = b at *
  clear hb
  constructor
  · simp [makeS, shortR, shortL, fieldS, eightS, cnt, immS2, immS1, hi, hiTo, hasB, wrapC]
    try omega
  · simp [badS, shortR, shortL, hitsC, rowC, rowsC, wrapC, hasN, andI]
    try (rw [Bool.eq_iff_iff]; simp only [Bool.or_eq_true, beq_iff_eq]; (repeat' split) <;> omega)
theorem rowA_23 (p : Int) (h0 : 0 ≤ p) (h1 : p < 65536) : makeS (shortR 23) (foldF p (shortR 23).bits ⟨0, 0, 0, 0⟩) = fldS (rowC 23) p ∧ badS (shortR 23) (foldF p (shortR 23).bits ⟨0, 0, 0, 0⟩) = hitsC (rowC 23).not' (fldS (rowC 23) p) := by
  have hb := bt_bd p
  have hx : U32 p := ⟨h0, by omega⟩
  have hF : fldS (rowC 23) p = ⟨takeP 1 p, takeP 3 p, takeP 0 p, wrapC (-2048) 2047 (stakeC 0 p)⟩ := rfl
  rw [hF, take_1 p h0 h1, take_3 p h0 h1, take_0 p h0 h1, stake_0 p hx]
  clear hF hx
  have gf : foldF p (shortR 23).bits ⟨0, 0, 0, 0⟩ = ⟨0, bt p 7 + 2 * bt p 8 + 4 * bt p 9 + 8 * bt p 10 + 16 * bt p 11, 0, 0⟩ := by
    simp [foldF, shortR, shortL, rstep, pw, cnt]
    try omega
  rw [gf]
  clear gf
  generalize bt p = b at *
  have B7 := hb 7
  have B8 := hb 8
  have B9 := hb 9
  have B10 := hb 10
  have B11 := hb 11
  clear hb
  constructor
  · simp [makeS, shortR, shortL, fieldS, eightS, cnt, immS2, immS1, hi, hiTo, hasB, wrapC]
    try omega
  · simp [badS, shortR, shortL, hitsC, rowC, rowsC, wrapC, hasN, andI]
    try (rw [Bool.eq_iff_iff]; simp only [Bool.or_eq_true, beq_iff_eq]; (repeat' split) <;> omega)
theorem rowA_24 (p : Int) (h0 : 0 ≤ p) (h1 : p < 65536) : makeS (shortR 24) (foldF p (shortR 24).bits ⟨0, 0, 0, 0⟩) = fldS (rowC 24) p ∧ badS (shortR 24) (foldF p (shortR 24).bits ⟨0, 0, 0, 0⟩) = hitsC (rowC 24).not' (fldS (rowC 24) p) := by
  have hb := bt_bd p
  have hx : U32 p := ⟨h0, by omega⟩
  have hF : fldS (rowC 24) p = ⟨takeP 3 p, takeP 3 p, takeP 4 p, wrapC (0) 0 (stakeC 0 p)⟩ := rfl
  rw [hF, take_3 p h0 h1, take_4 p h0 h1, stake_0 p hx]
  clear hF hx
  have gf : foldF p (shortR 24).bits ⟨0, 0, 0, 0⟩ = ⟨bt p 7 + 2 * bt p 8 + 4 * bt p 9 + 8 * bt p 10 + 16 * bt p 11, 0, bt p 2 + 2 * bt p 3 + 4 * bt p 4 + 8 * bt p 5 + 16 * bt p 6, 0⟩ := by
    simp [foldF, shortR, shortL, rstep, pw, cnt]
    try omega
  rw [gf]
  clear gf
  generalize bt p = b at *
  have B2 := hb 2
  have B3 := hb 3
  have B4 := hb 4
  have B5 := hb 5
  have B6 := hb 6
  have B7 := hb 7
  have B8 := hb 8
  have B9 := hb 9
  have B10 := hb 10
  have B11 := hb 11
  clear hb
  constructor
  · simp [makeS, shortR, shortL, fieldS, eightS, cnt, immS2, immS1, hi, hiTo, hasB, wrapC]
    try omega
  · simp [badS, shortR, shortL, hitsC, rowC, rowsC, wrapC, hasN, andI]
    try (rw [Bool.eq_iff_iff]; simp only [Bool.or_eq_true, beq_iff_eq]; (repeat' split) <;> omega)
theorem rowA_25 (p : Int) (h0 : 0 ≤ p) (h1 : p < 65536) : makeS (shortR 25) (foldF p (shortR 25).bits ⟨0, 0, 0, 0⟩) = fldS (rowC 25) p ∧ badS (shortR 25) (foldF p (shortR 25).bits ⟨0, 0, 0, 0⟩) = hitsC (rowC 25).not' (fldS (rowC 25) p) := by
  have hb := bt_bd p
  have hx : U32 p := ⟨h0, by omega⟩
  have hF : fldS (rowC 25) p = ⟨takeP 0 p, takeP 2 p, takeP 4 p, wrapC (-2048) 2047 (stakeC 6 p)⟩ := rfl
  rw [hF, take_0 p h0 h1, take_2 p h0 h1, take_4 p h0 h1, stake_6 p hx]
  clear hF hx
  have gf : foldF p (shortR 25).bits ⟨0, 0, 0, 0⟩ = ⟨0, 0, bt p 2 + 2 * bt p 3 + 4 * bt p 4 + 8 * bt p 5 + 16 * bt p 6, 4 * bt p 9 + 8 * bt p 10 + 16 * bt p 11 + 32 * bt p 12 + 64 * bt p 7 + 128 * bt p 8⟩ := by
    simp [foldF, shortR, shortL, rstep, pw, cnt]
    try omega
  rw [gf]
  clear gf
  generalize bt p = b at *
  have B2 := hb 2
  have B3 := hb 3
  have B4 := hb 4
  have B5 := hb 5
  have B6 := hb 6
  have B7 := hb 7
  have B8 := hb 8
  have B9 := hb 9
  have B10 := hb 10
  have B11 := hb 11
  have B12 := hb 12
  clear hb
  constructor
  · simp [makeS, shortR, shortL, fieldS, eightS, cnt, immS2, immS1, hi, hiTo, hasB, wrapC]
    try omega
  · simp [badS, shortR, shortL, hitsC, rowC, rowsC, wrapC, hasN, andI]
    try (rw [Bool.eq_iff_iff]; simp only [Bool.or_eq_true, beq_iff_eq]; (repeat' split) <;> omega)
theorem rowA_any : ∀ {k : Nat}, k < 26 → ∀ (p : Int), 0 ≤ p → p < 65536 → makeS (shortR k) (foldF p (shortR k).bits ⟨0, 0, 0, 0⟩) = fldS (rowC k) p ∧ badS (shortR k) (foldF p (shortR k).bits ⟨0, 0, 0, 0⟩) = hitsC (rowC k).not' (fldS (rowC k) p)
  | 0, _ => rowA_0
  | 1, _ => rowA_1
  | 2, _ => rowA_2
  | 3, _ => rowA_3
  | 4, _ => rowA_4
  | 5, _ => rowA_5
  | 6, _ => rowA_6
  | 7, _ => rowA_7
  | 8, _ => rowA_8
  | 9, _ => rowA_9
  | 10, _ => rowA_10
  | 11, _ => rowA_11
  | 12, _ => rowA_12
  | 13, _ => rowA_13
  | 14, _ => rowA_14
  | 15, _ => rowA_15
  | 16, _ => rowA_16
  | 17, _ => rowA_17
  | 18, _ => rowA_18
  | 19, _ => rowA_19
  | 20, _ => rowA_20
  | 21, _ => rowA_21
  | 22, _ => rowA_22
  | 23, _ => rowA_23
  | 24, _ => rowA_24
  | 25, _ => rowA_25
  | _ + 26, h => by omega
end Hm

/-
  Mathematics of short instructions (made by gen_Y5.py): what a landed row writes of what it reads is the parcel. Nothing of the dump is imported.
-/
namespace Hm
theorem parC_bt {r : RowC} (h : RowOk r) (d s t i : Int) (j : Nat) : bt (parC r d s t i) j = or1 (or1 (or1 (or1 (bt r.bits j) (bt (putP r.rd d) j)) (bt (putP r.rs1 s) j)) (bt (putP r.rs2 t) j)) (bt (sputC r.imm i) j) := by
  have u0 : U16 r.bits := h.bits
  have u1 := orI_u16 u0 (putP_u16 r.rd d)
  have u2 := orI_u16 u1 (putP_u16 r.rs1 s)
  have u3 := orI_u16 u2 (putP_u16 r.rs2 t)
  unfold parC
  rw [bt_or (u16_32 u3) (u16_32 (sputC_u16 _ _)), bt_or (u16_32 u2) (u16_32 (putP_u16 _ _)), bt_or (u16_32 u1) (u16_32 (putP_u16 _ _)), bt_or (u16_32 u0) (u16_32 (putP_u16 _ _))]
  rfl
end Hm
