/-
  S8 in one text.
-/
import Derived.Test.YtfeijejeibolfaaDoorGA
set_option linter.unusedVariables false
set_option linter.unusedSimpArgs false
/-
  Mathematics of short instructions (made by gen_S8.py): what a row makes of a parcel is legal, and the row makes the parcel of it again. Nothing of the dump is imported.
-/
namespace Hm
theorem sum16 (p : Int) (h0 : 0 ≤ p) (h1 : p < 65536) : p = bt p 0 + 2 * bt p 1 + 4 * bt p 2 + 8 * bt p 3 + 16 * bt p 4 + 32 * bt p 5 + 64 * bt p 6 + 128 * bt p 7 + 256 * bt p 8 + 512 * bt p 9 + 1024 * bt p 10 + 2048 * bt p 11 + 4096 * bt p 12 + 8192 * bt p 13 + 16384 * bt p 14 + 32768 * bt p 15 := by
  have e : p % 4294967296 = p := by omega
  simp only [bt, e, pw, Int.reducePow]
  omega
theorem bt_bd (n : Int) (i : Nat) : 0 ≤ bt n i ∧ bt n i ≤ 1 := by have := bt_01 n i; omega
theorem sgn_lin (n : Int) (top : Nat) : sgn n top = n - 2 * pw top * bt n top := by
  rcases bt_01 n top with e | e
  · rw [sgn_0 e, e]; omega
  · rw [sgn_1 e, e]; omega
theorem bt_flr (n : Int) (j : Nat) (hj : j < 32) : bt n j = n / pw j % 2 := by
  unfold bt
  have e : (4294967296 : Int) = pw j * (2 * pw (31 - j)) := by
    unfold pw
    rw [show (2 : Int) * 2 ^ (31 - j) = 2 ^ (31 - j + 1) by rw [Int.pow_succ]; omega, ← Int.pow_add, show j + (31 - j + 1) = 32 by omega]
    rfl
  have hp := pw_pos j
  have h1 : n % 4294967296 = n - pw j * (2 * pw (31 - j)) * (n / 4294967296) := by rw [← e]; omega
  rw [h1, show n - pw j * (2 * pw (31 - j)) * (n / 4294967296) = n + pw j * (-(2 * pw (31 - j) * (n / 4294967296))) by rw [Int.mul_neg, Int.mul_assoc]; omega,
    Int.add_mul_ediv_left _ _ (by omega : pw j ≠ 0), Int.mul_assoc]
  generalize pw (31 - j) * (n / 4294967296) = q
  omega
theorem bt_at {n A c C P : Int} (j : Nat) (hj : j < 32) (hP : pw j = P) (e : n = A + P * c + 2 * P * C) (h0 : 0 ≤ A) (h1 : A < P) (c0 : 0 ≤ c ∧ c ≤ 1) : bt n j = c := by
  rw [bt_flr n j hj, hP, show n = A + P * (c + 2 * C) by rw [e, Int.mul_add, ← Int.mul_assoc, Int.mul_comm P 2]; omega, Int.add_mul_ediv_left _ _ (by omega : P ≠ 0), Int.ediv_eq_zero_of_lt h0 h1]
  omega
/-- The fields by bits as they stand. -/
def rdB (b : Nat → Int) : List UInt8 → Flds → Option Flds
  | [], f => some f
  | c :: l, f => if miss c (b l.length) then none else rdB b l (rstep f c (b l.length))
theorem rd_rdB (p : Int) : ∀ (l : List UInt8) (f : Flds), rd p l f = rdB (bt p) l f
  | [], f => rfl
  | c :: l, f => by unfold rd rdB; rw [rd_rdB p l]
/-- A row's way back. -/
def BackS (k : Nat) (p : Int) (f : Flds) : Prop := parS k f.d f.r f.t f.imm = p ∧ legalR (shortR k).op f.d f.r f.t f.imm = true
theorem back_0 (p : Int) (f : Flds) (h0 : 0 ≤ p) (h1 : p < 65536) (h : instS (shortR 0) p = some f) : BackS 0 p f := by
  have hs := sum16 p h0 h1
  have hb := bt_bd p
  unfold instS at h
  rw [rd_rdB] at h
  generalize bt p = b at h hs hb
  simp [shortR, shortL, rdB, miss, rstep, badS, makeS, fieldS, eightS, cnt, immS2, immS1, hi, hiTo, hasB] at h
  split at h
  · cases h
  rename_i g hg
  simp only [Option.ite_none_right_eq_some, Option.some.injEq] at hg
  obtain ⟨c0, c1, c2, c3, c4, hg⟩ := hg
  have gd : g.d = 1 * b 2 + 2 * b 3 + 4 * b 4 := by subst hg; simp [pw] <;> omega
  have gr : g.r = 0 := by subst hg; simp [pw] <;> omega
  have gt : g.t = 0 := by subst hg; simp [pw] <;> omega
  have gimm : g.imm = 4 * b 6 + 8 * b 5 + 16 * b 11 + 32 * b 12 + 64 * b 7 + 128 * b 8 + 256 * b 9 + 512 * b 10 := by subst hg; simp [pw] <;> omega
  clear hg
  have B2 := hb 2
  have B3 := hb 3
  have B4 := hb 4
  have B5 := hb 5
  have B6 := hb 6
  have B7 := hb 7
  have B8 := hb 8
  have B9 := hb 9
  have B10 := hb 10
  have B11 := hb 11
  have B12 := hb 12
  clear hb
  repeat' split at h
  all_goals first | (cases h; done) | skip
  all_goals
    have h := Option.some.inj h
    have hd := congrArg Flds.d h
    have hr := congrArg Flds.r h
    have ht := congrArg Flds.t h
    have hm := congrArg Flds.imm h
    clear h
    dsimp only at hd hr ht hm
    have ed0 : bt f.d 0 = b 2 := bt_at (A := 0) (C := 1 * b 3 + 2 * b 4 + 4) 0 (by decide) (by decide : pw 0 = 1) (by omega) (by omega) (by omega) B2
    have ed1 : bt f.d 1 = b 3 := bt_at (A := 1 * b 2) (C := 1 * b 4 + 2) 1 (by decide) (by decide : pw 1 = 2) (by omega) (by omega) (by omega) B3
    have ed2 : bt f.d 2 = b 4 := bt_at (A := 1 * b 2 + 2 * b 3) (C := 1) 2 (by decide) (by decide : pw 2 = 4) (by omega) (by omega) (by omega) B4
    have eimm2 : bt f.imm 2 = b 6 := bt_at (A := 0) (C := 1 * b 5 + 2 * b 11 + 4 * b 12 + 8 * b 7 + 16 * b 8 + 32 * b 9 + 64 * b 10) 2 (by decide) (by decide : pw 2 = 4) (by omega) (by omega) (by omega) B6
    have eimm3 : bt f.imm 3 = b 5 := bt_at (A := 4 * b 6) (C := 1 * b 11 + 2 * b 12 + 4 * b 7 + 8 * b 8 + 16 * b 9 + 32 * b 10) 3 (by decide) (by decide : pw 3 = 8) (by omega) (by omega) (by omega) B5
    have eimm4 : bt f.imm 4 = b 11 := bt_at (A := 4 * b 6 + 8 * b 5) (C := 1 * b 12 + 2 * b 7 + 4 * b 8 + 8 * b 9 + 16 * b 10) 4 (by decide) (by decide : pw 4 = 16) (by omega) (by omega) (by omega) B11
    have eimm5 : bt f.imm 5 = b 12 := bt_at (A := 4 * b 6 + 8 * b 5 + 16 * b 11) (C := 1 * b 7 + 2 * b 8 + 4 * b 9 + 8 * b 10) 5 (by decide) (by decide : pw 5 = 32) (by omega) (by omega) (by omega) B12
    have eimm6 : bt f.imm 6 = b 7 := bt_at (A := 4 * b 6 + 8 * b 5 + 16 * b 11 + 32 * b 12) (C := 1 * b 8 + 2 * b 9 + 4 * b 10) 6 (by decide) (by decide : pw 6 = 64) (by omega) (by omega) (by omega) B7
    have eimm7 : bt f.imm 7 = b 8 := bt_at (A := 4 * b 6 + 8 * b 5 + 16 * b 11 + 32 * b 12 + 64 * b 7) (C := 1 * b 9 + 2 * b 10) 7 (by decide) (by decide : pw 7 = 128) (by omega) (by omega) (by omega) B8
    have eimm8 : bt f.imm 8 = b 9 := bt_at (A := 4 * b 6 + 8 * b 5 + 16 * b 11 + 32 * b 12 + 64 * b 7 + 128 * b 8) (C := 1 * b 10) 8 (by decide) (by decide : pw 8 = 256) (by omega) (by omega) (by omega) B9
    have eimm9 : bt f.imm 9 = b 10 := bt_at (A := 4 * b 6 + 8 * b 5 + 16 * b 11 + 32 * b 12 + 64 * b 7 + 128 * b 8 + 256 * b 9) (C := 0) 9 (by decide) (by decide : pw 9 = 512) (by omega) (by omega) (by omega) B10
    constructor
    · simp [parS, shortR, shortL, fill, fbit, cnt, ed0, ed1, ed2, eimm2, eimm3, eimm4, eimm5, eimm6, eimm7, eimm8, eimm9] <;> omega
    · show legalR 19 _ _ _ _ = true
      simp [legalR, bitsL, tabL, regB, kind, kindC, fitsB, hi, hiTo, hasB] <;> omega
theorem back_1 (p : Int) (f : Flds) (h0 : 0 ≤ p) (h1 : p < 65536) (h : instS (shortR 1) p = some f) : BackS 1 p f := by
  have hs := sum16 p h0 h1
  have hb := bt_bd p
  unfold instS at h
  rw [rd_rdB] at h
  generalize bt p = b at h hs hb
  simp [shortR, shortL, rdB, miss, rstep, badS, makeS, fieldS, eightS, cnt, immS2, immS1, hi, hiTo, hasB] at h
  split at h
  · cases h
  rename_i g hg
  simp only [Option.ite_none_right_eq_some, Option.some.injEq] at hg
  obtain ⟨c0, c1, c2, c3, c4, hg⟩ := hg
  have gd : g.d = 1 * b 2 + 2 * b 3 + 4 * b 4 := by subst hg; simp [pw] <;> omega
  have gr : g.r = 1 * b 7 + 2 * b 8 + 4 * b 9 := by subst hg; simp [pw] <;> omega
  have gt : g.t = 0 := by subst hg; simp [pw] <;> omega
  have gimm : g.imm = 4 * b 6 + 8 * b 10 + 16 * b 11 + 32 * b 12 + 64 * b 5 := by subst hg; simp [pw] <;> omega
  clear hg
  have B2 := hb 2
  have B3 := hb 3
  have B4 := hb 4
  have B5 := hb 5
  have B6 := hb 6
  have B7 := hb 7
  have B8 := hb 8
  have B9 := hb 9
  have B10 := hb 10
  have B11 := hb 11
  have B12 := hb 12
  clear hb
  repeat' split at h
  all_goals first | (cases h; done) | skip
  all_goals
    have h := Option.some.inj h
    have hd := congrArg Flds.d h
    have hr := congrArg Flds.r h
    have ht := congrArg Flds.t h
    have hm := congrArg Flds.imm h
    clear h
    dsimp only at hd hr ht hm
    have ed0 : bt f.d 0 = b 2 := bt_at (A := 0) (C := 1 * b 3 + 2 * b 4 + 4) 0 (by decide) (by decide : pw 0 = 1) (by omega) (by omega) (by omega) B2
    have ed1 : bt f.d 1 = b 3 := bt_at (A := 1 * b 2) (C := 1 * b 4 + 2) 1 (by decide) (by decide : pw 1 = 2) (by omega) (by omega) (by omega) B3
    have ed2 : bt f.d 2 = b 4 := bt_at (A := 1 * b 2 + 2 * b 3) (C := 1) 2 (by decide) (by decide : pw 2 = 4) (by omega) (by omega) (by omega) B4
    have er0 : bt f.r 0 = b 7 := bt_at (A := 0) (C := 1 * b 8 + 2 * b 9 + 4) 0 (by decide) (by decide : pw 0 = 1) (by omega) (by omega) (by omega) B7
    have er1 : bt f.r 1 = b 8 := bt_at (A := 1 * b 7) (C := 1 * b 9 + 2) 1 (by decide) (by decide : pw 1 = 2) (by omega) (by omega) (by omega) B8
    have er2 : bt f.r 2 = b 9 := bt_at (A := 1 * b 7 + 2 * b 8) (C := 1) 2 (by decide) (by decide : pw 2 = 4) (by omega) (by omega) (by omega) B9
    have eimm2 : bt f.imm 2 = b 6 := bt_at (A := 0) (C := 1 * b 10 + 2 * b 11 + 4 * b 12 + 8 * b 5) 2 (by decide) (by decide : pw 2 = 4) (by omega) (by omega) (by omega) B6
    have eimm3 : bt f.imm 3 = b 10 := bt_at (A := 4 * b 6) (C := 1 * b 11 + 2 * b 12 + 4 * b 5) 3 (by decide) (by decide : pw 3 = 8) (by omega) (by omega) (by omega) B10
    have eimm4 : bt f.imm 4 = b 11 := bt_at (A := 4 * b 6 + 8 * b 10) (C := 1 * b 12 + 2 * b 5) 4 (by decide) (by decide : pw 4 = 16) (by omega) (by omega) (by omega) B11
    have eimm5 : bt f.imm 5 = b 12 := bt_at (A := 4 * b 6 + 8 * b 10 + 16 * b 11) (C := 1 * b 5) 5 (by decide) (by decide : pw 5 = 32) (by omega) (by omega) (by omega) B12
    have eimm6 : bt f.imm 6 = b 5 := bt_at (A := 4 * b 6 + 8 * b 10 + 16 * b 11 + 32 * b 12) (C := 0) 6 (by decide) (by decide : pw 6 = 64) (by omega) (by omega) (by omega) B5
    constructor
    · simp [parS, shortR, shortL, fill, fbit, cnt, ed0, ed1, ed2, er0, er1, er2, eimm2, eimm3, eimm4, eimm5, eimm6] <;> omega
    · show legalR 13 _ _ _ _ = true
      simp [legalR, bitsL, tabL, regB, kind, kindC, fitsB, hi, hiTo, hasB] <;> omega
theorem back_2 (p : Int) (f : Flds) (h0 : 0 ≤ p) (h1 : p < 65536) (h : instS (shortR 2) p = some f) : BackS 2 p f := by
  have hs := sum16 p h0 h1
  have hb := bt_bd p
  unfold instS at h
  rw [rd_rdB] at h
  generalize bt p = b at h hs hb
  simp [shortR, shortL, rdB, miss, rstep, badS, makeS, fieldS, eightS, cnt, immS2, immS1, hi, hiTo, hasB] at h
  split at h
  · cases h
  rename_i g hg
  simp only [Option.ite_none_right_eq_some, Option.some.injEq] at hg
  obtain ⟨c0, c1, c2, c3, c4, hg⟩ := hg
  have gd : g.d = 0 := by subst hg; simp [pw] <;> omega
  have gr : g.r = 1 * b 7 + 2 * b 8 + 4 * b 9 := by subst hg; simp [pw] <;> omega
  have gt : g.t = 1 * b 2 + 2 * b 3 + 4 * b 4 := by subst hg; simp [pw] <;> omega
  have gimm : g.imm = 4 * b 6 + 8 * b 10 + 16 * b 11 + 32 * b 12 + 64 * b 5 := by subst hg; simp [pw] <;> omega
  clear hg
  have B2 := hb 2
  have B3 := hb 3
  have B4 := hb 4
  have B5 := hb 5
  have B6 := hb 6
  have B7 := hb 7
  have B8 := hb 8
  have B9 := hb 9
  have B10 := hb 10
  have B11 := hb 11
  have B12 := hb 12
  clear hb
  repeat' split at h
  all_goals first | (cases h; done) | skip
  all_goals
    have h := Option.some.inj h
    have hd := congrArg Flds.d h
    have hr := congrArg Flds.r h
    have ht := congrArg Flds.t h
    have hm := congrArg Flds.imm h
    clear h
    dsimp only at hd hr ht hm
    have er0 : bt f.r 0 = b 7 := bt_at (A := 0) (C := 1 * b 8 + 2 * b 9 + 4) 0 (by decide) (by decide : pw 0 = 1) (by omega) (by omega) (by omega) B7
    have er1 : bt f.r 1 = b 8 := bt_at (A := 1 * b 7) (C := 1 * b 9 + 2) 1 (by decide) (by decide : pw 1 = 2) (by omega) (by omega) (by omega) B8
    have er2 : bt f.r 2 = b 9 := bt_at (A := 1 * b 7 + 2 * b 8) (C := 1) 2 (by decide) (by decide : pw 2 = 4) (by omega) (by omega) (by omega) B9
    have et0 : bt f.t 0 = b 2 := bt_at (A := 0) (C := 1 * b 3 + 2 * b 4 + 4) 0 (by decide) (by decide : pw 0 = 1) (by omega) (by omega) (by omega) B2
    have et1 : bt f.t 1 = b 3 := bt_at (A := 1 * b 2) (C := 1 * b 4 + 2) 1 (by decide) (by decide : pw 1 = 2) (by omega) (by omega) (by omega) B3
    have et2 : bt f.t 2 = b 4 := bt_at (A := 1 * b 2 + 2 * b 3) (C := 1) 2 (by decide) (by decide : pw 2 = 4) (by omega) (by omega) (by omega) B4
    have eimm2 : bt f.imm 2 = b 6 := bt_at (A := 0) (C := 1 * b 10 + 2 * b 11 + 4 * b 12 + 8 * b 5) 2 (by decide) (by decide : pw 2 = 4) (by omega) (by omega) (by omega) B6
    have eimm3 : bt f.imm 3 = b 10 := bt_at (A := 4 * b 6) (C := 1 * b 11 + 2 * b 12 + 4 * b 5) 3 (by decide) (by decide : pw 3 = 8) (by omega) (by omega) (by omega) B10
    have eimm4 : bt f.imm 4 = b 11 := bt_at (A := 4 * b 6 + 8 * b 10) (C := 1 * b 12 + 2 * b 5) 4 (by decide) (by decide : pw 4 = 16) (by omega) (by omega) (by omega) B11
    have eimm5 : bt f.imm 5 = b 12 := bt_at (A := 4 * b 6 + 8 * b 10 + 16 * b 11) (C := 1 * b 5) 5 (by decide) (by decide : pw 5 = 32) (by omega) (by omega) (by omega) B12
    have eimm6 : bt f.imm 6 = b 5 := bt_at (A := 4 * b 6 + 8 * b 10 + 16 * b 11 + 32 * b 12) (C := 0) 6 (by decide) (by decide : pw 6 = 64) (by omega) (by omega) (by omega) B5
    constructor
    · simp [parS, shortR, shortL, fill, fbit, cnt, er0, er1, er2, et0, et1, et2, eimm2, eimm3, eimm4, eimm5, eimm6] <;> omega
    · show legalR 18 _ _ _ _ = true
      simp [legalR, bitsL, tabL, regB, kind, kindC, fitsB, hi, hiTo, hasB] <;> omega
theorem back_3 (p : Int) (f : Flds) (h0 : 0 ≤ p) (h1 : p < 65536) (h : instS (shortR 3) p = some f) : BackS 3 p f := by
  have hs := sum16 p h0 h1
  have hb := bt_bd p
  unfold instS at h
  rw [rd_rdB] at h
  generalize bt p = b at h hs hb
  simp [shortR, shortL, rdB, miss, rstep, badS, makeS, fieldS, eightS, cnt, immS2, immS1, hi, hiTo, hasB] at h
  split at h
  · cases h
  rename_i g hg
  simp only [Option.ite_none_right_eq_some, Option.some.injEq] at hg
  obtain ⟨c0, c1, c2, c3, c4, hg⟩ := hg
  have gd : g.d = 1 * b 7 + 2 * b 8 + 4 * b 9 + 8 * b 10 + 16 * b 11 := by subst hg; simp [pw] <;> omega
  have gr : g.r = 0 := by subst hg; simp [pw] <;> omega
  have gt : g.t = 0 := by subst hg; simp [pw] <;> omega
  have gimm : g.imm = 1 * b 2 + 2 * b 3 + 4 * b 4 + 8 * b 5 + 16 * b 6 + 32 * b 12 := by subst hg; simp [pw] <;> omega
  clear hg
  have B2 := hb 2
  have B3 := hb 3
  have B4 := hb 4
  have B5 := hb 5
  have B6 := hb 6
  have B7 := hb 7
  have B8 := hb 8
  have B9 := hb 9
  have B10 := hb 10
  have B11 := hb 11
  have B12 := hb 12
  clear hb
  have it : bt g.imm 5 = b 12 := by exact bt_at (A := 1 * b 2 + 2 * b 3 + 4 * b 4 + 8 * b 5 + 16 * b 6) (C := 0) 5 (by decide) (by decide : pw 5 = 32) (by omega) (by omega) (by omega) B12
  have hsg : sgn g.imm 5 = g.imm - 64 * b 12 := by rw [sgn_lin, it]; simp [pw]
  repeat' split at h
  all_goals first | (cases h; done) | skip
  all_goals
    have h := Option.some.inj h
    have hd := congrArg Flds.d h
    have hr := congrArg Flds.r h
    have ht := congrArg Flds.t h
    have hm := congrArg Flds.imm h
    clear h
    dsimp only at hd hr ht hm
    have ed0 : bt f.d 0 = b 7 := bt_at (A := 0) (C := 1 * b 8 + 2 * b 9 + 4 * b 10 + 8 * b 11) 0 (by decide) (by decide : pw 0 = 1) (by omega) (by omega) (by omega) B7
    have ed1 : bt f.d 1 = b 8 := bt_at (A := 1 * b 7) (C := 1 * b 9 + 2 * b 10 + 4 * b 11) 1 (by decide) (by decide : pw 1 = 2) (by omega) (by omega) (by omega) B8
    have ed2 : bt f.d 2 = b 9 := bt_at (A := 1 * b 7 + 2 * b 8) (C := 1 * b 10 + 2 * b 11) 2 (by decide) (by decide : pw 2 = 4) (by omega) (by omega) (by omega) B9
    have ed3 : bt f.d 3 = b 10 := bt_at (A := 1 * b 7 + 2 * b 8 + 4 * b 9) (C := 1 * b 11) 3 (by decide) (by decide : pw 3 = 8) (by omega) (by omega) (by omega) B10
    have ed4 : bt f.d 4 = b 11 := bt_at (A := 1 * b 7 + 2 * b 8 + 4 * b 9 + 8 * b 10) (C := 0) 4 (by decide) (by decide : pw 4 = 16) (by omega) (by omega) (by omega) B11
    have eimm0 : bt f.imm 0 = b 2 := bt_at (A := 0) (C := 1 * b 3 + 2 * b 4 + 4 * b 5 + 8 * b 6 + 16 * b 12 + -32 * b 12) 0 (by decide) (by decide : pw 0 = 1) (by omega) (by omega) (by omega) B2
    have eimm1 : bt f.imm 1 = b 3 := bt_at (A := 1 * b 2) (C := 1 * b 4 + 2 * b 5 + 4 * b 6 + 8 * b 12 + -16 * b 12) 1 (by decide) (by decide : pw 1 = 2) (by omega) (by omega) (by omega) B3
    have eimm2 : bt f.imm 2 = b 4 := bt_at (A := 1 * b 2 + 2 * b 3) (C := 1 * b 5 + 2 * b 6 + 4 * b 12 + -8 * b 12) 2 (by decide) (by decide : pw 2 = 4) (by omega) (by omega) (by omega) B4
    have eimm3 : bt f.imm 3 = b 5 := bt_at (A := 1 * b 2 + 2 * b 3 + 4 * b 4) (C := 1 * b 6 + 2 * b 12 + -4 * b 12) 3 (by decide) (by decide : pw 3 = 8) (by omega) (by omega) (by omega) B5
    have eimm4 : bt f.imm 4 = b 6 := bt_at (A := 1 * b 2 + 2 * b 3 + 4 * b 4 + 8 * b 5) (C := 1 * b 12 + -2 * b 12) 4 (by decide) (by decide : pw 4 = 16) (by omega) (by omega) (by omega) B6
    have eimm5 : bt f.imm 5 = b 12 := bt_at (A := 1 * b 2 + 2 * b 3 + 4 * b 4 + 8 * b 5 + 16 * b 6) (C := -1 * b 12) 5 (by decide) (by decide : pw 5 = 32) (by omega) (by omega) (by omega) B12
    constructor
    · simp [parS, shortR, shortL, fill, fbit, cnt, ed0, ed1, ed2, ed3, ed4, eimm0, eimm1, eimm2, eimm3, eimm4, eimm5] <;> omega
    · show legalR 19 _ _ _ _ = true
      simp [legalR, bitsL, tabL, regB, kind, kindC, fitsB, hi, hiTo, hasB] <;> omega
theorem back_4 (p : Int) (f : Flds) (h0 : 0 ≤ p) (h1 : p < 65536) (h : instS (shortR 4) p = some f) : BackS 4 p f := by
  have hs := sum16 p h0 h1
  have hb := bt_bd p
  unfold instS at h
  rw [rd_rdB] at h
  generalize bt p = b at h hs hb
  simp [shortR, shortL, rdB, miss, rstep, badS, makeS, fieldS, eightS, cnt, immS2, immS1, hi, hiTo, hasB] at h
  split at h
  · cases h
  rename_i g hg
  simp only [Option.ite_none_right_eq_some, Option.some.injEq] at hg
  obtain ⟨c0, c1, c2, c3, c4, hg⟩ := hg
  have gd : g.d = 0 := by subst hg; simp [pw] <;> omega
  have gr : g.r = 0 := by subst hg; simp [pw] <;> omega
  have gt : g.t = 0 := by subst hg; simp [pw] <;> omega
  have gimm : g.imm = 2 * b 3 + 4 * b 4 + 8 * b 5 + 16 * b 11 + 32 * b 2 + 64 * b 7 + 128 * b 6 + 256 * b 9 + 512 * b 10 + 1024 * b 8 + 2048 * b 12 := by subst hg; simp [pw] <;> omega
  clear hg
  have B2 := hb 2
  have B3 := hb 3
  have B4 := hb 4
  have B5 := hb 5
  have B6 := hb 6
  have B7 := hb 7
  have B8 := hb 8
  have B9 := hb 9
  have B10 := hb 10
  have B11 := hb 11
  have B12 := hb 12
  clear hb
  have it : bt g.imm 11 = b 12 := by exact bt_at (A := 2 * b 3 + 4 * b 4 + 8 * b 5 + 16 * b 11 + 32 * b 2 + 64 * b 7 + 128 * b 6 + 256 * b 9 + 512 * b 10 + 1024 * b 8) (C := 0) 11 (by decide) (by decide : pw 11 = 2048) (by omega) (by omega) (by omega) B12
  have hsg : sgn g.imm 11 = g.imm - 4096 * b 12 := by rw [sgn_lin, it]; simp [pw]
  repeat' split at h
  all_goals first | (cases h; done) | skip
  all_goals
    have h := Option.some.inj h
    have hd := congrArg Flds.d h
    have hr := congrArg Flds.r h
    have ht := congrArg Flds.t h
    have hm := congrArg Flds.imm h
    clear h
    dsimp only at hd hr ht hm
    have eimm1 : bt f.imm 1 = b 3 := bt_at (A := 0) (C := 1 * b 4 + 2 * b 5 + 4 * b 11 + 8 * b 2 + 16 * b 7 + 32 * b 6 + 64 * b 9 + 128 * b 10 + 256 * b 8 + 512 * b 12 + -1024 * b 12) 1 (by decide) (by decide : pw 1 = 2) (by omega) (by omega) (by omega) B3
    have eimm2 : bt f.imm 2 = b 4 := bt_at (A := 2 * b 3) (C := 1 * b 5 + 2 * b 11 + 4 * b 2 + 8 * b 7 + 16 * b 6 + 32 * b 9 + 64 * b 10 + 128 * b 8 + 256 * b 12 + -512 * b 12) 2 (by decide) (by decide : pw 2 = 4) (by omega) (by omega) (by omega) B4
    have eimm3 : bt f.imm 3 = b 5 := bt_at (A := 2 * b 3 + 4 * b 4) (C := 1 * b 11 + 2 * b 2 + 4 * b 7 + 8 * b 6 + 16 * b 9 + 32 * b 10 + 64 * b 8 + 128 * b 12 + -256 * b 12) 3 (by decide) (by decide : pw 3 = 8) (by omega) (by omega) (by omega) B5
    have eimm4 : bt f.imm 4 = b 11 := bt_at (A := 2 * b 3 + 4 * b 4 + 8 * b 5) (C := 1 * b 2 + 2 * b 7 + 4 * b 6 + 8 * b 9 + 16 * b 10 + 32 * b 8 + 64 * b 12 + -128 * b 12) 4 (by decide) (by decide : pw 4 = 16) (by omega) (by omega) (by omega) B11
    have eimm5 : bt f.imm 5 = b 2 := bt_at (A := 2 * b 3 + 4 * b 4 + 8 * b 5 + 16 * b 11) (C := 1 * b 7 + 2 * b 6 + 4 * b 9 + 8 * b 10 + 16 * b 8 + 32 * b 12 + -64 * b 12) 5 (by decide) (by decide : pw 5 = 32) (by omega) (by omega) (by omega) B2
    have eimm6 : bt f.imm 6 = b 7 := bt_at (A := 2 * b 3 + 4 * b 4 + 8 * b 5 + 16 * b 11 + 32 * b 2) (C := 1 * b 6 + 2 * b 9 + 4 * b 10 + 8 * b 8 + 16 * b 12 + -32 * b 12) 6 (by decide) (by decide : pw 6 = 64) (by omega) (by omega) (by omega) B7
    have eimm7 : bt f.imm 7 = b 6 := bt_at (A := 2 * b 3 + 4 * b 4 + 8 * b 5 + 16 * b 11 + 32 * b 2 + 64 * b 7) (C := 1 * b 9 + 2 * b 10 + 4 * b 8 + 8 * b 12 + -16 * b 12) 7 (by decide) (by decide : pw 7 = 128) (by omega) (by omega) (by omega) B6
    have eimm8 : bt f.imm 8 = b 9 := bt_at (A := 2 * b 3 + 4 * b 4 + 8 * b 5 + 16 * b 11 + 32 * b 2 + 64 * b 7 + 128 * b 6) (C := 1 * b 10 + 2 * b 8 + 4 * b 12 + -8 * b 12) 8 (by decide) (by decide : pw 8 = 256) (by omega) (by omega) (by omega) B9
    have eimm9 : bt f.imm 9 = b 10 := bt_at (A := 2 * b 3 + 4 * b 4 + 8 * b 5 + 16 * b 11 + 32 * b 2 + 64 * b 7 + 128 * b 6 + 256 * b 9) (C := 1 * b 8 + 2 * b 12 + -4 * b 12) 9 (by decide) (by decide : pw 9 = 512) (by omega) (by omega) (by omega) B10
    have eimm10 : bt f.imm 10 = b 8 := bt_at (A := 2 * b 3 + 4 * b 4 + 8 * b 5 + 16 * b 11 + 32 * b 2 + 64 * b 7 + 128 * b 6 + 256 * b 9 + 512 * b 10) (C := 1 * b 12 + -2 * b 12) 10 (by decide) (by decide : pw 10 = 1024) (by omega) (by omega) (by omega) B8
    have eimm11 : bt f.imm 11 = b 12 := bt_at (A := 2 * b 3 + 4 * b 4 + 8 * b 5 + 16 * b 11 + 32 * b 2 + 64 * b 7 + 128 * b 6 + 256 * b 9 + 512 * b 10 + 1024 * b 8) (C := -1 * b 12) 11 (by decide) (by decide : pw 11 = 2048) (by omega) (by omega) (by omega) B12
    constructor
    · simp [parS, shortR, shortL, fill, fbit, cnt, eimm1, eimm2, eimm3, eimm4, eimm5, eimm6, eimm7, eimm8, eimm9, eimm10, eimm11] <;> omega
    · show legalR 3 _ _ _ _ = true
      simp [legalR, bitsL, tabL, regB, kind, kindC, fitsB, hi, hiTo, hasB] <;> omega
theorem back_5 (p : Int) (f : Flds) (h0 : 0 ≤ p) (h1 : p < 65536) (h : instS (shortR 5) p = some f) : BackS 5 p f := by
  have hs := sum16 p h0 h1
  have hb := bt_bd p
  unfold instS at h
  rw [rd_rdB] at h
  generalize bt p = b at h hs hb
  simp [shortR, shortL, rdB, miss, rstep, badS, makeS, fieldS, eightS, cnt, immS2, immS1, hi, hiTo, hasB] at h
  split at h
  · cases h
  rename_i g hg
  simp only [Option.ite_none_right_eq_some, Option.some.injEq] at hg
  obtain ⟨c0, c1, c2, c3, c4, hg⟩ := hg
  have gd : g.d = 1 * b 7 + 2 * b 8 + 4 * b 9 + 8 * b 10 + 16 * b 11 := by subst hg; simp [pw] <;> omega
  have gr : g.r = 0 := by subst hg; simp [pw] <;> omega
  have gt : g.t = 0 := by subst hg; simp [pw] <;> omega
  have gimm : g.imm = 1 * b 2 + 2 * b 3 + 4 * b 4 + 8 * b 5 + 16 * b 6 + 32 * b 12 := by subst hg; simp [pw] <;> omega
  clear hg
  have B2 := hb 2
  have B3 := hb 3
  have B4 := hb 4
  have B5 := hb 5
  have B6 := hb 6
  have B7 := hb 7
  have B8 := hb 8
  have B9 := hb 9
  have B10 := hb 10
  have B11 := hb 11
  have B12 := hb 12
  clear hb
  have it : bt g.imm 5 = b 12 := by exact bt_at (A := 1 * b 2 + 2 * b 3 + 4 * b 4 + 8 * b 5 + 16 * b 6) (C := 0) 5 (by decide) (by decide : pw 5 = 32) (by omega) (by omega) (by omega) B12
  have hsg : sgn g.imm 5 = g.imm - 64 * b 12 := by rw [sgn_lin, it]; simp [pw]
  repeat' split at h
  all_goals first | (cases h; done) | skip
  all_goals
    have h := Option.some.inj h
    have hd := congrArg Flds.d h
    have hr := congrArg Flds.r h
    have ht := congrArg Flds.t h
    have hm := congrArg Flds.imm h
    clear h
    dsimp only at hd hr ht hm
    have ed0 : bt f.d 0 = b 7 := bt_at (A := 0) (C := 1 * b 8 + 2 * b 9 + 4 * b 10 + 8 * b 11) 0 (by decide) (by decide : pw 0 = 1) (by omega) (by omega) (by omega) B7
    have ed1 : bt f.d 1 = b 8 := bt_at (A := 1 * b 7) (C := 1 * b 9 + 2 * b 10 + 4 * b 11) 1 (by decide) (by decide : pw 1 = 2) (by omega) (by omega) (by omega) B8
    have ed2 : bt f.d 2 = b 9 := bt_at (A := 1 * b 7 + 2 * b 8) (C := 1 * b 10 + 2 * b 11) 2 (by decide) (by decide : pw 2 = 4) (by omega) (by omega) (by omega) B9
    have ed3 : bt f.d 3 = b 10 := bt_at (A := 1 * b 7 + 2 * b 8 + 4 * b 9) (C := 1 * b 11) 3 (by decide) (by decide : pw 3 = 8) (by omega) (by omega) (by omega) B10
    have ed4 : bt f.d 4 = b 11 := bt_at (A := 1 * b 7 + 2 * b 8 + 4 * b 9 + 8 * b 10) (C := 0) 4 (by decide) (by decide : pw 4 = 16) (by omega) (by omega) (by omega) B11
    have eimm0 : bt f.imm 0 = b 2 := bt_at (A := 0) (C := 1 * b 3 + 2 * b 4 + 4 * b 5 + 8 * b 6 + 16 * b 12 + -32 * b 12) 0 (by decide) (by decide : pw 0 = 1) (by omega) (by omega) (by omega) B2
    have eimm1 : bt f.imm 1 = b 3 := bt_at (A := 1 * b 2) (C := 1 * b 4 + 2 * b 5 + 4 * b 6 + 8 * b 12 + -16 * b 12) 1 (by decide) (by decide : pw 1 = 2) (by omega) (by omega) (by omega) B3
    have eimm2 : bt f.imm 2 = b 4 := bt_at (A := 1 * b 2 + 2 * b 3) (C := 1 * b 5 + 2 * b 6 + 4 * b 12 + -8 * b 12) 2 (by decide) (by decide : pw 2 = 4) (by omega) (by omega) (by omega) B4
    have eimm3 : bt f.imm 3 = b 5 := bt_at (A := 1 * b 2 + 2 * b 3 + 4 * b 4) (C := 1 * b 6 + 2 * b 12 + -4 * b 12) 3 (by decide) (by decide : pw 3 = 8) (by omega) (by omega) (by omega) B5
    have eimm4 : bt f.imm 4 = b 6 := bt_at (A := 1 * b 2 + 2 * b 3 + 4 * b 4 + 8 * b 5) (C := 1 * b 12 + -2 * b 12) 4 (by decide) (by decide : pw 4 = 16) (by omega) (by omega) (by omega) B6
    have eimm5 : bt f.imm 5 = b 12 := bt_at (A := 1 * b 2 + 2 * b 3 + 4 * b 4 + 8 * b 5 + 16 * b 6) (C := -1 * b 12) 5 (by decide) (by decide : pw 5 = 32) (by omega) (by omega) (by omega) B12
    constructor
    · simp [parS, shortR, shortL, fill, fbit, cnt, ed0, ed1, ed2, ed3, ed4, eimm0, eimm1, eimm2, eimm3, eimm4, eimm5] <;> omega
    · show legalR 19 _ _ _ _ = true
      simp [legalR, bitsL, tabL, regB, kind, kindC, fitsB, hi, hiTo, hasB] <;> omega
theorem back_6 (p : Int) (f : Flds) (h0 : 0 ≤ p) (h1 : p < 65536) (h : instS (shortR 6) p = some f) : BackS 6 p f := by
  have hs := sum16 p h0 h1
  have hb := bt_bd p
  unfold instS at h
  rw [rd_rdB] at h
  generalize bt p = b at h hs hb
  simp [shortR, shortL, rdB, miss, rstep, badS, makeS, fieldS, eightS, cnt, immS2, immS1, hi, hiTo, hasB] at h
  split at h
  · cases h
  rename_i g hg
  simp only [Option.ite_none_right_eq_some, Option.some.injEq] at hg
  obtain ⟨c0, c1, c2, c3, c4, c5, c6, c7, c8, c9, hg⟩ := hg
  have gd : g.d = 0 := by subst hg; simp [pw] <;> omega
  have gr : g.r = 0 := by subst hg; simp [pw] <;> omega
  have gt : g.t = 0 := by subst hg; simp [pw] <;> omega
  have gimm : g.imm = 16 * b 6 + 32 * b 2 + 64 * b 5 + 128 * b 3 + 256 * b 4 + 512 * b 12 := by subst hg; simp [pw] <;> omega
  clear hg
  have B2 := hb 2
  have B3 := hb 3
  have B4 := hb 4
  have B5 := hb 5
  have B6 := hb 6
  have B12 := hb 12
  clear hb
  have it : bt g.imm 9 = b 12 := by exact bt_at (A := 16 * b 6 + 32 * b 2 + 64 * b 5 + 128 * b 3 + 256 * b 4) (C := 0) 9 (by decide) (by decide : pw 9 = 512) (by omega) (by omega) (by omega) B12
  have hsg : sgn g.imm 9 = g.imm - 1024 * b 12 := by rw [sgn_lin, it]; simp [pw]
  repeat' split at h
  all_goals first | (cases h; done) | skip
  all_goals
    have h := Option.some.inj h
    have hd := congrArg Flds.d h
    have hr := congrArg Flds.r h
    have ht := congrArg Flds.t h
    have hm := congrArg Flds.imm h
    clear h
    dsimp only at hd hr ht hm
    have eimm4 : bt f.imm 4 = b 6 := bt_at (A := 0) (C := 1 * b 2 + 2 * b 5 + 4 * b 3 + 8 * b 4 + 16 * b 12 + -32 * b 12) 4 (by decide) (by decide : pw 4 = 16) (by omega) (by omega) (by omega) B6
    have eimm5 : bt f.imm 5 = b 2 := bt_at (A := 16 * b 6) (C := 1 * b 5 + 2 * b 3 + 4 * b 4 + 8 * b 12 + -16 * b 12) 5 (by decide) (by decide : pw 5 = 32) (by omega) (by omega) (by omega) B2
    have eimm6 : bt f.imm 6 = b 5 := bt_at (A := 16 * b 6 + 32 * b 2) (C := 1 * b 3 + 2 * b 4 + 4 * b 12 + -8 * b 12) 6 (by decide) (by decide : pw 6 = 64) (by omega) (by omega) (by omega) B5
    have eimm7 : bt f.imm 7 = b 3 := bt_at (A := 16 * b 6 + 32 * b 2 + 64 * b 5) (C := 1 * b 4 + 2 * b 12 + -4 * b 12) 7 (by decide) (by decide : pw 7 = 128) (by omega) (by omega) (by omega) B3
    have eimm8 : bt f.imm 8 = b 4 := bt_at (A := 16 * b 6 + 32 * b 2 + 64 * b 5 + 128 * b 3) (C := 1 * b 12 + -2 * b 12) 8 (by decide) (by decide : pw 8 = 256) (by omega) (by omega) (by omega) B4
    have eimm9 : bt f.imm 9 = b 12 := bt_at (A := 16 * b 6 + 32 * b 2 + 64 * b 5 + 128 * b 3 + 256 * b 4) (C := -1 * b 12) 9 (by decide) (by decide : pw 9 = 512) (by omega) (by omega) (by omega) B12
    constructor
    · simp [parS, shortR, shortL, fill, fbit, cnt, eimm4, eimm5, eimm6, eimm7, eimm8, eimm9] <;> omega
    · show legalR 19 _ _ _ _ = true
      simp [legalR, bitsL, tabL, regB, kind, kindC, fitsB, hi, hiTo, hasB] <;> omega
theorem back_7 (p : Int) (f : Flds) (h0 : 0 ≤ p) (h1 : p < 65536) (h : instS (shortR 7) p = some f) : BackS 7 p f := by
  have hs := sum16 p h0 h1
  have hb := bt_bd p
  unfold instS at h
  rw [rd_rdB] at h
  generalize bt p = b at h hs hb
  simp [shortR, shortL, rdB, miss, rstep, badS, makeS, fieldS, eightS, cnt, immS2, immS1, hi, hiTo, hasB] at h
  split at h
  · cases h
  rename_i g hg
  simp only [Option.ite_none_right_eq_some, Option.some.injEq] at hg
  obtain ⟨c0, c1, c2, c3, c4, hg⟩ := hg
  have gd : g.d = 1 * b 7 + 2 * b 8 + 4 * b 9 + 8 * b 10 + 16 * b 11 := by subst hg; simp [pw] <;> omega
  have gr : g.r = 0 := by subst hg; simp [pw] <;> omega
  have gt : g.t = 0 := by subst hg; simp [pw] <;> omega
  have gimm : g.imm = 1 * b 2 + 2 * b 3 + 4 * b 4 + 8 * b 5 + 16 * b 6 + 32 * b 12 := by subst hg; simp [pw] <;> omega
  clear hg
  have B2 := hb 2
  have B3 := hb 3
  have B4 := hb 4
  have B5 := hb 5
  have B6 := hb 6
  have B7 := hb 7
  have B8 := hb 8
  have B9 := hb 9
  have B10 := hb 10
  have B11 := hb 11
  have B12 := hb 12
  clear hb
  have it : bt g.imm 5 = b 12 := by exact bt_at (A := 1 * b 2 + 2 * b 3 + 4 * b 4 + 8 * b 5 + 16 * b 6) (C := 0) 5 (by decide) (by decide : pw 5 = 32) (by omega) (by omega) (by omega) B12
  have hsg : sgn g.imm 5 = g.imm - 64 * b 12 := by rw [sgn_lin, it]; simp [pw]
  repeat' split at h
  all_goals first | (cases h; done) | skip
  all_goals
    have h := Option.some.inj h
    have hd := congrArg Flds.d h
    have hr := congrArg Flds.r h
    have ht := congrArg Flds.t h
    have hm := congrArg Flds.imm h
    clear h
    dsimp only at hd hr ht hm
    have ed0 : bt f.d 0 = b 7 := bt_at (A := 0) (C := 1 * b 8 + 2 * b 9 + 4 * b 10 + 8 * b 11) 0 (by decide) (by decide : pw 0 = 1) (by omega) (by omega) (by omega) B7
    have ed1 : bt f.d 1 = b 8 := bt_at (A := 1 * b 7) (C := 1 * b 9 + 2 * b 10 + 4 * b 11) 1 (by decide) (by decide : pw 1 = 2) (by omega) (by omega) (by omega) B8
    have ed2 : bt f.d 2 = b 9 := bt_at (A := 1 * b 7 + 2 * b 8) (C := 1 * b 10 + 2 * b 11) 2 (by decide) (by decide : pw 2 = 4) (by omega) (by omega) (by omega) B9
    have ed3 : bt f.d 3 = b 10 := bt_at (A := 1 * b 7 + 2 * b 8 + 4 * b 9) (C := 1 * b 11) 3 (by decide) (by decide : pw 3 = 8) (by omega) (by omega) (by omega) B10
    have ed4 : bt f.d 4 = b 11 := bt_at (A := 1 * b 7 + 2 * b 8 + 4 * b 9 + 8 * b 10) (C := 0) 4 (by decide) (by decide : pw 4 = 16) (by omega) (by omega) (by omega) B11
    have eimm0 : bt f.imm 0 = b 2 := bt_at (A := 0) (C := 1 * b 3 + 2 * b 4 + 4 * b 5 + 8 * b 6 + 16 * b 12 + -32 * b 12 + 524288 * (if sgn g.imm 5 < 0 then 1 else 0)) 0 (by decide) (by decide : pw 0 = 1) (by omega) (by omega) (by omega) B2
    have eimm1 : bt f.imm 1 = b 3 := bt_at (A := 1 * b 2) (C := 1 * b 4 + 2 * b 5 + 4 * b 6 + 8 * b 12 + -16 * b 12 + 262144 * (if sgn g.imm 5 < 0 then 1 else 0)) 1 (by decide) (by decide : pw 1 = 2) (by omega) (by omega) (by omega) B3
    have eimm2 : bt f.imm 2 = b 4 := bt_at (A := 1 * b 2 + 2 * b 3) (C := 1 * b 5 + 2 * b 6 + 4 * b 12 + -8 * b 12 + 131072 * (if sgn g.imm 5 < 0 then 1 else 0)) 2 (by decide) (by decide : pw 2 = 4) (by omega) (by omega) (by omega) B4
    have eimm3 : bt f.imm 3 = b 5 := bt_at (A := 1 * b 2 + 2 * b 3 + 4 * b 4) (C := 1 * b 6 + 2 * b 12 + -4 * b 12 + 65536 * (if sgn g.imm 5 < 0 then 1 else 0)) 3 (by decide) (by decide : pw 3 = 8) (by omega) (by omega) (by omega) B5
    have eimm4 : bt f.imm 4 = b 6 := bt_at (A := 1 * b 2 + 2 * b 3 + 4 * b 4 + 8 * b 5) (C := 1 * b 12 + -2 * b 12 + 32768 * (if sgn g.imm 5 < 0 then 1 else 0)) 4 (by decide) (by decide : pw 4 = 16) (by omega) (by omega) (by omega) B6
    have eimm5 : bt f.imm 5 = b 12 := bt_at (A := 1 * b 2 + 2 * b 3 + 4 * b 4 + 8 * b 5 + 16 * b 6) (C := -1 * b 12 + 16384 * (if sgn g.imm 5 < 0 then 1 else 0)) 5 (by decide) (by decide : pw 5 = 32) (by omega) (by omega) (by omega) B12
    constructor
    · simp [parS, shortR, shortL, fill, fbit, cnt, ed0, ed1, ed2, ed3, ed4, eimm0, eimm1, eimm2, eimm3, eimm4, eimm5] <;> omega
    · show legalR 1 _ _ _ _ = true
      simp [legalR, bitsL, tabL, regB, kind, kindC, fitsB, hi, hiTo, hasB] <;> omega
theorem back_8 (p : Int) (f : Flds) (h0 : 0 ≤ p) (h1 : p < 65536) (h : instS (shortR 8) p = some f) : BackS 8 p f := by
  have hs := sum16 p h0 h1
  have hb := bt_bd p
  unfold instS at h
  rw [rd_rdB] at h
  generalize bt p = b at h hs hb
  simp [shortR, shortL, rdB, miss, rstep, badS, makeS, fieldS, eightS, cnt, immS2, immS1, hi, hiTo, hasB] at h
  split at h
  · cases h
  rename_i g hg
  simp only [Option.ite_none_right_eq_some, Option.some.injEq] at hg
  obtain ⟨c0, c1, c2, c3, c4, c5, c6, c7, hg⟩ := hg
  have gd : g.d = 1 * b 7 + 2 * b 8 + 4 * b 9 := by subst hg; simp [pw] <;> omega
  have gr : g.r = 0 := by subst hg; simp [pw] <;> omega
  have gt : g.t = 0 := by subst hg; simp [pw] <;> omega
  have gimm : g.imm = 1 * b 2 + 2 * b 3 + 4 * b 4 + 8 * b 5 + 16 * b 6 := by subst hg; simp [pw] <;> omega
  clear hg
  have B2 := hb 2
  have B3 := hb 3
  have B4 := hb 4
  have B5 := hb 5
  have B6 := hb 6
  have B7 := hb 7
  have B8 := hb 8
  have B9 := hb 9
  clear hb
  repeat' split at h
  all_goals first | (cases h; done) | skip
  all_goals
    have h := Option.some.inj h
    have hd := congrArg Flds.d h
    have hr := congrArg Flds.r h
    have ht := congrArg Flds.t h
    have hm := congrArg Flds.imm h
    clear h
    dsimp only at hd hr ht hm
    have ed0 : bt f.d 0 = b 7 := bt_at (A := 0) (C := 1 * b 8 + 2 * b 9 + 4) 0 (by decide) (by decide : pw 0 = 1) (by omega) (by omega) (by omega) B7
    have ed1 : bt f.d 1 = b 8 := bt_at (A := 1 * b 7) (C := 1 * b 9 + 2) 1 (by decide) (by decide : pw 1 = 2) (by omega) (by omega) (by omega) B8
    have ed2 : bt f.d 2 = b 9 := bt_at (A := 1 * b 7 + 2 * b 8) (C := 1) 2 (by decide) (by decide : pw 2 = 4) (by omega) (by omega) (by omega) B9
    have eimm0 : bt f.imm 0 = b 2 := bt_at (A := 0) (C := 1 * b 3 + 2 * b 4 + 4 * b 5 + 8 * b 6) 0 (by decide) (by decide : pw 0 = 1) (by omega) (by omega) (by omega) B2
    have eimm1 : bt f.imm 1 = b 3 := bt_at (A := 1 * b 2) (C := 1 * b 4 + 2 * b 5 + 4 * b 6) 1 (by decide) (by decide : pw 1 = 2) (by omega) (by omega) (by omega) B3
    have eimm2 : bt f.imm 2 = b 4 := bt_at (A := 1 * b 2 + 2 * b 3) (C := 1 * b 5 + 2 * b 6) 2 (by decide) (by decide : pw 2 = 4) (by omega) (by omega) (by omega) B4
    have eimm3 : bt f.imm 3 = b 5 := bt_at (A := 1 * b 2 + 2 * b 3 + 4 * b 4) (C := 1 * b 6) 3 (by decide) (by decide : pw 3 = 8) (by omega) (by omega) (by omega) B5
    have eimm4 : bt f.imm 4 = b 6 := bt_at (A := 1 * b 2 + 2 * b 3 + 4 * b 4 + 8 * b 5) (C := 0) 4 (by decide) (by decide : pw 4 = 16) (by omega) (by omega) (by omega) B6
    constructor
    · simp [parS, shortR, shortL, fill, fbit, cnt, ed0, ed1, ed2, eimm0, eimm1, eimm2, eimm3, eimm4] <;> omega
    · show legalR 26 _ _ _ _ = true
      simp [legalR, bitsL, tabL, regB, kind, kindC, fitsB, hi, hiTo, hasB] <;> omega
theorem back_9 (p : Int) (f : Flds) (h0 : 0 ≤ p) (h1 : p < 65536) (h : instS (shortR 9) p = some f) : BackS 9 p f := by
  have hs := sum16 p h0 h1
  have hb := bt_bd p
  unfold instS at h
  rw [rd_rdB] at h
  generalize bt p = b at h hs hb
  simp [shortR, shortL, rdB, miss, rstep, badS, makeS, fieldS, eightS, cnt, immS2, immS1, hi, hiTo, hasB] at h
  split at h
  · cases h
  rename_i g hg
  simp only [Option.ite_none_right_eq_some, Option.some.injEq] at hg
  obtain ⟨c0, c1, c2, c3, c4, c5, c6, c7, hg⟩ := hg
  have gd : g.d = 1 * b 7 + 2 * b 8 + 4 * b 9 := by subst hg; simp [pw] <;> omega
  have gr : g.r = 0 := by subst hg; simp [pw] <;> omega
  have gt : g.t = 0 := by subst hg; simp [pw] <;> omega
  have gimm : g.imm = 1 * b 2 + 2 * b 3 + 4 * b 4 + 8 * b 5 + 16 * b 6 := by subst hg; simp [pw] <;> omega
  clear hg
  have B2 := hb 2
  have B3 := hb 3
  have B4 := hb 4
  have B5 := hb 5
  have B6 := hb 6
  have B7 := hb 7
  have B8 := hb 8
  have B9 := hb 9
  clear hb
  repeat' split at h
  all_goals first | (cases h; done) | skip
  all_goals
    have h := Option.some.inj h
    have hd := congrArg Flds.d h
    have hr := congrArg Flds.r h
    have ht := congrArg Flds.t h
    have hm := congrArg Flds.imm h
    clear h
    dsimp only at hd hr ht hm
    have ed0 : bt f.d 0 = b 7 := bt_at (A := 0) (C := 1 * b 8 + 2 * b 9 + 4) 0 (by decide) (by decide : pw 0 = 1) (by omega) (by omega) (by omega) B7
    have ed1 : bt f.d 1 = b 8 := bt_at (A := 1 * b 7) (C := 1 * b 9 + 2) 1 (by decide) (by decide : pw 1 = 2) (by omega) (by omega) (by omega) B8
    have ed2 : bt f.d 2 = b 9 := bt_at (A := 1 * b 7 + 2 * b 8) (C := 1) 2 (by decide) (by decide : pw 2 = 4) (by omega) (by omega) (by omega) B9
    have eimm0 : bt f.imm 0 = b 2 := bt_at (A := 0) (C := 1 * b 3 + 2 * b 4 + 4 * b 5 + 8 * b 6) 0 (by decide) (by decide : pw 0 = 1) (by omega) (by omega) (by omega) B2
    have eimm1 : bt f.imm 1 = b 3 := bt_at (A := 1 * b 2) (C := 1 * b 4 + 2 * b 5 + 4 * b 6) 1 (by decide) (by decide : pw 1 = 2) (by omega) (by omega) (by omega) B3
    have eimm2 : bt f.imm 2 = b 4 := bt_at (A := 1 * b 2 + 2 * b 3) (C := 1 * b 5 + 2 * b 6) 2 (by decide) (by decide : pw 2 = 4) (by omega) (by omega) (by omega) B4
    have eimm3 : bt f.imm 3 = b 5 := bt_at (A := 1 * b 2 + 2 * b 3 + 4 * b 4) (C := 1 * b 6) 3 (by decide) (by decide : pw 3 = 8) (by omega) (by omega) (by omega) B5
    have eimm4 : bt f.imm 4 = b 6 := bt_at (A := 1 * b 2 + 2 * b 3 + 4 * b 4 + 8 * b 5) (C := 0) 4 (by decide) (by decide : pw 4 = 16) (by omega) (by omega) (by omega) B6
    constructor
    · simp [parS, shortR, shortL, fill, fbit, cnt, ed0, ed1, ed2, eimm0, eimm1, eimm2, eimm3, eimm4] <;> omega
    · show legalR 27 _ _ _ _ = true
      simp [legalR, bitsL, tabL, regB, kind, kindC, fitsB, hi, hiTo, hasB] <;> omega
theorem back_10 (p : Int) (f : Flds) (h0 : 0 ≤ p) (h1 : p < 65536) (h : instS (shortR 10) p = some f) : BackS 10 p f := by
  have hs := sum16 p h0 h1
  have hb := bt_bd p
  unfold instS at h
  rw [rd_rdB] at h
  generalize bt p = b at h hs hb
  simp [shortR, shortL, rdB, miss, rstep, badS, makeS, fieldS, eightS, cnt, immS2, immS1, hi, hiTo, hasB] at h
  split at h
  · cases h
  rename_i g hg
  simp only [Option.ite_none_right_eq_some, Option.some.injEq] at hg
  obtain ⟨c0, c1, c2, c3, c4, c5, c6, hg⟩ := hg
  have gd : g.d = 1 * b 7 + 2 * b 8 + 4 * b 9 := by subst hg; simp [pw] <;> omega
  have gr : g.r = 0 := by subst hg; simp [pw] <;> omega
  have gt : g.t = 0 := by subst hg; simp [pw] <;> omega
  have gimm : g.imm = 1 * b 2 + 2 * b 3 + 4 * b 4 + 8 * b 5 + 16 * b 6 + 32 * b 12 := by subst hg; simp [pw] <;> omega
  clear hg
  have B2 := hb 2
  have B3 := hb 3
  have B4 := hb 4
  have B5 := hb 5
  have B6 := hb 6
  have B7 := hb 7
  have B8 := hb 8
  have B9 := hb 9
  have B12 := hb 12
  clear hb
  have it : bt g.imm 5 = b 12 := by exact bt_at (A := 1 * b 2 + 2 * b 3 + 4 * b 4 + 8 * b 5 + 16 * b 6) (C := 0) 5 (by decide) (by decide : pw 5 = 32) (by omega) (by omega) (by omega) B12
  have hsg : sgn g.imm 5 = g.imm - 64 * b 12 := by rw [sgn_lin, it]; simp [pw]
  repeat' split at h
  all_goals first | (cases h; done) | skip
  all_goals
    have h := Option.some.inj h
    have hd := congrArg Flds.d h
    have hr := congrArg Flds.r h
    have ht := congrArg Flds.t h
    have hm := congrArg Flds.imm h
    clear h
    dsimp only at hd hr ht hm
    have ed0 : bt f.d 0 = b 7 := bt_at (A := 0) (C := 1 * b 8 + 2 * b 9 + 4) 0 (by decide) (by decide : pw 0 = 1) (by omega) (by omega) (by omega) B7
    have ed1 : bt f.d 1 = b 8 := bt_at (A := 1 * b 7) (C := 1 * b 9 + 2) 1 (by decide) (by decide : pw 1 = 2) (by omega) (by omega) (by omega) B8
    have ed2 : bt f.d 2 = b 9 := bt_at (A := 1 * b 7 + 2 * b 8) (C := 1) 2 (by decide) (by decide : pw 2 = 4) (by omega) (by omega) (by omega) B9
    have eimm0 : bt f.imm 0 = b 2 := bt_at (A := 0) (C := 1 * b 3 + 2 * b 4 + 4 * b 5 + 8 * b 6 + 16 * b 12 + -32 * b 12) 0 (by decide) (by decide : pw 0 = 1) (by omega) (by omega) (by omega) B2
    have eimm1 : bt f.imm 1 = b 3 := bt_at (A := 1 * b 2) (C := 1 * b 4 + 2 * b 5 + 4 * b 6 + 8 * b 12 + -16 * b 12) 1 (by decide) (by decide : pw 1 = 2) (by omega) (by omega) (by omega) B3
    have eimm2 : bt f.imm 2 = b 4 := bt_at (A := 1 * b 2 + 2 * b 3) (C := 1 * b 5 + 2 * b 6 + 4 * b 12 + -8 * b 12) 2 (by decide) (by decide : pw 2 = 4) (by omega) (by omega) (by omega) B4
    have eimm3 : bt f.imm 3 = b 5 := bt_at (A := 1 * b 2 + 2 * b 3 + 4 * b 4) (C := 1 * b 6 + 2 * b 12 + -4 * b 12) 3 (by decide) (by decide : pw 3 = 8) (by omega) (by omega) (by omega) B5
    have eimm4 : bt f.imm 4 = b 6 := bt_at (A := 1 * b 2 + 2 * b 3 + 4 * b 4 + 8 * b 5) (C := 1 * b 12 + -2 * b 12) 4 (by decide) (by decide : pw 4 = 16) (by omega) (by omega) (by omega) B6
    have eimm5 : bt f.imm 5 = b 12 := bt_at (A := 1 * b 2 + 2 * b 3 + 4 * b 4 + 8 * b 5 + 16 * b 6) (C := -1 * b 12) 5 (by decide) (by decide : pw 5 = 32) (by omega) (by omega) (by omega) B12
    constructor
    · simp [parS, shortR, shortL, fill, fbit, cnt, ed0, ed1, ed2, eimm0, eimm1, eimm2, eimm3, eimm4, eimm5] <;> omega
    · show legalR 24 _ _ _ _ = true
      simp [legalR, bitsL, tabL, regB, kind, kindC, fitsB, hi, hiTo, hasB] <;> omega
theorem back_11 (p : Int) (f : Flds) (h0 : 0 ≤ p) (h1 : p < 65536) (h : instS (shortR 11) p = some f) : BackS 11 p f := by
  have hs := sum16 p h0 h1
  have hb := bt_bd p
  unfold instS at h
  rw [rd_rdB] at h
  generalize bt p = b at h hs hb
  simp [shortR, shortL, rdB, miss, rstep, badS, makeS, fieldS, eightS, cnt, immS2, immS1, hi, hiTo, hasB] at h
  split at h
  · cases h
  rename_i g hg
  simp only [Option.ite_none_right_eq_some, Option.some.injEq] at hg
  obtain ⟨c0, c1, c2, c3, c4, c5, c6, c7, c8, c9, hg⟩ := hg
  have gd : g.d = 1 * b 7 + 2 * b 8 + 4 * b 9 := by subst hg; simp [pw] <;> omega
  have gr : g.r = 0 := by subst hg; simp [pw] <;> omega
  have gt : g.t = 1 * b 2 + 2 * b 3 + 4 * b 4 := by subst hg; simp [pw] <;> omega
  have gimm : g.imm = 0 := by subst hg; simp [pw] <;> omega
  clear hg
  have B2 := hb 2
  have B3 := hb 3
  have B4 := hb 4
  have B7 := hb 7
  have B8 := hb 8
  have B9 := hb 9
  clear hb
  repeat' split at h
  all_goals first | (cases h; done) | skip
  all_goals
    have h := Option.some.inj h
    have hd := congrArg Flds.d h
    have hr := congrArg Flds.r h
    have ht := congrArg Flds.t h
    have hm := congrArg Flds.imm h
    clear h
    dsimp only at hd hr ht hm
    have ed0 : bt f.d 0 = b 7 := bt_at (A := 0) (C := 1 * b 8 + 2 * b 9 + 4) 0 (by decide) (by decide : pw 0 = 1) (by omega) (by omega) (by omega) B7
    have ed1 : bt f.d 1 = b 8 := bt_at (A := 1 * b 7) (C := 1 * b 9 + 2) 1 (by decide) (by decide : pw 1 = 2) (by omega) (by omega) (by omega) B8
    have ed2 : bt f.d 2 = b 9 := bt_at (A := 1 * b 7 + 2 * b 8) (C := 1) 2 (by decide) (by decide : pw 2 = 4) (by omega) (by omega) (by omega) B9
    have et0 : bt f.t 0 = b 2 := bt_at (A := 0) (C := 1 * b 3 + 2 * b 4 + 4) 0 (by decide) (by decide : pw 0 = 1) (by omega) (by omega) (by omega) B2
    have et1 : bt f.t 1 = b 3 := bt_at (A := 1 * b 2) (C := 1 * b 4 + 2) 1 (by decide) (by decide : pw 1 = 2) (by omega) (by omega) (by omega) B3
    have et2 : bt f.t 2 = b 4 := bt_at (A := 1 * b 2 + 2 * b 3) (C := 1) 2 (by decide) (by decide : pw 2 = 4) (by omega) (by omega) (by omega) B4
    constructor
    · simp [parS, shortR, shortL, fill, fbit, cnt, ed0, ed1, ed2, et0, et1, et2] <;> omega
    · show legalR 29 _ _ _ _ = true
      simp [legalR, bitsL, tabL, regB, kind, kindC, fitsB, hi, hiTo, hasB] <;> omega
theorem back_12 (p : Int) (f : Flds) (h0 : 0 ≤ p) (h1 : p < 65536) (h : instS (shortR 12) p = some f) : BackS 12 p f := by
  have hs := sum16 p h0 h1
  have hb := bt_bd p
  unfold instS at h
  rw [rd_rdB] at h
  generalize bt p = b at h hs hb
  simp [shortR, shortL, rdB, miss, rstep, badS, makeS, fieldS, eightS, cnt, immS2, immS1, hi, hiTo, hasB] at h
  split at h
  · cases h
  rename_i g hg
  simp only [Option.ite_none_right_eq_some, Option.some.injEq] at hg
  obtain ⟨c0, c1, c2, c3, c4, c5, c6, c7, c8, c9, hg⟩ := hg
  have gd : g.d = 1 * b 7 + 2 * b 8 + 4 * b 9 := by subst hg; simp [pw] <;> omega
  have gr : g.r = 0 := by subst hg; simp [pw] <;> omega
  have gt : g.t = 1 * b 2 + 2 * b 3 + 4 * b 4 := by subst hg; simp [pw] <;> omega
  have gimm : g.imm = 0 := by subst hg; simp [pw] <;> omega
  clear hg
  have B2 := hb 2
  have B3 := hb 3
  have B4 := hb 4
  have B7 := hb 7
  have B8 := hb 8
  have B9 := hb 9
  clear hb
  repeat' split at h
  all_goals first | (cases h; done) | skip
  all_goals
    have h := Option.some.inj h
    have hd := congrArg Flds.d h
    have hr := congrArg Flds.r h
    have ht := congrArg Flds.t h
    have hm := congrArg Flds.imm h
    clear h
    dsimp only at hd hr ht hm
    have ed0 : bt f.d 0 = b 7 := bt_at (A := 0) (C := 1 * b 8 + 2 * b 9 + 4) 0 (by decide) (by decide : pw 0 = 1) (by omega) (by omega) (by omega) B7
    have ed1 : bt f.d 1 = b 8 := bt_at (A := 1 * b 7) (C := 1 * b 9 + 2) 1 (by decide) (by decide : pw 1 = 2) (by omega) (by omega) (by omega) B8
    have ed2 : bt f.d 2 = b 9 := bt_at (A := 1 * b 7 + 2 * b 8) (C := 1) 2 (by decide) (by decide : pw 2 = 4) (by omega) (by omega) (by omega) B9
    have et0 : bt f.t 0 = b 2 := bt_at (A := 0) (C := 1 * b 3 + 2 * b 4 + 4) 0 (by decide) (by decide : pw 0 = 1) (by omega) (by omega) (by omega) B2
    have et1 : bt f.t 1 = b 3 := bt_at (A := 1 * b 2) (C := 1 * b 4 + 2) 1 (by decide) (by decide : pw 1 = 2) (by omega) (by omega) (by omega) B3
    have et2 : bt f.t 2 = b 4 := bt_at (A := 1 * b 2 + 2 * b 3) (C := 1) 2 (by decide) (by decide : pw 2 = 4) (by omega) (by omega) (by omega) B4
    constructor
    · simp [parS, shortR, shortL, fill, fbit, cnt, ed0, ed1, ed2, et0, et1, et2] <;> omega
    · show legalR 33 _ _ _ _ = true
      simp [legalR, bitsL, tabL, regB, kind, kindC, fitsB, hi, hiTo, hasB] <;> omega
end Hm
