/-
  S9 SA in one text.
-/
import Derived.Test.YtdcmdjeooklmjaaDoorGB
set_option linter.unusedVariables false
set_option linter.unusedSimpArgs false
/-
  Mathematics of short instructions (made by gen_S8.py): what a row makes of a parcel is legal, and the row makes the parcel of it again. Nothing of the dump is imported.
-/
namespace Hm
theorem back_13 (p : Int) (f : Flds) (h0 : 0 ≤ p) (h1 : p < 65536) (h : instS (shortR 13) p = some f) : BackS 13 p f := by
  have hs := sum16 p h0 h1
  have hb := bt_bd p
  unfold instS at h
  rw [rd_rdB] at h
  generalize bt p = b at h hs hb
  simp [shortR, shortL, rdB, miss, rstep, badS, makeS, fieldS, eightS, cnt, immS2, immS1, hi, hiTo, hasB] at h
  split at h
  · cases h
  rename_i g hg
  simp only [Option.ite_none_right_eq_some, Option.some.injEq] at hg
  obtain ⟨c0, c1, c2, c3, c4, c5, c6, c7, c8, c9, hg⟩ := hg
  have gd : g.d = 1 * b 7 + 2 * b 8 + 4 * b 9 := by subst hg; simp [pw] <;> omega
  have gr : g.r = 0 := by subst hg; simp [pw] <;> omega
  have gt : g.t = 1 * b 2 + 2 * b 3 + 4 * b 4 := by subst hg; simp [pw] <;> omega
  have gimm : g.imm = 0 := by subst hg; simp [pw] <;> omega
  clear hg
  have B2 := hb 2
  have B3 := hb 3
  have B4 := hb 4
  have B7 := hb 7
  have B8 := hb 8
  have B9 := hb 9
  clear hb
  repeat' split at h
  all_goals first | (cases h; done) | skip
  all_goals
    have h := Option.some.inj h
    have hd := congrArg Flds.d h
    have hr := congrArg Flds.r h
    have ht := congrArg Flds.t h
    have hm := congrArg Flds.imm h
    clear h
    dsimp only at hd hr ht hm
    have ed0 : bt f.d 0 = b 7 := bt_at (A := 0) (C := 1 * b 8 + 2 * b 9 + 4) 0 (by decide) (by decide : pw 0 = 1) (by omega) (by omega) (by omega) B7
    have ed1 : bt f.d 1 = b 8 := bt_at (A := 1 * b 7) (C := 1 * b 9 + 2) 1 (by decide) (by decide : pw 1 = 2) (by omega) (by omega) (by omega) B8
    have ed2 : bt f.d 2 = b 9 := bt_at (A := 1 * b 7 + 2 * b 8) (C := 1) 2 (by decide) (by decide : pw 2 = 4) (by omega) (by omega) (by omega) B9
    have et0 : bt f.t 0 = b 2 := bt_at (A := 0) (C := 1 * b 3 + 2 * b 4 + 4) 0 (by decide) (by decide : pw 0 = 1) (by omega) (by omega) (by omega) B2
    have et1 : bt f.t 1 = b 3 := bt_at (A := 1 * b 2) (C := 1 * b 4 + 2) 1 (by decide) (by decide : pw 1 = 2) (by omega) (by omega) (by omega) B3
    have et2 : bt f.t 2 = b 4 := bt_at (A := 1 * b 2 + 2 * b 3) (C := 1) 2 (by decide) (by decide : pw 2 = 4) (by omega) (by omega) (by omega) B4
    constructor
    · simp [parS, shortR, shortL, fill, fbit, cnt, ed0, ed1, ed2, et0, et1, et2] <;> omega
    · show legalR 36 _ _ _ _ = true
      simp [legalR, bitsL, tabL, regB, kind, kindC, fitsB, hi, hiTo, hasB] <;> omega
theorem back_14 (p : Int) (f : Flds) (h0 : 0 ≤ p) (h1 : p < 65536) (h : instS (shortR 14) p = some f) : BackS 14 p f := by
  have hs := sum16 p h0 h1
  have hb := bt_bd p
  unfold instS at h
  rw [rd_rdB] at h
  generalize bt p = b at h hs hb
  simp [shortR, shortL, rdB, miss, rstep, badS, makeS, fieldS, eightS, cnt, immS2, immS1, hi, hiTo, hasB] at h
  split at h
  · cases h
  rename_i g hg
  simp only [Option.ite_none_right_eq_some, Option.some.injEq] at hg
  obtain ⟨c0, c1, c2, c3, c4, c5, c6, c7, c8, c9, hg⟩ := hg
  have gd : g.d = 1 * b 7 + 2 * b 8 + 4 * b 9 := by subst hg; simp [pw] <;> omega
  have gr : g.r = 0 := by subst hg; simp [pw] <;> omega
  have gt : g.t = 1 * b 2 + 2 * b 3 + 4 * b 4 := by subst hg; simp [pw] <;> omega
  have gimm : g.imm = 0 := by subst hg; simp [pw] <;> omega
  clear hg
  have B2 := hb 2
  have B3 := hb 3
  have B4 := hb 4
  have B7 := hb 7
  have B8 := hb 8
  have B9 := hb 9
  clear hb
  repeat' split at h
  all_goals first | (cases h; done) | skip
  all_goals
    have h := Option.some.inj h
    have hd := congrArg Flds.d h
    have hr := congrArg Flds.r h
    have ht := congrArg Flds.t h
    have hm := congrArg Flds.imm h
    clear h
    dsimp only at hd hr ht hm
    have ed0 : bt f.d 0 = b 7 := bt_at (A := 0) (C := 1 * b 8 + 2 * b 9 + 4) 0 (by decide) (by decide : pw 0 = 1) (by omega) (by omega) (by omega) B7
    have ed1 : bt f.d 1 = b 8 := bt_at (A := 1 * b 7) (C := 1 * b 9 + 2) 1 (by decide) (by decide : pw 1 = 2) (by omega) (by omega) (by omega) B8
    have ed2 : bt f.d 2 = b 9 := bt_at (A := 1 * b 7 + 2 * b 8) (C := 1) 2 (by decide) (by decide : pw 2 = 4) (by omega) (by omega) (by omega) B9
    have et0 : bt f.t 0 = b 2 := bt_at (A := 0) (C := 1 * b 3 + 2 * b 4 + 4) 0 (by decide) (by decide : pw 0 = 1) (by omega) (by omega) (by omega) B2
    have et1 : bt f.t 1 = b 3 := bt_at (A := 1 * b 2) (C := 1 * b 4 + 2) 1 (by decide) (by decide : pw 1 = 2) (by omega) (by omega) (by omega) B3
    have et2 : bt f.t 2 = b 4 := bt_at (A := 1 * b 2 + 2 * b 3) (C := 1) 2 (by decide) (by decide : pw 2 = 4) (by omega) (by omega) (by omega) B4
    constructor
    · simp [parS, shortR, shortL, fill, fbit, cnt, ed0, ed1, ed2, et0, et1, et2] <;> omega
    · show legalR 37 _ _ _ _ = true
      simp [legalR, bitsL, tabL, regB, kind, kindC, fitsB, hi, hiTo, hasB] <;> omega
theorem back_15 (p : Int) (f : Flds) (h0 : 0 ≤ p) (h1 : p < 65536) (h : instS (shortR 15) p = some f) : BackS 15 p f := by
  have hs := sum16 p h0 h1
  have hb := bt_bd p
  unfold instS at h
  rw [rd_rdB] at h
  generalize bt p = b at h hs hb
  simp [shortR, shortL, rdB, miss, rstep, badS, makeS, fieldS, eightS, cnt, immS2, immS1, hi, hiTo, hasB] at h
  split at h
  · cases h
  rename_i g hg
  simp only [Option.ite_none_right_eq_some, Option.some.injEq] at hg
  obtain ⟨c0, c1, c2, c3, c4, hg⟩ := hg
  have gd : g.d = 0 := by subst hg; simp [pw] <;> omega
  have gr : g.r = 0 := by subst hg; simp [pw] <;> omega
  have gt : g.t = 0 := by subst hg; simp [pw] <;> omega
  have gimm : g.imm = 2 * b 3 + 4 * b 4 + 8 * b 5 + 16 * b 11 + 32 * b 2 + 64 * b 7 + 128 * b 6 + 256 * b 9 + 512 * b 10 + 1024 * b 8 + 2048 * b 12 := by subst hg; simp [pw] <;> omega
  clear hg
  have B2 := hb 2
  have B3 := hb 3
  have B4 := hb 4
  have B5 := hb 5
  have B6 := hb 6
  have B7 := hb 7
  have B8 := hb 8
  have B9 := hb 9
  have B10 := hb 10
  have B11 := hb 11
  have B12 := hb 12
  clear hb
  have it : bt g.imm 11 = b 12 := by exact bt_at (A := 2 * b 3 + 4 * b 4 + 8 * b 5 + 16 * b 11 + 32 * b 2 + 64 * b 7 + 128 * b 6 + 256 * b 9 + 512 * b 10 + 1024 * b 8) (C := 0) 11 (by decide) (by decide : pw 11 = 2048) (by omega) (by omega) (by omega) B12
  have hsg : sgn g.imm 11 = g.imm - 4096 * b 12 := by rw [sgn_lin, it]; simp [pw]
  repeat' split at h
  all_goals first | (cases h; done) | skip
  all_goals
    have h := Option.some.inj h
    have hd := congrArg Flds.d h
    have hr := congrArg Flds.r h
    have ht := congrArg Flds.t h
    have hm := congrArg Flds.imm h
    clear h
    dsimp only at hd hr ht hm
    have eimm1 : bt f.imm 1 = b 3 := bt_at (A := 0) (C := 1 * b 4 + 2 * b 5 + 4 * b 11 + 8 * b 2 + 16 * b 7 + 32 * b 6 + 64 * b 9 + 128 * b 10 + 256 * b 8 + 512 * b 12 + -1024 * b 12) 1 (by decide) (by decide : pw 1 = 2) (by omega) (by omega) (by omega) B3
    have eimm2 : bt f.imm 2 = b 4 := bt_at (A := 2 * b 3) (C := 1 * b 5 + 2 * b 11 + 4 * b 2 + 8 * b 7 + 16 * b 6 + 32 * b 9 + 64 * b 10 + 128 * b 8 + 256 * b 12 + -512 * b 12) 2 (by decide) (by decide : pw 2 = 4) (by omega) (by omega) (by omega) B4
    have eimm3 : bt f.imm 3 = b 5 := bt_at (A := 2 * b 3 + 4 * b 4) (C := 1 * b 11 + 2 * b 2 + 4 * b 7 + 8 * b 6 + 16 * b 9 + 32 * b 10 + 64 * b 8 + 128 * b 12 + -256 * b 12) 3 (by decide) (by decide : pw 3 = 8) (by omega) (by omega) (by omega) B5
    have eimm4 : bt f.imm 4 = b 11 := bt_at (A := 2 * b 3 + 4 * b 4 + 8 * b 5) (C := 1 * b 2 + 2 * b 7 + 4 * b 6 + 8 * b 9 + 16 * b 10 + 32 * b 8 + 64 * b 12 + -128 * b 12) 4 (by decide) (by decide : pw 4 = 16) (by omega) (by omega) (by omega) B11
    have eimm5 : bt f.imm 5 = b 2 := bt_at (A := 2 * b 3 + 4 * b 4 + 8 * b 5 + 16 * b 11) (C := 1 * b 7 + 2 * b 6 + 4 * b 9 + 8 * b 10 + 16 * b 8 + 32 * b 12 + -64 * b 12) 5 (by decide) (by decide : pw 5 = 32) (by omega) (by omega) (by omega) B2
    have eimm6 : bt f.imm 6 = b 7 := bt_at (A := 2 * b 3 + 4 * b 4 + 8 * b 5 + 16 * b 11 + 32 * b 2) (C := 1 * b 6 + 2 * b 9 + 4 * b 10 + 8 * b 8 + 16 * b 12 + -32 * b 12) 6 (by decide) (by decide : pw 6 = 64) (by omega) (by omega) (by omega) B7
    have eimm7 : bt f.imm 7 = b 6 := bt_at (A := 2 * b 3 + 4 * b 4 + 8 * b 5 + 16 * b 11 + 32 * b 2 + 64 * b 7) (C := 1 * b 9 + 2 * b 10 + 4 * b 8 + 8 * b 12 + -16 * b 12) 7 (by decide) (by decide : pw 7 = 128) (by omega) (by omega) (by omega) B6
    have eimm8 : bt f.imm 8 = b 9 := bt_at (A := 2 * b 3 + 4 * b 4 + 8 * b 5 + 16 * b 11 + 32 * b 2 + 64 * b 7 + 128 * b 6) (C := 1 * b 10 + 2 * b 8 + 4 * b 12 + -8 * b 12) 8 (by decide) (by decide : pw 8 = 256) (by omega) (by omega) (by omega) B9
    have eimm9 : bt f.imm 9 = b 10 := bt_at (A := 2 * b 3 + 4 * b 4 + 8 * b 5 + 16 * b 11 + 32 * b 2 + 64 * b 7 + 128 * b 6 + 256 * b 9) (C := 1 * b 8 + 2 * b 12 + -4 * b 12) 9 (by decide) (by decide : pw 9 = 512) (by omega) (by omega) (by omega) B10
    have eimm10 : bt f.imm 10 = b 8 := bt_at (A := 2 * b 3 + 4 * b 4 + 8 * b 5 + 16 * b 11 + 32 * b 2 + 64 * b 7 + 128 * b 6 + 256 * b 9 + 512 * b 10) (C := 1 * b 12 + -2 * b 12) 10 (by decide) (by decide : pw 10 = 1024) (by omega) (by omega) (by omega) B8
    have eimm11 : bt f.imm 11 = b 12 := bt_at (A := 2 * b 3 + 4 * b 4 + 8 * b 5 + 16 * b 11 + 32 * b 2 + 64 * b 7 + 128 * b 6 + 256 * b 9 + 512 * b 10 + 1024 * b 8) (C := -1 * b 12) 11 (by decide) (by decide : pw 11 = 2048) (by omega) (by omega) (by omega) B12
    constructor
    · simp [parS, shortR, shortL, fill, fbit, cnt, eimm1, eimm2, eimm3, eimm4, eimm5, eimm6, eimm7, eimm8, eimm9, eimm10, eimm11] <;> omega
    · show legalR 3 _ _ _ _ = true
      simp [legalR, bitsL, tabL, regB, kind, kindC, fitsB, hi, hiTo, hasB] <;> omega
theorem back_16 (p : Int) (f : Flds) (h0 : 0 ≤ p) (h1 : p < 65536) (h : instS (shortR 16) p = some f) : BackS 16 p f := by
  have hs := sum16 p h0 h1
  have hb := bt_bd p
  unfold instS at h
  rw [rd_rdB] at h
  generalize bt p = b at h hs hb
  simp [shortR, shortL, rdB, miss, rstep, badS, makeS, fieldS, eightS, cnt, immS2, immS1, hi, hiTo, hasB] at h
  split at h
  · cases h
  rename_i g hg
  simp only [Option.ite_none_right_eq_some, Option.some.injEq] at hg
  obtain ⟨c0, c1, c2, c3, c4, hg⟩ := hg
  have gd : g.d = 0 := by subst hg; simp [pw] <;> omega
  have gr : g.r = 1 * b 7 + 2 * b 8 + 4 * b 9 := by subst hg; simp [pw] <;> omega
  have gt : g.t = 0 := by subst hg; simp [pw] <;> omega
  have gimm : g.imm = 2 * b 3 + 4 * b 4 + 8 * b 10 + 16 * b 11 + 32 * b 2 + 64 * b 5 + 128 * b 6 + 256 * b 12 := by subst hg; simp [pw] <;> omega
  clear hg
  have B2 := hb 2
  have B3 := hb 3
  have B4 := hb 4
  have B5 := hb 5
  have B6 := hb 6
  have B7 := hb 7
  have B8 := hb 8
  have B9 := hb 9
  have B10 := hb 10
  have B11 := hb 11
  have B12 := hb 12
  clear hb
  have it : bt g.imm 8 = b 12 := by exact bt_at (A := 2 * b 3 + 4 * b 4 + 8 * b 10 + 16 * b 11 + 32 * b 2 + 64 * b 5 + 128 * b 6) (C := 0) 8 (by decide) (by decide : pw 8 = 256) (by omega) (by omega) (by omega) B12
  have hsg : sgn g.imm 8 = g.imm - 512 * b 12 := by rw [sgn_lin, it]; simp [pw]
  repeat' split at h
  all_goals first | (cases h; done) | skip
  all_goals
    have h := Option.some.inj h
    have hd := congrArg Flds.d h
    have hr := congrArg Flds.r h
    have ht := congrArg Flds.t h
    have hm := congrArg Flds.imm h
    clear h
    dsimp only at hd hr ht hm
    have er0 : bt f.r 0 = b 7 := bt_at (A := 0) (C := 1 * b 8 + 2 * b 9 + 4) 0 (by decide) (by decide : pw 0 = 1) (by omega) (by omega) (by omega) B7
    have er1 : bt f.r 1 = b 8 := bt_at (A := 1 * b 7) (C := 1 * b 9 + 2) 1 (by decide) (by decide : pw 1 = 2) (by omega) (by omega) (by omega) B8
    have er2 : bt f.r 2 = b 9 := bt_at (A := 1 * b 7 + 2 * b 8) (C := 1) 2 (by decide) (by decide : pw 2 = 4) (by omega) (by omega) (by omega) B9
    have eimm1 : bt f.imm 1 = b 3 := bt_at (A := 0) (C := 1 * b 4 + 2 * b 10 + 4 * b 11 + 8 * b 2 + 16 * b 5 + 32 * b 6 + 64 * b 12 + -128 * b 12) 1 (by decide) (by decide : pw 1 = 2) (by omega) (by omega) (by omega) B3
    have eimm2 : bt f.imm 2 = b 4 := bt_at (A := 2 * b 3) (C := 1 * b 10 + 2 * b 11 + 4 * b 2 + 8 * b 5 + 16 * b 6 + 32 * b 12 + -64 * b 12) 2 (by decide) (by decide : pw 2 = 4) (by omega) (by omega) (by omega) B4
    have eimm3 : bt f.imm 3 = b 10 := bt_at (A := 2 * b 3 + 4 * b 4) (C := 1 * b 11 + 2 * b 2 + 4 * b 5 + 8 * b 6 + 16 * b 12 + -32 * b 12) 3 (by decide) (by decide : pw 3 = 8) (by omega) (by omega) (by omega) B10
    have eimm4 : bt f.imm 4 = b 11 := bt_at (A := 2 * b 3 + 4 * b 4 + 8 * b 10) (C := 1 * b 2 + 2 * b 5 + 4 * b 6 + 8 * b 12 + -16 * b 12) 4 (by decide) (by decide : pw 4 = 16) (by omega) (by omega) (by omega) B11
    have eimm5 : bt f.imm 5 = b 2 := bt_at (A := 2 * b 3 + 4 * b 4 + 8 * b 10 + 16 * b 11) (C := 1 * b 5 + 2 * b 6 + 4 * b 12 + -8 * b 12) 5 (by decide) (by decide : pw 5 = 32) (by omega) (by omega) (by omega) B2
    have eimm6 : bt f.imm 6 = b 5 := bt_at (A := 2 * b 3 + 4 * b 4 + 8 * b 10 + 16 * b 11 + 32 * b 2) (C := 1 * b 6 + 2 * b 12 + -4 * b 12) 6 (by decide) (by decide : pw 6 = 64) (by omega) (by omega) (by omega) B5
    have eimm7 : bt f.imm 7 = b 6 := bt_at (A := 2 * b 3 + 4 * b 4 + 8 * b 10 + 16 * b 11 + 32 * b 2 + 64 * b 5) (C := 1 * b 12 + -2 * b 12) 7 (by decide) (by decide : pw 7 = 128) (by omega) (by omega) (by omega) B6
    have eimm8 : bt f.imm 8 = b 12 := bt_at (A := 2 * b 3 + 4 * b 4 + 8 * b 10 + 16 * b 11 + 32 * b 2 + 64 * b 5 + 128 * b 6) (C := -1 * b 12) 8 (by decide) (by decide : pw 8 = 256) (by omega) (by omega) (by omega) B12
    constructor
    · simp [parS, shortR, shortL, fill, fbit, cnt, er0, er1, er2, eimm1, eimm2, eimm3, eimm4, eimm5, eimm6, eimm7, eimm8] <;> omega
    · show legalR 5 _ _ _ _ = true
      simp [legalR, bitsL, tabL, regB, kind, kindC, fitsB, hi, hiTo, hasB] <;> omega
theorem back_17 (p : Int) (f : Flds) (h0 : 0 ≤ p) (h1 : p < 65536) (h : instS (shortR 17) p = some f) : BackS 17 p f := by
  have hs := sum16 p h0 h1
  have hb := bt_bd p
  unfold instS at h
  rw [rd_rdB] at h
  generalize bt p = b at h hs hb
  simp [shortR, shortL, rdB, miss, rstep, badS, makeS, fieldS, eightS, cnt, immS2, immS1, hi, hiTo, hasB] at h
  split at h
  · cases h
  rename_i g hg
  simp only [Option.ite_none_right_eq_some, Option.some.injEq] at hg
  obtain ⟨c0, c1, c2, c3, c4, hg⟩ := hg
  have gd : g.d = 0 := by subst hg; simp [pw] <;> omega
  have gr : g.r = 1 * b 7 + 2 * b 8 + 4 * b 9 := by subst hg; simp [pw] <;> omega
  have gt : g.t = 0 := by subst hg; simp [pw] <;> omega
  have gimm : g.imm = 2 * b 3 + 4 * b 4 + 8 * b 10 + 16 * b 11 + 32 * b 2 + 64 * b 5 + 128 * b 6 + 256 * b 12 := by subst hg; simp [pw] <;> omega
  clear hg
  have B2 := hb 2
  have B3 := hb 3
  have B4 := hb 4
  have B5 := hb 5
  have B6 := hb 6
  have B7 := hb 7
  have B8 := hb 8
  have B9 := hb 9
  have B10 := hb 10
  have B11 := hb 11
  have B12 := hb 12
  clear hb
  have it : bt g.imm 8 = b 12 := by exact bt_at (A := 2 * b 3 + 4 * b 4 + 8 * b 10 + 16 * b 11 + 32 * b 2 + 64 * b 5 + 128 * b 6) (C := 0) 8 (by decide) (by decide : pw 8 = 256) (by omega) (by omega) (by omega) B12
  have hsg : sgn g.imm 8 = g.imm - 512 * b 12 := by rw [sgn_lin, it]; simp [pw]
  repeat' split at h
  all_goals first | (cases h; done) | skip
  all_goals
    have h := Option.some.inj h
    have hd := congrArg Flds.d h
    have hr := congrArg Flds.r h
    have ht := congrArg Flds.t h
    have hm := congrArg Flds.imm h
    clear h
    dsimp only at hd hr ht hm
    have er0 : bt f.r 0 = b 7 := bt_at (A := 0) (C := 1 * b 8 + 2 * b 9 + 4) 0 (by decide) (by decide : pw 0 = 1) (by omega) (by omega) (by omega) B7
    have er1 : bt f.r 1 = b 8 := bt_at (A := 1 * b 7) (C := 1 * b 9 + 2) 1 (by decide) (by decide : pw 1 = 2) (by omega) (by omega) (by omega) B8
    have er2 : bt f.r 2 = b 9 := bt_at (A := 1 * b 7 + 2 * b 8) (C := 1) 2 (by decide) (by decide : pw 2 = 4) (by omega) (by omega) (by omega) B9
    have eimm1 : bt f.imm 1 = b 3 := bt_at (A := 0) (C := 1 * b 4 + 2 * b 10 + 4 * b 11 + 8 * b 2 + 16 * b 5 + 32 * b 6 + 64 * b 12 + -128 * b 12) 1 (by decide) (by decide : pw 1 = 2) (by omega) (by omega) (by omega) B3
    have eimm2 : bt f.imm 2 = b 4 := bt_at (A := 2 * b 3) (C := 1 * b 10 + 2 * b 11 + 4 * b 2 + 8 * b 5 + 16 * b 6 + 32 * b 12 + -64 * b 12) 2 (by decide) (by decide : pw 2 = 4) (by omega) (by omega) (by omega) B4
    have eimm3 : bt f.imm 3 = b 10 := bt_at (A := 2 * b 3 + 4 * b 4) (C := 1 * b 11 + 2 * b 2 + 4 * b 5 + 8 * b 6 + 16 * b 12 + -32 * b 12) 3 (by decide) (by decide : pw 3 = 8) (by omega) (by omega) (by omega) B10
    have eimm4 : bt f.imm 4 = b 11 := bt_at (A := 2 * b 3 + 4 * b 4 + 8 * b 10) (C := 1 * b 2 + 2 * b 5 + 4 * b 6 + 8 * b 12 + -16 * b 12) 4 (by decide) (by decide : pw 4 = 16) (by omega) (by omega) (by omega) B11
    have eimm5 : bt f.imm 5 = b 2 := bt_at (A := 2 * b 3 + 4 * b 4 + 8 * b 10 + 16 * b 11) (C := 1 * b 5 + 2 * b 6 + 4 * b 12 + -8 * b 12) 5 (by decide) (by decide : pw 5 = 32) (by omega) (by omega) (by omega) B2
    have eimm6 : bt f.imm 6 = b 5 := bt_at (A := 2 * b 3 + 4 * b 4 + 8 * b 10 + 16 * b 11 + 32 * b 2) (C := 1 * b 6 + 2 * b 12 + -4 * b 12) 6 (by decide) (by decide : pw 6 = 64) (by omega) (by omega) (by omega) B5
    have eimm7 : bt f.imm 7 = b 6 := bt_at (A := 2 * b 3 + 4 * b 4 + 8 * b 10 + 16 * b 11 + 32 * b 2 + 64 * b 5) (C := 1 * b 12 + -2 * b 12) 7 (by decide) (by decide : pw 7 = 128) (by omega) (by omega) (by omega) B6
    have eimm8 : bt f.imm 8 = b 12 := bt_at (A := 2 * b 3 + 4 * b 4 + 8 * b 10 + 16 * b 11 + 32 * b 2 + 64 * b 5 + 128 * b 6) (C := -1 * b 12) 8 (by decide) (by decide : pw 8 = 256) (by omega) (by omega) (by omega) B12
    constructor
    · simp [parS, shortR, shortL, fill, fbit, cnt, er0, er1, er2, eimm1, eimm2, eimm3, eimm4, eimm5, eimm6, eimm7, eimm8] <;> omega
    · show legalR 6 _ _ _ _ = true
      simp [legalR, bitsL, tabL, regB, kind, kindC, fitsB, hi, hiTo, hasB] <;> omega
theorem back_18 (p : Int) (f : Flds) (h0 : 0 ≤ p) (h1 : p < 65536) (h : instS (shortR 18) p = some f) : BackS 18 p f := by
  have hs := sum16 p h0 h1
  have hb := bt_bd p
  unfold instS at h
  rw [rd_rdB] at h
  generalize bt p = b at h hs hb
  simp [shortR, shortL, rdB, miss, rstep, badS, makeS, fieldS, eightS, cnt, immS2, immS1, hi, hiTo, hasB] at h
  split at h
  · cases h
  rename_i g hg
  simp only [Option.ite_none_right_eq_some, Option.some.injEq] at hg
  obtain ⟨c0, c1, c2, c3, c4, c5, hg⟩ := hg
  have gd : g.d = 1 * b 7 + 2 * b 8 + 4 * b 9 + 8 * b 10 + 16 * b 11 := by subst hg; simp [pw] <;> omega
  have gr : g.r = 0 := by subst hg; simp [pw] <;> omega
  have gt : g.t = 0 := by subst hg; simp [pw] <;> omega
  have gimm : g.imm = 1 * b 2 + 2 * b 3 + 4 * b 4 + 8 * b 5 + 16 * b 6 := by subst hg; simp [pw] <;> omega
  clear hg
  have B2 := hb 2
  have B3 := hb 3
  have B4 := hb 4
  have B5 := hb 5
  have B6 := hb 6
  have B7 := hb 7
  have B8 := hb 8
  have B9 := hb 9
  have B10 := hb 10
  have B11 := hb 11
  clear hb
  repeat' split at h
  all_goals first | (cases h; done) | skip
  all_goals
    have h := Option.some.inj h
    have hd := congrArg Flds.d h
    have hr := congrArg Flds.r h
    have ht := congrArg Flds.t h
    have hm := congrArg Flds.imm h
    clear h
    dsimp only at hd hr ht hm
    have ed0 : bt f.d 0 = b 7 := bt_at (A := 0) (C := 1 * b 8 + 2 * b 9 + 4 * b 10 + 8 * b 11) 0 (by decide) (by decide : pw 0 = 1) (by omega) (by omega) (by omega) B7
    have ed1 : bt f.d 1 = b 8 := bt_at (A := 1 * b 7) (C := 1 * b 9 + 2 * b 10 + 4 * b 11) 1 (by decide) (by decide : pw 1 = 2) (by omega) (by omega) (by omega) B8
    have ed2 : bt f.d 2 = b 9 := bt_at (A := 1 * b 7 + 2 * b 8) (C := 1 * b 10 + 2 * b 11) 2 (by decide) (by decide : pw 2 = 4) (by omega) (by omega) (by omega) B9
    have ed3 : bt f.d 3 = b 10 := bt_at (A := 1 * b 7 + 2 * b 8 + 4 * b 9) (C := 1 * b 11) 3 (by decide) (by decide : pw 3 = 8) (by omega) (by omega) (by omega) B10
    have ed4 : bt f.d 4 = b 11 := bt_at (A := 1 * b 7 + 2 * b 8 + 4 * b 9 + 8 * b 10) (C := 0) 4 (by decide) (by decide : pw 4 = 16) (by omega) (by omega) (by omega) B11
    have eimm0 : bt f.imm 0 = b 2 := bt_at (A := 0) (C := 1 * b 3 + 2 * b 4 + 4 * b 5 + 8 * b 6) 0 (by decide) (by decide : pw 0 = 1) (by omega) (by omega) (by omega) B2
    have eimm1 : bt f.imm 1 = b 3 := bt_at (A := 1 * b 2) (C := 1 * b 4 + 2 * b 5 + 4 * b 6) 1 (by decide) (by decide : pw 1 = 2) (by omega) (by omega) (by omega) B3
    have eimm2 : bt f.imm 2 = b 4 := bt_at (A := 1 * b 2 + 2 * b 3) (C := 1 * b 5 + 2 * b 6) 2 (by decide) (by decide : pw 2 = 4) (by omega) (by omega) (by omega) B4
    have eimm3 : bt f.imm 3 = b 5 := bt_at (A := 1 * b 2 + 2 * b 3 + 4 * b 4) (C := 1 * b 6) 3 (by decide) (by decide : pw 3 = 8) (by omega) (by omega) (by omega) B5
    have eimm4 : bt f.imm 4 = b 6 := bt_at (A := 1 * b 2 + 2 * b 3 + 4 * b 4 + 8 * b 5) (C := 0) 4 (by decide) (by decide : pw 4 = 16) (by omega) (by omega) (by omega) B6
    constructor
    · simp [parS, shortR, shortL, fill, fbit, cnt, ed0, ed1, ed2, ed3, ed4, eimm0, eimm1, eimm2, eimm3, eimm4] <;> omega
    · show legalR 25 _ _ _ _ = true
      simp [legalR, bitsL, tabL, regB, kind, kindC, fitsB, hi, hiTo, hasB] <;> omega
theorem back_19 (p : Int) (f : Flds) (h0 : 0 ≤ p) (h1 : p < 65536) (h : instS (shortR 19) p = some f) : BackS 19 p f := by
  have hs := sum16 p h0 h1
  have hb := bt_bd p
  unfold instS at h
  rw [rd_rdB] at h
  generalize bt p = b at h hs hb
  simp [shortR, shortL, rdB, miss, rstep, badS, makeS, fieldS, eightS, cnt, immS2, immS1, hi, hiTo, hasB] at h
  split at h
  · cases h
  rename_i g hg
  simp only [Option.ite_none_right_eq_some, Option.some.injEq] at hg
  obtain ⟨c0, c1, c2, c3, c4, hg⟩ := hg
  have gd : g.d = 1 * b 7 + 2 * b 8 + 4 * b 9 + 8 * b 10 + 16 * b 11 := by subst hg; simp [pw] <;> omega
  have gr : g.r = 0 := by subst hg; simp [pw] <;> omega
  have gt : g.t = 0 := by subst hg; simp [pw] <;> omega
  have gimm : g.imm = 4 * b 4 + 8 * b 5 + 16 * b 6 + 32 * b 12 + 64 * b 2 + 128 * b 3 := by subst hg; simp [pw] <;> omega
  clear hg
  have B2 := hb 2
  have B3 := hb 3
  have B4 := hb 4
  have B5 := hb 5
  have B6 := hb 6
  have B7 := hb 7
  have B8 := hb 8
  have B9 := hb 9
  have B10 := hb 10
  have B11 := hb 11
  have B12 := hb 12
  clear hb
  repeat' split at h
  all_goals first | (cases h; done) | skip
  all_goals
    have h := Option.some.inj h
    have hd := congrArg Flds.d h
    have hr := congrArg Flds.r h
    have ht := congrArg Flds.t h
    have hm := congrArg Flds.imm h
    clear h
    dsimp only at hd hr ht hm
    have ed0 : bt f.d 0 = b 7 := bt_at (A := 0) (C := 1 * b 8 + 2 * b 9 + 4 * b 10 + 8 * b 11) 0 (by decide) (by decide : pw 0 = 1) (by omega) (by omega) (by omega) B7
    have ed1 : bt f.d 1 = b 8 := bt_at (A := 1 * b 7) (C := 1 * b 9 + 2 * b 10 + 4 * b 11) 1 (by decide) (by decide : pw 1 = 2) (by omega) (by omega) (by omega) B8
    have ed2 : bt f.d 2 = b 9 := bt_at (A := 1 * b 7 + 2 * b 8) (C := 1 * b 10 + 2 * b 11) 2 (by decide) (by decide : pw 2 = 4) (by omega) (by omega) (by omega) B9
    have ed3 : bt f.d 3 = b 10 := bt_at (A := 1 * b 7 + 2 * b 8 + 4 * b 9) (C := 1 * b 11) 3 (by decide) (by decide : pw 3 = 8) (by omega) (by omega) (by omega) B10
    have ed4 : bt f.d 4 = b 11 := bt_at (A := 1 * b 7 + 2 * b 8 + 4 * b 9 + 8 * b 10) (C := 0) 4 (by decide) (by decide : pw 4 = 16) (by omega) (by omega) (by omega) B11
    have eimm2 : bt f.imm 2 = b 4 := bt_at (A := 0) (C := 1 * b 5 + 2 * b 6 + 4 * b 12 + 8 * b 2 + 16 * b 3) 2 (by decide) (by decide : pw 2 = 4) (by omega) (by omega) (by omega) B4
    have eimm3 : bt f.imm 3 = b 5 := bt_at (A := 4 * b 4) (C := 1 * b 6 + 2 * b 12 + 4 * b 2 + 8 * b 3) 3 (by decide) (by decide : pw 3 = 8) (by omega) (by omega) (by omega) B5
    have eimm4 : bt f.imm 4 = b 6 := bt_at (A := 4 * b 4 + 8 * b 5) (C := 1 * b 12 + 2 * b 2 + 4 * b 3) 4 (by decide) (by decide : pw 4 = 16) (by omega) (by omega) (by omega) B6
    have eimm5 : bt f.imm 5 = b 12 := bt_at (A := 4 * b 4 + 8 * b 5 + 16 * b 6) (C := 1 * b 2 + 2 * b 3) 5 (by decide) (by decide : pw 5 = 32) (by omega) (by omega) (by omega) B12
    have eimm6 : bt f.imm 6 = b 2 := bt_at (A := 4 * b 4 + 8 * b 5 + 16 * b 6 + 32 * b 12) (C := 1 * b 3) 6 (by decide) (by decide : pw 6 = 64) (by omega) (by omega) (by omega) B2
    have eimm7 : bt f.imm 7 = b 3 := bt_at (A := 4 * b 4 + 8 * b 5 + 16 * b 6 + 32 * b 12 + 64 * b 2) (C := 0) 7 (by decide) (by decide : pw 7 = 128) (by omega) (by omega) (by omega) B3
    constructor
    · simp [parS, shortR, shortL, fill, fbit, cnt, ed0, ed1, ed2, ed3, ed4, eimm2, eimm3, eimm4, eimm5, eimm6, eimm7] <;> omega
    · show legalR 13 _ _ _ _ = true
      simp [legalR, bitsL, tabL, regB, kind, kindC, fitsB, hi, hiTo, hasB] <;> omega
theorem back_20 (p : Int) (f : Flds) (h0 : 0 ≤ p) (h1 : p < 65536) (h : instS (shortR 20) p = some f) : BackS 20 p f := by
  have hs := sum16 p h0 h1
  have hb := bt_bd p
  unfold instS at h
  rw [rd_rdB] at h
  generalize bt p = b at h hs hb
  simp [shortR, shortL, rdB, miss, rstep, badS, makeS, fieldS, eightS, cnt, immS2, immS1, hi, hiTo, hasB] at h
  split at h
  · cases h
  rename_i g hg
  simp only [Option.ite_none_right_eq_some, Option.some.injEq] at hg
  obtain ⟨c0, c1, c2, c3, c4, c5, c6, c7, c8, c9, c10, hg⟩ := hg
  have gd : g.d = 0 := by subst hg; simp [pw] <;> omega
  have gr : g.r = 1 * b 7 + 2 * b 8 + 4 * b 9 + 8 * b 10 + 16 * b 11 := by subst hg; simp [pw] <;> omega
  have gt : g.t = 0 := by subst hg; simp [pw] <;> omega
  have gimm : g.imm = 0 := by subst hg; simp [pw] <;> omega
  clear hg
  have B7 := hb 7
  have B8 := hb 8
  have B9 := hb 9
  have B10 := hb 10
  have B11 := hb 11
  clear hb
  repeat' split at h
  all_goals first | (cases h; done) | skip
  all_goals
    have h := Option.some.inj h
    have hd := congrArg Flds.d h
    have hr := congrArg Flds.r h
    have ht := congrArg Flds.t h
    have hm := congrArg Flds.imm h
    clear h
    dsimp only at hd hr ht hm
    have er0 : bt f.r 0 = b 7 := bt_at (A := 0) (C := 1 * b 8 + 2 * b 9 + 4 * b 10 + 8 * b 11) 0 (by decide) (by decide : pw 0 = 1) (by omega) (by omega) (by omega) B7
    have er1 : bt f.r 1 = b 8 := bt_at (A := 1 * b 7) (C := 1 * b 9 + 2 * b 10 + 4 * b 11) 1 (by decide) (by decide : pw 1 = 2) (by omega) (by omega) (by omega) B8
    have er2 : bt f.r 2 = b 9 := bt_at (A := 1 * b 7 + 2 * b 8) (C := 1 * b 10 + 2 * b 11) 2 (by decide) (by decide : pw 2 = 4) (by omega) (by omega) (by omega) B9
    have er3 : bt f.r 3 = b 10 := bt_at (A := 1 * b 7 + 2 * b 8 + 4 * b 9) (C := 1 * b 11) 3 (by decide) (by decide : pw 3 = 8) (by omega) (by omega) (by omega) B10
    have er4 : bt f.r 4 = b 11 := bt_at (A := 1 * b 7 + 2 * b 8 + 4 * b 9 + 8 * b 10) (C := 0) 4 (by decide) (by decide : pw 4 = 16) (by omega) (by omega) (by omega) B11
    constructor
    · simp [parS, shortR, shortL, fill, fbit, cnt, er0, er1, er2, er3, er4] <;> omega
    · show legalR 4 _ _ _ _ = true
      simp [legalR, bitsL, tabL, regB, kind, kindC, fitsB, hi, hiTo, hasB] <;> omega
theorem back_21 (p : Int) (f : Flds) (h0 : 0 ≤ p) (h1 : p < 65536) (h : instS (shortR 21) p = some f) : BackS 21 p f := by
  have hs := sum16 p h0 h1
  have hb := bt_bd p
  unfold instS at h
  rw [rd_rdB] at h
  generalize bt p = b at h hs hb
  simp [shortR, shortL, rdB, miss, rstep, badS, makeS, fieldS, eightS, cnt, immS2, immS1, hi, hiTo, hasB] at h
  split at h
  · cases h
  rename_i g hg
  simp only [Option.ite_none_right_eq_some, Option.some.injEq] at hg
  obtain ⟨c0, c1, c2, c3, c4, c5, hg⟩ := hg
  have gd : g.d = 1 * b 7 + 2 * b 8 + 4 * b 9 + 8 * b 10 + 16 * b 11 := by subst hg; simp [pw] <;> omega
  have gr : g.r = 0 := by subst hg; simp [pw] <;> omega
  have gt : g.t = 1 * b 2 + 2 * b 3 + 4 * b 4 + 8 * b 5 + 16 * b 6 := by subst hg; simp [pw] <;> omega
  have gimm : g.imm = 0 := by subst hg; simp [pw] <;> omega
  clear hg
  have B2 := hb 2
  have B3 := hb 3
  have B4 := hb 4
  have B5 := hb 5
  have B6 := hb 6
  have B7 := hb 7
  have B8 := hb 8
  have B9 := hb 9
  have B10 := hb 10
  have B11 := hb 11
  clear hb
  repeat' split at h
  all_goals first | (cases h; done) | skip
  all_goals
    have h := Option.some.inj h
    have hd := congrArg Flds.d h
    have hr := congrArg Flds.r h
    have ht := congrArg Flds.t h
    have hm := congrArg Flds.imm h
    clear h
    dsimp only at hd hr ht hm
    have ed0 : bt f.d 0 = b 7 := bt_at (A := 0) (C := 1 * b 8 + 2 * b 9 + 4 * b 10 + 8 * b 11) 0 (by decide) (by decide : pw 0 = 1) (by omega) (by omega) (by omega) B7
    have ed1 : bt f.d 1 = b 8 := bt_at (A := 1 * b 7) (C := 1 * b 9 + 2 * b 10 + 4 * b 11) 1 (by decide) (by decide : pw 1 = 2) (by omega) (by omega) (by omega) B8
    have ed2 : bt f.d 2 = b 9 := bt_at (A := 1 * b 7 + 2 * b 8) (C := 1 * b 10 + 2 * b 11) 2 (by decide) (by decide : pw 2 = 4) (by omega) (by omega) (by omega) B9
    have ed3 : bt f.d 3 = b 10 := bt_at (A := 1 * b 7 + 2 * b 8 + 4 * b 9) (C := 1 * b 11) 3 (by decide) (by decide : pw 3 = 8) (by omega) (by omega) (by omega) B10
    have ed4 : bt f.d 4 = b 11 := bt_at (A := 1 * b 7 + 2 * b 8 + 4 * b 9 + 8 * b 10) (C := 0) 4 (by decide) (by decide : pw 4 = 16) (by omega) (by omega) (by omega) B11
    have et0 : bt f.t 0 = b 2 := bt_at (A := 0) (C := 1 * b 3 + 2 * b 4 + 4 * b 5 + 8 * b 6) 0 (by decide) (by decide : pw 0 = 1) (by omega) (by omega) (by omega) B2
    have et1 : bt f.t 1 = b 3 := bt_at (A := 1 * b 2) (C := 1 * b 4 + 2 * b 5 + 4 * b 6) 1 (by decide) (by decide : pw 1 = 2) (by omega) (by omega) (by omega) B3
    have et2 : bt f.t 2 = b 4 := bt_at (A := 1 * b 2 + 2 * b 3) (C := 1 * b 5 + 2 * b 6) 2 (by decide) (by decide : pw 2 = 4) (by omega) (by omega) (by omega) B4
    have et3 : bt f.t 3 = b 5 := bt_at (A := 1 * b 2 + 2 * b 3 + 4 * b 4) (C := 1 * b 6) 3 (by decide) (by decide : pw 3 = 8) (by omega) (by omega) (by omega) B5
    have et4 : bt f.t 4 = b 6 := bt_at (A := 1 * b 2 + 2 * b 3 + 4 * b 4 + 8 * b 5) (C := 0) 4 (by decide) (by decide : pw 4 = 16) (by omega) (by omega) (by omega) B6
    constructor
    · simp [parS, shortR, shortL, fill, fbit, cnt, ed0, ed1, ed2, ed3, ed4, et0, et1, et2, et3, et4] <;> omega
    · show legalR 28 _ _ _ _ = true
      simp [legalR, bitsL, tabL, regB, kind, kindC, fitsB, hi, hiTo, hasB] <;> omega
theorem back_22 (p : Int) (f : Flds) (h0 : 0 ≤ p) (h1 : p < 65536) (h : instS (shortR 22) p = some f) : BackS 22 p f := by
  have hs := sum16 p h0 h1
  have hb := bt_bd p
  unfold instS at h
  rw [rd_rdB] at h
  generalize bt p = b at h hs hb
  simp [shortR, shortL, rdB, miss, rstep, badS, makeS, fieldS, eightS, cnt, immS2, immS1, hi, hiTo, hasB] at h
  split at h
  · cases h
  rename_i g hg
  simp only [Option.ite_none_right_eq_some, Option.some.injEq] at hg
  obtain ⟨c0, c1, c2, c3, c4, c5, c6, c7, c8, c9, c10, c11, c12, c13, c14, c15, hg⟩ := hg
  have gd : g.d = 0 := by subst hg; simp [pw] <;> omega
  have gr : g.r = 0 := by subst hg; simp [pw] <;> omega
  have gt : g.t = 0 := by subst hg; simp [pw] <;> omega
  have gimm : g.imm = 0 := by subst hg; simp [pw] <;> omega
  clear hg
  clear hb
  repeat' split at h
  all_goals first | (cases h; done) | skip
  all_goals
    have h := Option.some.inj h
    have hd := congrArg Flds.d h
    have hr := congrArg Flds.r h
    have ht := congrArg Flds.t h
    have hm := congrArg Flds.imm h
    clear h
    dsimp only at hd hr ht hm
    constructor
    · simp [parS, shortR, shortL, fill, fbit, cnt] <;> omega
    · show legalR 48 _ _ _ _ = true
      simp [legalR, bitsL, tabL, regB, kind, kindC, fitsB, hi, hiTo, hasB] <;> omega
theorem back_23 (p : Int) (f : Flds) (h0 : 0 ≤ p) (h1 : p < 65536) (h : instS (shortR 23) p = some f) : BackS 23 p f := by
  have hs := sum16 p h0 h1
  have hb := bt_bd p
  unfold instS at h
  rw [rd_rdB] at h
  generalize bt p = b at h hs hb
  simp [shortR, shortL, rdB, miss, rstep, badS, makeS, fieldS, eightS, cnt, immS2, immS1, hi, hiTo, hasB] at h
  split at h
  · cases h
  rename_i g hg
  simp only [Option.ite_none_right_eq_some, Option.some.injEq] at hg
  obtain ⟨c0, c1, c2, c3, c4, c5, c6, c7, c8, c9, c10, hg⟩ := hg
  have gd : g.d = 0 := by subst hg; simp [pw] <;> omega
  have gr : g.r = 1 * b 7 + 2 * b 8 + 4 * b 9 + 8 * b 10 + 16 * b 11 := by subst hg; simp [pw] <;> omega
  have gt : g.t = 0 := by subst hg; simp [pw] <;> omega
  have gimm : g.imm = 0 := by subst hg; simp [pw] <;> omega
  clear hg
  have B7 := hb 7
  have B8 := hb 8
  have B9 := hb 9
  have B10 := hb 10
  have B11 := hb 11
  clear hb
  repeat' split at h
  all_goals first | (cases h; done) | skip
  all_goals
    have h := Option.some.inj h
    have hd := congrArg Flds.d h
    have hr := congrArg Flds.r h
    have ht := congrArg Flds.t h
    have hm := congrArg Flds.imm h
    clear h
    dsimp only at hd hr ht hm
    have er0 : bt f.r 0 = b 7 := bt_at (A := 0) (C := 1 * b 8 + 2 * b 9 + 4 * b 10 + 8 * b 11) 0 (by decide) (by decide : pw 0 = 1) (by omega) (by omega) (by omega) B7
    have er1 : bt f.r 1 = b 8 := bt_at (A := 1 * b 7) (C := 1 * b 9 + 2 * b 10 + 4 * b 11) 1 (by decide) (by decide : pw 1 = 2) (by omega) (by omega) (by omega) B8
    have er2 : bt f.r 2 = b 9 := bt_at (A := 1 * b 7 + 2 * b 8) (C := 1 * b 10 + 2 * b 11) 2 (by decide) (by decide : pw 2 = 4) (by omega) (by omega) (by omega) B9
    have er3 : bt f.r 3 = b 10 := bt_at (A := 1 * b 7 + 2 * b 8 + 4 * b 9) (C := 1 * b 11) 3 (by decide) (by decide : pw 3 = 8) (by omega) (by omega) (by omega) B10
    have er4 : bt f.r 4 = b 11 := bt_at (A := 1 * b 7 + 2 * b 8 + 4 * b 9 + 8 * b 10) (C := 0) 4 (by decide) (by decide : pw 4 = 16) (by omega) (by omega) (by omega) B11
    constructor
    · simp [parS, shortR, shortL, fill, fbit, cnt, er0, er1, er2, er3, er4] <;> omega
    · show legalR 4 _ _ _ _ = true
      simp [legalR, bitsL, tabL, regB, kind, kindC, fitsB, hi, hiTo, hasB] <;> omega
theorem back_24 (p : Int) (f : Flds) (h0 : 0 ≤ p) (h1 : p < 65536) (h : instS (shortR 24) p = some f) : BackS 24 p f := by
  have hs := sum16 p h0 h1
  have hb := bt_bd p
  unfold instS at h
  rw [rd_rdB] at h
  generalize bt p = b at h hs hb
  simp [shortR, shortL, rdB, miss, rstep, badS, makeS, fieldS, eightS, cnt, immS2, immS1, hi, hiTo, hasB] at h
  split at h
  · cases h
  rename_i g hg
  simp only [Option.ite_none_right_eq_some, Option.some.injEq] at hg
  obtain ⟨c0, c1, c2, c3, c4, c5, hg⟩ := hg
  have gd : g.d = 1 * b 7 + 2 * b 8 + 4 * b 9 + 8 * b 10 + 16 * b 11 := by subst hg; simp [pw] <;> omega
  have gr : g.r = 0 := by subst hg; simp [pw] <;> omega
  have gt : g.t = 1 * b 2 + 2 * b 3 + 4 * b 4 + 8 * b 5 + 16 * b 6 := by subst hg; simp [pw] <;> omega
  have gimm : g.imm = 0 := by subst hg; simp [pw] <;> omega
  clear hg
  have B2 := hb 2
  have B3 := hb 3
  have B4 := hb 4
  have B5 := hb 5
  have B6 := hb 6
  have B7 := hb 7
  have B8 := hb 8
  have B9 := hb 9
  have B10 := hb 10
  have B11 := hb 11
  clear hb
  repeat' split at h
  all_goals first | (cases h; done) | skip
  all_goals
    have h := Option.some.inj h
    have hd := congrArg Flds.d h
    have hr := congrArg Flds.r h
    have ht := congrArg Flds.t h
    have hm := congrArg Flds.imm h
    clear h
    dsimp only at hd hr ht hm
    have ed0 : bt f.d 0 = b 7 := bt_at (A := 0) (C := 1 * b 8 + 2 * b 9 + 4 * b 10 + 8 * b 11) 0 (by decide) (by decide : pw 0 = 1) (by omega) (by omega) (by omega) B7
    have ed1 : bt f.d 1 = b 8 := bt_at (A := 1 * b 7) (C := 1 * b 9 + 2 * b 10 + 4 * b 11) 1 (by decide) (by decide : pw 1 = 2) (by omega) (by omega) (by omega) B8
    have ed2 : bt f.d 2 = b 9 := bt_at (A := 1 * b 7 + 2 * b 8) (C := 1 * b 10 + 2 * b 11) 2 (by decide) (by decide : pw 2 = 4) (by omega) (by omega) (by omega) B9
    have ed3 : bt f.d 3 = b 10 := bt_at (A := 1 * b 7 + 2 * b 8 + 4 * b 9) (C := 1 * b 11) 3 (by decide) (by decide : pw 3 = 8) (by omega) (by omega) (by omega) B10
    have ed4 : bt f.d 4 = b 11 := bt_at (A := 1 * b 7 + 2 * b 8 + 4 * b 9 + 8 * b 10) (C := 0) 4 (by decide) (by decide : pw 4 = 16) (by omega) (by omega) (by omega) B11
    have et0 : bt f.t 0 = b 2 := bt_at (A := 0) (C := 1 * b 3 + 2 * b 4 + 4 * b 5 + 8 * b 6) 0 (by decide) (by decide : pw 0 = 1) (by omega) (by omega) (by omega) B2
    have et1 : bt f.t 1 = b 3 := bt_at (A := 1 * b 2) (C := 1 * b 4 + 2 * b 5 + 4 * b 6) 1 (by decide) (by decide : pw 1 = 2) (by omega) (by omega) (by omega) B3
    have et2 : bt f.t 2 = b 4 := bt_at (A := 1 * b 2 + 2 * b 3) (C := 1 * b 5 + 2 * b 6) 2 (by decide) (by decide : pw 2 = 4) (by omega) (by omega) (by omega) B4
    have et3 : bt f.t 3 = b 5 := bt_at (A := 1 * b 2 + 2 * b 3 + 4 * b 4) (C := 1 * b 6) 3 (by decide) (by decide : pw 3 = 8) (by omega) (by omega) (by omega) B5
    have et4 : bt f.t 4 = b 6 := bt_at (A := 1 * b 2 + 2 * b 3 + 4 * b 4 + 8 * b 5) (C := 0) 4 (by decide) (by decide : pw 4 = 16) (by omega) (by omega) (by omega) B6
    constructor
    · simp [parS, shortR, shortL, fill, fbit, cnt, ed0, ed1, ed2, ed3, ed4, et0, et1, et2, et3, et4] <;> omega
    · show legalR 28 _ _ _ _ = true
      simp [legalR, bitsL, tabL, regB, kind, kindC, fitsB, hi, hiTo, hasB] <;> omega
theorem back_25 (p : Int) (f : Flds) (h0 : 0 ≤ p) (h1 : p < 65536) (h : instS (shortR 25) p = some f) : BackS 25 p f := by
  have hs := sum16 p h0 h1
  have hb := bt_bd p
  unfold instS at h
  rw [rd_rdB] at h
  generalize bt p = b at h hs hb
  simp [shortR, shortL, rdB, miss, rstep, badS, makeS, fieldS, eightS, cnt, immS2, immS1, hi, hiTo, hasB] at h
  split at h
  · cases h
  rename_i g hg
  simp only [Option.ite_none_right_eq_some, Option.some.injEq] at hg
  obtain ⟨c0, c1, c2, c3, c4, hg⟩ := hg
  have gd : g.d = 0 := by subst hg; simp [pw] <;> omega
  have gr : g.r = 0 := by subst hg; simp [pw] <;> omega
  have gt : g.t = 1 * b 2 + 2 * b 3 + 4 * b 4 + 8 * b 5 + 16 * b 6 := by subst hg; simp [pw] <;> omega
  have gimm : g.imm = 4 * b 9 + 8 * b 10 + 16 * b 11 + 32 * b 12 + 64 * b 7 + 128 * b 8 := by subst hg; simp [pw] <;> omega
  clear hg
  have B2 := hb 2
  have B3 := hb 3
  have B4 := hb 4
  have B5 := hb 5
  have B6 := hb 6
  have B7 := hb 7
  have B8 := hb 8
  have B9 := hb 9
  have B10 := hb 10
  have B11 := hb 11
  have B12 := hb 12
  clear hb
  repeat' split at h
  all_goals first | (cases h; done) | skip
  all_goals
    have h := Option.some.inj h
    have hd := congrArg Flds.d h
    have hr := congrArg Flds.r h
    have ht := congrArg Flds.t h
    have hm := congrArg Flds.imm h
    clear h
    dsimp only at hd hr ht hm
    have et0 : bt f.t 0 = b 2 := bt_at (A := 0) (C := 1 * b 3 + 2 * b 4 + 4 * b 5 + 8 * b 6) 0 (by decide) (by decide : pw 0 = 1) (by omega) (by omega) (by omega) B2
    have et1 : bt f.t 1 = b 3 := bt_at (A := 1 * b 2) (C := 1 * b 4 + 2 * b 5 + 4 * b 6) 1 (by decide) (by decide : pw 1 = 2) (by omega) (by omega) (by omega) B3
    have et2 : bt f.t 2 = b 4 := bt_at (A := 1 * b 2 + 2 * b 3) (C := 1 * b 5 + 2 * b 6) 2 (by decide) (by decide : pw 2 = 4) (by omega) (by omega) (by omega) B4
    have et3 : bt f.t 3 = b 5 := bt_at (A := 1 * b 2 + 2 * b 3 + 4 * b 4) (C := 1 * b 6) 3 (by decide) (by decide : pw 3 = 8) (by omega) (by omega) (by omega) B5
    have et4 : bt f.t 4 = b 6 := bt_at (A := 1 * b 2 + 2 * b 3 + 4 * b 4 + 8 * b 5) (C := 0) 4 (by decide) (by decide : pw 4 = 16) (by omega) (by omega) (by omega) B6
    have eimm2 : bt f.imm 2 = b 9 := bt_at (A := 0) (C := 1 * b 10 + 2 * b 11 + 4 * b 12 + 8 * b 7 + 16 * b 8) 2 (by decide) (by decide : pw 2 = 4) (by omega) (by omega) (by omega) B9
    have eimm3 : bt f.imm 3 = b 10 := bt_at (A := 4 * b 9) (C := 1 * b 11 + 2 * b 12 + 4 * b 7 + 8 * b 8) 3 (by decide) (by decide : pw 3 = 8) (by omega) (by omega) (by omega) B10
    have eimm4 : bt f.imm 4 = b 11 := bt_at (A := 4 * b 9 + 8 * b 10) (C := 1 * b 12 + 2 * b 7 + 4 * b 8) 4 (by decide) (by decide : pw 4 = 16) (by omega) (by omega) (by omega) B11
    have eimm5 : bt f.imm 5 = b 12 := bt_at (A := 4 * b 9 + 8 * b 10 + 16 * b 11) (C := 1 * b 7 + 2 * b 8) 5 (by decide) (by decide : pw 5 = 32) (by omega) (by omega) (by omega) B12
    have eimm6 : bt f.imm 6 = b 7 := bt_at (A := 4 * b 9 + 8 * b 10 + 16 * b 11 + 32 * b 12) (C := 1 * b 8) 6 (by decide) (by decide : pw 6 = 64) (by omega) (by omega) (by omega) B7
    have eimm7 : bt f.imm 7 = b 8 := bt_at (A := 4 * b 9 + 8 * b 10 + 16 * b 11 + 32 * b 12 + 64 * b 7) (C := 0) 7 (by decide) (by decide : pw 7 = 128) (by omega) (by omega) (by omega) B8
    constructor
    · simp [parS, shortR, shortL, fill, fbit, cnt, et0, et1, et2, et3, et4, eimm2, eimm3, eimm4, eimm5, eimm6, eimm7] <;> omega
    · show legalR 18 _ _ _ _ = true
      simp [legalR, bitsL, tabL, regB, kind, kindC, fitsB, hi, hiTo, hasB] <;> omega
theorem back_any : ∀ {k : Nat}, k < 26 → ∀ (p : Int) (f : Flds), 0 ≤ p → p < 65536 → instS (shortR k) p = some f → BackS k p f
  | 0, _ => back_0
  | 1, _ => back_1
  | 2, _ => back_2
  | 3, _ => back_3
  | 4, _ => back_4
  | 5, _ => back_5
  | 6, _ => back_6
  | 7, _ => back_7
  | 8, _ => back_8
  | 9, _ => back_9
  | 10, _ => back_10
  | 11, _ => back_11
  | 12, _ => back_12
  | 13, _ => back_13
  | 14, _ => back_14
  | 15, _ => back_15
  | 16, _ => back_16
  | 17, _ => back_17
  | 18, _ => back_18
  | 19, _ => back_19
  | 20, _ => back_20
  | 21, _ => back_21
  | 22, _ => back_22
  | 23, _ => back_23
  | 24, _ => back_24
  | 25, _ => back_25
  | _ + 26, h => by omega
end Hm

/-
  Mathematics of short instructions, on hartref's side: what Expand answers is legal, has a short one, the least of them no greater; what Compress answers Expand makes the same of. Nothing of the dump is imported.
-/
namespace Hm
/-- The row that Expand answers by. -/
theorem exp_row {p : Int} : ∀ {n k : Nat}, (expFrom p n k).err = 0 → ∃ j f, k ≤ j ∧ j < k + n ∧ instS (shortR j) p = some f ∧ expFrom p n k = ⟨(shortR j).op, f, 0⟩
  | 0, k, h => by simp [expFrom] at h
  | n + 1, k, h => by
    cases e : instS (shortR k) p with
    | none =>
      rw [expFrom_none e] at h ⊢
      obtain ⟨j, f, h1, h2, h3, h4⟩ := exp_row h
      exact ⟨j, f, by omega, by omega, h3, h4⟩
    | some f => exact ⟨k, f, Nat.le_refl _, by omega, e, expFrom_some e⟩
theorem least_spec (op d r t imm : Int) : ∀ {k : Nat}, k ≤ 26 → leastTo op d r t imm k = -1 ∨
    (0 ≤ leastTo op d r t imm k ∧ leastTo op d r t imm k < 65536 ∧ expR (leastTo op d r t imm k) = ⟨op, ⟨d, r, t, imm⟩, 0⟩)
  | 0, _ => Or.inl rfl
  | k + 1, hk => by
    have ih := least_spec op d r t imm (k := k) (by omega)
    unfold leastTo
    split
    · rename_i hc
      have hb := par_bd (k := k) (by omega) d r t imm
      have ho := hc.1
      simp only [okS, sameD, Bool.and_eq_true, beq_iff_eq] at ho
      refine Or.inr ⟨hb.1, hb.2, ?_⟩
      generalize expR (parS k d r t imm) = D at ho
      obtain ⟨o, ⟨a, b, c, e⟩, z⟩ := D
      simp only at ho
      obtain ⟨⟨-, rfl⟩, ⟨⟨⟨rfl, rfl⟩, rfl⟩, rfl⟩, rfl⟩ := ho
      rfl
    · exact ih
theorem least_le (op d r t imm : Int) {j : Nat} (ho : okS j op d r t imm = true) : ∀ {k : Nat}, j < k → k ≤ 26 → 0 ≤ leastTo op d r t imm k ∧ leastTo op d r t imm k ≤ parS j d r t imm
  | k + 1, hj, hk => by
    have hb := par_bd (k := j) (by omega) d r t imm
    have hbk := par_bd (k := k) (by omega) d r t imm
    by_cases e : j = k
    · subst e
      unfold leastTo
      split
      · omega
      · rename_i hn
        have : ¬ (leastTo op d r t imm j < 0 ∨ parS j d r t imm < leastTo op d r t imm j) := fun h => hn ⟨ho, h⟩
        omega
    · have ih := least_le op d r t imm ho (k := k) (by omega) (by omega)
      unfold leastTo
      split
      · rename_i hc
        have := hc.2
        omega
      · exact ih
/-- P8, of a parcel that Expand makes an instruction of. -/
theorem exp_back {p : Int} (h0 : 0 ≤ p) (h1 : p < 65536) (he : (expR p).err = 0) :
    legalR (expR p).op (expR p).f.d (expR p).f.r (expR p).f.t (expR p).f.imm = true ∧
    compE (expR p).op (expR p).f.d (expR p).f.r (expR p).f.t (expR p).f.imm = 0 ∧
    0 ≤ compR (expR p).op (expR p).f.d (expR p).f.r (expR p).f.t (expR p).f.imm ∧
    compR (expR p).op (expR p).f.d (expR p).f.r (expR p).f.t (expR p).f.imm ≤ p ∧
    expR (compR (expR p).op (expR p).f.d (expR p).f.r (expR p).f.t (expR p).f.imm) = expR p := by
  by_cases hw : p % 4 = 3
  · unfold expR at he; rw [if_pos hw] at he; simp at he
  have e : expR p = expFrom p 26 0 := by unfold expR; rw [if_neg hw]
  rw [e] at he
  obtain ⟨j, f, -, hj, hi, ef⟩ := exp_row he
  rw [← e] at ef
  have hb := back_any (by omega : j < 26) p f h0 h1 hi
  have ho : okS j (shortR j).op f.d f.r f.t f.imm = true := by
    unfold okS
    rw [hb.1, ef]
    simp [sameD]
  have hl := least_le (shortR j).op f.d f.r f.t f.imm ho (k := 26) (by omega) (by omega)
  have hs := least_spec (shortR j).op f.d f.r f.t f.imm (k := 26) (by omega)
  rw [ef]
  have hc : compR (shortR j).op f.d f.r f.t f.imm = leastTo (shortR j).op f.d f.r f.t f.imm 26 := by unfold compR; rw [if_pos ⟨hb.2, hl.1⟩]
  refine ⟨hb.2, ?_, ?_, ?_, ?_⟩
  · unfold compE; simp only; rw [if_pos hb.2, if_pos hl.1]
  · simp only; rw [hc]; exact hl.1
  · simp only; rw [hc]; have := hb.1; omega
  · simp only
    rw [hc]
    rcases hs with hs | hs
    · omega
    · exact hs.2.2
/-- P8, of an instruction that Compress answers a parcel of. -/
theorem comp_back {op d r t imm : Int} (he : compE op d r t imm = 0) :
    0 ≤ compR op d r t imm ∧ compR op d r t imm < 65536 ∧ expR (compR op d r t imm) = ⟨op, ⟨d, r, t, imm⟩, 0⟩ := by
  unfold compE at he
  split at he
  · rename_i hl
    split at he
    · rename_i hz
      have hc : compR op d r t imm = leastTo op d r t imm 26 := by unfold compR; rw [if_pos ⟨hl, hz⟩]
      rw [hc]
      rcases least_spec op d r t imm (k := 26) (by omega) with hs | hs
      · omega
      · exact hs
    · omega
  · omega
/-- The errors of Expand. -/
theorem exp_err (p : Int) : (expR p).err = 0 ∨ (expR p = ⟨0, ⟨0, 0, 0, 0⟩, 3⟩ ∧ p % 4 = 3) ∨ (expR p = ⟨0, ⟨0, 0, 0, 0⟩, 2⟩ ∧ p % 4 ≠ 3) := by
  have hf : ∀ n k : Nat, (expFrom p n k).err = 0 ∨ expFrom p n k = ⟨0, ⟨0, 0, 0, 0⟩, 2⟩ := by
    intro n
    induction n with
    | zero => intro k; exact Or.inr rfl
    | succ n ih =>
      intro k
      cases e : instS (shortR k) p with
      | none => rw [expFrom_none e]; exact ih _
      | some f => rw [expFrom_some e]; exact Or.inl rfl
  by_cases hw : p % 4 = 3
  · exact Or.inr (Or.inl ⟨by unfold expR; rw [if_pos hw], hw⟩)
  · have e : expR p = expFrom p 26 0 := by unfold expR; rw [if_neg hw]
    rcases hf 26 0 with h | h
    · exact Or.inl (by rw [e]; exact h)
    · exact Or.inr (Or.inr ⟨by rw [e]; exact h, hw⟩)
end Hm
