/-
  Y5 Y6 in one text.
-/
import Derived.Test.YtdcmdjeooklmjaaDoorJE
set_option linter.unusedVariables false
set_option linter.unusedSimpArgs false
/-
  Mathematics of short instructions (made by gen_Y5.py): what a landed row writes of what it reads is the parcel. Nothing of the dump is imported.
-/
namespace Hm
theorem backC_0 (p : Int) (f : Flds) (h0 : 0 ≤ p) (h1 : p < 65536) (h : instS (shortR 0) p = some f) : parC (rowC 0) f.d f.r f.t f.imm = p := by
  have hs := sum16 p h0 h1
  have hb := bt_bd p
  unfold instS at h
  rw [rd_rdB] at h
  generalize bt p = b at h hs hb
  simp [shortR, shortL, rdB, miss, rstep, badS, makeS, fieldS, eightS, cnt, immS2, immS1, hi, hiTo, hasB] at h
  split at h
  · cases h
  rename_i g hg
  simp only [Option.ite_none_right_eq_some, Option.some.injEq] at hg
  obtain ⟨c0, c1, c2, c3, c4, hg⟩ := hg
  have gd : g.d = 1 * b 2 + 2 * b 3 + 4 * b 4 := by subst hg; simp [pw] <;> omega
  have gr : g.r = 0 := by subst hg; simp [pw] <;> omega
  have gt : g.t = 0 := by subst hg; simp [pw] <;> omega
  have gimm : g.imm = 4 * b 6 + 8 * b 5 + 16 * b 11 + 32 * b 12 + 64 * b 7 + 128 * b 8 + 256 * b 9 + 512 * b 10 := by subst hg; simp [pw] <;> omega
  clear hg
  have B2 := hb 2
  have B3 := hb 3
  have B4 := hb 4
  have B5 := hb 5
  have B6 := hb 6
  have B7 := hb 7
  have B8 := hb 8
  have B9 := hb 9
  have B10 := hb 10
  have B11 := hb 11
  have B12 := hb 12
  clear hb
  repeat' split at h
  all_goals first | (cases h; done) | skip
  all_goals
    have h := Option.some.inj h
    have hd := congrArg Flds.d h
    have hr := congrArg Flds.r h
    have ht := congrArg Flds.t h
    have hm := congrArg Flds.imm h
    clear h
    dsimp only at hd hr ht hm
    have ed0 : bt f.d 0 = b 2 := bt_at (A := 0) (C := 1 * b 3 + 2 * b 4 + 4) 0 (by decide) (by decide : pw 0 = 1) (by omega) (by omega) (by omega) B2
    have ed1 : bt f.d 1 = b 3 := bt_at (A := 1 * b 2) (C := 1 * b 4 + 2) 1 (by decide) (by decide : pw 1 = 2) (by omega) (by omega) (by omega) B3
    have ed2 : bt f.d 2 = b 4 := bt_at (A := 1 * b 2 + 2 * b 3) (C := 1) 2 (by decide) (by decide : pw 2 = 4) (by omega) (by omega) (by omega) B4
    have eimm2 : bt f.imm 2 = b 6 := bt_at (A := 0) (C := 1 * b 5 + 2 * b 11 + 4 * b 12 + 8 * b 7 + 16 * b 8 + 32 * b 9 + 64 * b 10) 2 (by decide) (by decide : pw 2 = 4) (by omega) (by omega) (by omega) B6
    have eimm3 : bt f.imm 3 = b 5 := bt_at (A := 4 * b 6) (C := 1 * b 11 + 2 * b 12 + 4 * b 7 + 8 * b 8 + 16 * b 9 + 32 * b 10) 3 (by decide) (by decide : pw 3 = 8) (by omega) (by omega) (by omega) B5
    have eimm4 : bt f.imm 4 = b 11 := bt_at (A := 4 * b 6 + 8 * b 5) (C := 1 * b 12 + 2 * b 7 + 4 * b 8 + 8 * b 9 + 16 * b 10) 4 (by decide) (by decide : pw 4 = 16) (by omega) (by omega) (by omega) B11
    have eimm5 : bt f.imm 5 = b 12 := bt_at (A := 4 * b 6 + 8 * b 5 + 16 * b 11) (C := 1 * b 7 + 2 * b 8 + 4 * b 9 + 8 * b 10) 5 (by decide) (by decide : pw 5 = 32) (by omega) (by omega) (by omega) B12
    have eimm6 : bt f.imm 6 = b 7 := bt_at (A := 4 * b 6 + 8 * b 5 + 16 * b 11 + 32 * b 12) (C := 1 * b 8 + 2 * b 9 + 4 * b 10) 6 (by decide) (by decide : pw 6 = 64) (by omega) (by omega) (by omega) B7
    have eimm7 : bt f.imm 7 = b 8 := bt_at (A := 4 * b 6 + 8 * b 5 + 16 * b 11 + 32 * b 12 + 64 * b 7) (C := 1 * b 9 + 2 * b 10) 7 (by decide) (by decide : pw 7 = 128) (by omega) (by omega) (by omega) B8
    have eimm8 : bt f.imm 8 = b 9 := bt_at (A := 4 * b 6 + 8 * b 5 + 16 * b 11 + 32 * b 12 + 64 * b 7 + 128 * b 8) (C := 1 * b 10) 8 (by decide) (by decide : pw 8 = 256) (by omega) (by omega) (by omega) B9
    have eimm9 : bt f.imm 9 = b 10 := bt_at (A := 4 * b 6 + 8 * b 5 + 16 * b 11 + 32 * b 12 + 64 * b 7 + 128 * b 8 + 256 * b 9) (C := 0) 9 (by decide) (by decide : pw 9 = 512) (by omega) (by omega) (by omega) B10
    have hu := parC_u16 (row_ok (k := 0) (by decide)) f.d f.r f.t f.imm
    have hsp := sum16 _ hu.1 hu.2
    have hU : U32 (f.imm % 4294967296) := ⟨by omega, by omega⟩
    have z2 : or1 (b 2) 0 = b 2 := or1_b0 B2
    have z3 : or1 (b 3) 0 = b 3 := or1_b0 B3
    have z4 : or1 (b 4) 0 = b 4 := or1_b0 B4
    have z5 : or1 (b 5) 0 = b 5 := or1_b0 B5
    have z6 : or1 (b 6) 0 = b 6 := or1_b0 B6
    have z7 : or1 (b 7) 0 = b 7 := or1_b0 B7
    have z8 : or1 (b 8) 0 = b 8 := or1_b0 B8
    have z9 : or1 (b 9) 0 = b 9 := or1_b0 B9
    have z10 : or1 (b 10) 0 = b 10 := or1_b0 B10
    have z11 : or1 (b 11) 0 = b 11 := or1_b0 B11
    have z12 : or1 (b 12) 0 = b 12 := or1_b0 B12
    have q0 : bt (parC (rowC 0) f.d f.r f.t f.imm) 0 = 0 := by
      rw [parC_bt (row_ok (k := 0) (by decide))]
      show or1 (or1 (or1 (or1 (bt 0 0) (bt (putP 6 f.d) 0)) (bt (putP 2 f.r) 0)) (bt (putP 0 f.t) 0)) (bt (sputC 3 f.imm) 0) = _
      rw [bput_6 f.d _ (by decide), bput_2 f.r _ (by decide), bput_0 f.t _ (by decide), sputC_bt, sput8 _ hU, show bt 0 0 = 0 by decide]
      simp [pbP, spr, spr3, sprOf, or1_0, or1_1, or1_bb, bt_m32, ed0, ed1, ed2, eimm2, eimm3, eimm4, eimm5, eimm6, eimm7, eimm8, eimm9, z2, z3, z4, z5, z6, z7, z8, z9, z10, z11, z12]
    have q1 : bt (parC (rowC 0) f.d f.r f.t f.imm) 1 = 0 := by
      rw [parC_bt (row_ok (k := 0) (by decide))]
      show or1 (or1 (or1 (or1 (bt 0 1) (bt (putP 6 f.d) 1)) (bt (putP 2 f.r) 1)) (bt (putP 0 f.t) 1)) (bt (sputC 3 f.imm) 1) = _
      rw [bput_6 f.d _ (by decide), bput_2 f.r _ (by decide), bput_0 f.t _ (by decide), sputC_bt, sput8 _ hU, show bt 0 1 = 0 by decide]
      simp [pbP, spr, spr3, sprOf, or1_0, or1_1, or1_bb, bt_m32, ed0, ed1, ed2, eimm2, eimm3, eimm4, eimm5, eimm6, eimm7, eimm8, eimm9, z2, z3, z4, z5, z6, z7, z8, z9, z10, z11, z12]
    have q2 : bt (parC (rowC 0) f.d f.r f.t f.imm) 2 = b 2 := by
      rw [parC_bt (row_ok (k := 0) (by decide))]
      show or1 (or1 (or1 (or1 (bt 0 2) (bt (putP 6 f.d) 2)) (bt (putP 2 f.r) 2)) (bt (putP 0 f.t) 2)) (bt (sputC 3 f.imm) 2) = _
      rw [bput_6 f.d _ (by decide), bput_2 f.r _ (by decide), bput_0 f.t _ (by decide), sputC_bt, sput8 _ hU, show bt 0 2 = 0 by decide]
      simp [pbP, spr, spr3, sprOf, or1_0, or1_1, or1_bb, bt_m32, ed0, ed1, ed2, eimm2, eimm3, eimm4, eimm5, eimm6, eimm7, eimm8, eimm9, z2, z3, z4, z5, z6, z7, z8, z9, z10, z11, z12]
    have q3 : bt (parC (rowC 0) f.d f.r f.t f.imm) 3 = b 3 := by
      rw [parC_bt (row_ok (k := 0) (by decide))]
      show or1 (or1 (or1 (or1 (bt 0 3) (bt (putP 6 f.d) 3)) (bt (putP 2 f.r) 3)) (bt (putP 0 f.t) 3)) (bt (sputC 3 f.imm) 3) = _
      rw [bput_6 f.d _ (by decide), bput_2 f.r _ (by decide), bput_0 f.t _ (by decide), sputC_bt, sput8 _ hU, show bt 0 3 = 0 by decide]
      simp [pbP, spr, spr3, sprOf, or1_0, or1_1, or1_bb, bt_m32, ed0, ed1, ed2, eimm2, eimm3, eimm4, eimm5, eimm6, eimm7, eimm8, eimm9, z2, z3, z4, z5, z6, z7, z8, z9, z10, z11, z12]
    have q4 : bt (parC (rowC 0) f.d f.r f.t f.imm) 4 = b 4 := by
      rw [parC_bt (row_ok (k := 0) (by decide))]
      show or1 (or1 (or1 (or1 (bt 0 4) (bt (putP 6 f.d) 4)) (bt (putP 2 f.r) 4)) (bt (putP 0 f.t) 4)) (bt (sputC 3 f.imm) 4) = _
      rw [bput_6 f.d _ (by decide), bput_2 f.r _ (by decide), bput_0 f.t _ (by decide), sputC_bt, sput8 _ hU, show bt 0 4 = 0 by decide]
      simp [pbP, spr, spr3, sprOf, or1_0, or1_1, or1_bb, bt_m32, ed0, ed1, ed2, eimm2, eimm3, eimm4, eimm5, eimm6, eimm7, eimm8, eimm9, z2, z3, z4, z5, z6, z7, z8, z9, z10, z11, z12]
    have q5 : bt (parC (rowC 0) f.d f.r f.t f.imm) 5 = b 5 := by
      rw [parC_bt (row_ok (k := 0) (by decide))]
      show or1 (or1 (or1 (or1 (bt 0 5) (bt (putP 6 f.d) 5)) (bt (putP 2 f.r) 5)) (bt (putP 0 f.t) 5)) (bt (sputC 3 f.imm) 5) = _
      rw [bput_6 f.d _ (by decide), bput_2 f.r _ (by decide), bput_0 f.t _ (by decide), sputC_bt, sput8 _ hU, show bt 0 5 = 0 by decide]
      simp [pbP, spr, spr3, sprOf, or1_0, or1_1, or1_bb, bt_m32, ed0, ed1, ed2, eimm2, eimm3, eimm4, eimm5, eimm6, eimm7, eimm8, eimm9, z2, z3, z4, z5, z6, z7, z8, z9, z10, z11, z12]
    have q6 : bt (parC (rowC 0) f.d f.r f.t f.imm) 6 = b 6 := by
      rw [parC_bt (row_ok (k := 0) (by decide))]
      show or1 (or1 (or1 (or1 (bt 0 6) (bt (putP 6 f.d) 6)) (bt (putP 2 f.r) 6)) (bt (putP 0 f.t) 6)) (bt (sputC 3 f.imm) 6) = _
      rw [bput_6 f.d _ (by decide), bput_2 f.r _ (by decide), bput_0 f.t _ (by decide), sputC_bt, sput8 _ hU, show bt 0 6 = 0 by decide]
      simp [pbP, spr, spr3, sprOf, or1_0, or1_1, or1_bb, bt_m32, ed0, ed1, ed2, eimm2, eimm3, eimm4, eimm5, eimm6, eimm7, eimm8, eimm9, z2, z3, z4, z5, z6, z7, z8, z9, z10, z11, z12]
    have q7 : bt (parC (rowC 0) f.d f.r f.t f.imm) 7 = b 7 := by
      rw [parC_bt (row_ok (k := 0) (by decide))]
      show or1 (or1 (or1 (or1 (bt 0 7) (bt (putP 6 f.d) 7)) (bt (putP 2 f.r) 7)) (bt (putP 0 f.t) 7)) (bt (sputC 3 f.imm) 7) = _
      rw [bput_6 f.d _ (by decide), bput_2 f.r _ (by decide), bput_0 f.t _ (by decide), sputC_bt, sput8 _ hU, show bt 0 7 = 0 by decide]
      simp [pbP, spr, spr3, sprOf, or1_0, or1_1, or1_bb, bt_m32, ed0, ed1, ed2, eimm2, eimm3, eimm4, eimm5, eimm6, eimm7, eimm8, eimm9, z2, z3, z4, z5, z6, z7, z8, z9, z10, z11, z12]
    have q8 : bt (parC (rowC 0) f.d f.r f.t f.imm) 8 = b 8 := by
      rw [parC_bt (row_ok (k := 0) (by decide))]
      show or1 (or1 (or1 (or1 (bt 0 8) (bt (putP 6 f.d) 8)) (bt (putP 2 f.r) 8)) (bt (putP 0 f.t) 8)) (bt (sputC 3 f.imm) 8) = _
      rw [bput_6 f.d _ (by decide), bput_2 f.r _ (by decide), bput_0 f.t _ (by decide), sputC_bt, sput8 _ hU, show bt 0 8 = 0 by decide]
      simp [pbP, spr, spr3, sprOf, or1_0, or1_1, or1_bb, bt_m32, ed0, ed1, ed2, eimm2, eimm3, eimm4, eimm5, eimm6, eimm7, eimm8, eimm9, z2, z3, z4, z5, z6, z7, z8, z9, z10, z11, z12]
    have q9 : bt (parC (rowC 0) f.d f.r f.t f.imm) 9 = b 9 := by
      rw [parC_bt (row_ok (k := 0) (by decide))]
      show or1 (or1 (or1 (or1 (bt 0 9) (bt (putP 6 f.d) 9)) (bt (putP 2 f.r) 9)) (bt (putP 0 f.t) 9)) (bt (sputC 3 f.imm) 9) = _
      rw [bput_6 f.d _ (by decide), bput_2 f.r _ (by decide), bput_0 f.t _ (by decide), sputC_bt, sput8 _ hU, show bt 0 9 = 0 by decide]
      simp [pbP, spr, spr3, sprOf, or1_0, or1_1, or1_bb, bt_m32, ed0, ed1, ed2, eimm2, eimm3, eimm4, eimm5, eimm6, eimm7, eimm8, eimm9, z2, z3, z4, z5, z6, z7, z8, z9, z10, z11, z12]
    have q10 : bt (parC (rowC 0) f.d f.r f.t f.imm) 10 = b 10 := by
      rw [parC_bt (row_ok (k := 0) (by decide))]
      show or1 (or1 (or1 (or1 (bt 0 10) (bt (putP 6 f.d) 10)) (bt (putP 2 f.r) 10)) (bt (putP 0 f.t) 10)) (bt (sputC 3 f.imm) 10) = _
      rw [bput_6 f.d _ (by decide), bput_2 f.r _ (by decide), bput_0 f.t _ (by decide), sputC_bt, sput8 _ hU, show bt 0 10 = 0 by decide]
      simp [pbP, spr, spr3, sprOf, or1_0, or1_1, or1_bb, bt_m32, ed0, ed1, ed2, eimm2, eimm3, eimm4, eimm5, eimm6, eimm7, eimm8, eimm9, z2, z3, z4, z5, z6, z7, z8, z9, z10, z11, z12]
    have q11 : bt (parC (rowC 0) f.d f.r f.t f.imm) 11 = b 11 := by
      rw [parC_bt (row_ok (k := 0) (by decide))]
      show or1 (or1 (or1 (or1 (bt 0 11) (bt (putP 6 f.d) 11)) (bt (putP 2 f.r) 11)) (bt (putP 0 f.t) 11)) (bt (sputC 3 f.imm) 11) = _
      rw [bput_6 f.d _ (by decide), bput_2 f.r _ (by decide), bput_0 f.t _ (by decide), sputC_bt, sput8 _ hU, show bt 0 11 = 0 by decide]
      simp [pbP, spr, spr3, sprOf, or1_0, or1_1, or1_bb, bt_m32, ed0, ed1, ed2, eimm2, eimm3, eimm4, eimm5, eimm6, eimm7, eimm8, eimm9, z2, z3, z4, z5, z6, z7, z8, z9, z10, z11, z12]
    have q12 : bt (parC (rowC 0) f.d f.r f.t f.imm) 12 = b 12 := by
      rw [parC_bt (row_ok (k := 0) (by decide))]
      show or1 (or1 (or1 (or1 (bt 0 12) (bt (putP 6 f.d) 12)) (bt (putP 2 f.r) 12)) (bt (putP 0 f.t) 12)) (bt (sputC 3 f.imm) 12) = _
      rw [bput_6 f.d _ (by decide), bput_2 f.r _ (by decide), bput_0 f.t _ (by decide), sputC_bt, sput8 _ hU, show bt 0 12 = 0 by decide]
      simp [pbP, spr, spr3, sprOf, or1_0, or1_1, or1_bb, bt_m32, ed0, ed1, ed2, eimm2, eimm3, eimm4, eimm5, eimm6, eimm7, eimm8, eimm9, z2, z3, z4, z5, z6, z7, z8, z9, z10, z11, z12]
    have q13 : bt (parC (rowC 0) f.d f.r f.t f.imm) 13 = 0 := by
      rw [parC_bt (row_ok (k := 0) (by decide))]
      show or1 (or1 (or1 (or1 (bt 0 13) (bt (putP 6 f.d) 13)) (bt (putP 2 f.r) 13)) (bt (putP 0 f.t) 13)) (bt (sputC 3 f.imm) 13) = _
      rw [bput_6 f.d _ (by decide), bput_2 f.r _ (by decide), bput_0 f.t _ (by decide), sputC_bt, sput8 _ hU, show bt 0 13 = 0 by decide]
      simp [pbP, spr, spr3, sprOf, or1_0, or1_1, or1_bb, bt_m32, ed0, ed1, ed2, eimm2, eimm3, eimm4, eimm5, eimm6, eimm7, eimm8, eimm9, z2, z3, z4, z5, z6, z7, z8, z9, z10, z11, z12]
    have q14 : bt (parC (rowC 0) f.d f.r f.t f.imm) 14 = 0 := by
      rw [parC_bt (row_ok (k := 0) (by decide))]
      show or1 (or1 (or1 (or1 (bt 0 14) (bt (putP 6 f.d) 14)) (bt (putP 2 f.r) 14)) (bt (putP 0 f.t) 14)) (bt (sputC 3 f.imm) 14) = _
      rw [bput_6 f.d _ (by decide), bput_2 f.r _ (by decide), bput_0 f.t _ (by decide), sputC_bt, sput8 _ hU, show bt 0 14 = 0 by decide]
      simp [pbP, spr, spr3, sprOf, or1_0, or1_1, or1_bb, bt_m32, ed0, ed1, ed2, eimm2, eimm3, eimm4, eimm5, eimm6, eimm7, eimm8, eimm9, z2, z3, z4, z5, z6, z7, z8, z9, z10, z11, z12]
    have q15 : bt (parC (rowC 0) f.d f.r f.t f.imm) 15 = 0 := by
      rw [parC_bt (row_ok (k := 0) (by decide))]
      show or1 (or1 (or1 (or1 (bt 0 15) (bt (putP 6 f.d) 15)) (bt (putP 2 f.r) 15)) (bt (putP 0 f.t) 15)) (bt (sputC 3 f.imm) 15) = _
      rw [bput_6 f.d _ (by decide), bput_2 f.r _ (by decide), bput_0 f.t _ (by decide), sputC_bt, sput8 _ hU, show bt 0 15 = 0 by decide]
      simp [pbP, spr, spr3, sprOf, or1_0, or1_1, or1_bb, bt_m32, ed0, ed1, ed2, eimm2, eimm3, eimm4, eimm5, eimm6, eimm7, eimm8, eimm9, z2, z3, z4, z5, z6, z7, z8, z9, z10, z11, z12]
    rw [q0, q1, q2, q3, q4, q5, q6, q7, q8, q9, q10, q11, q12, q13, q14, q15] at hsp
    omega
theorem backC_1 (p : Int) (f : Flds) (h0 : 0 ≤ p) (h1 : p < 65536) (h : instS (shortR 1) p = some f) : parC (rowC 1) f.d f.r f.t f.imm = p := by
  have hs := sum16 p h0 h1
  have hb := bt_bd p
  unfold instS at h
  rw [rd_rdB] at h
  generalize bt p = b at h hs hb
  simp [shortR, shortL, rdB, miss, rstep, badS, makeS, fieldS, eightS, cnt, immS2, immS1, hi, hiTo, hasB] at h
  split at h
  · cases h
  rename_i g hg
  simp only [Option.ite_none_right_eq_some, Option.some.injEq] at hg
  obtain ⟨c0, c1, c2, c3, c4, hg⟩ := hg
  have gd : g.d = 1 * b 2 + 2 * b 3 + 4 * b 4 := by subst hg; simp [pw] <;> omega
  have gr : g.r = 1 * b 7 + 2 * b 8 + 4 * b 9 := by subst hg; simp [pw] <;> omega
  have gt : g.t = 0 := by subst hg; simp [pw] <;> omega
  have gimm : g.imm = 4 * b 6 + 8 * b 10 + 16 * b 11 + 32 * b 12 + 64 * b 5 := by subst hg; simp [pw] <;> omega
  clear hg
  have B2 := hb 2
  have B3 := hb 3
  have B4 := hb 4
  have B5 := hb 5
  have B6 := hb 6
  have B7 := hb 7
  have B8 := hb 8
  have B9 := hb 9
  have B10 := hb 10
  have B11 := hb 11
  have B12 := hb 12
  clear hb
  repeat' split at h
  all_goals first | (cases h; done) | skip
  all_goals
    have h := Option.some.inj h
    have hd := congrArg Flds.d h
    have hr := congrArg Flds.r h
    have ht := congrArg Flds.t h
    have hm := congrArg Flds.imm h
    clear h
    dsimp only at hd hr ht hm
    have ed0 : bt f.d 0 = b 2 := bt_at (A := 0) (C := 1 * b 3 + 2 * b 4 + 4) 0 (by decide) (by decide : pw 0 = 1) (by omega) (by omega) (by omega) B2
    have ed1 : bt f.d 1 = b 3 := bt_at (A := 1 * b 2) (C := 1 * b 4 + 2) 1 (by decide) (by decide : pw 1 = 2) (by omega) (by omega) (by omega) B3
    have ed2 : bt f.d 2 = b 4 := bt_at (A := 1 * b 2 + 2 * b 3) (C := 1) 2 (by decide) (by decide : pw 2 = 4) (by omega) (by omega) (by omega) B4
    have er0 : bt f.r 0 = b 7 := bt_at (A := 0) (C := 1 * b 8 + 2 * b 9 + 4) 0 (by decide) (by decide : pw 0 = 1) (by omega) (by omega) (by omega) B7
    have er1 : bt f.r 1 = b 8 := bt_at (A := 1 * b 7) (C := 1 * b 9 + 2) 1 (by decide) (by decide : pw 1 = 2) (by omega) (by omega) (by omega) B8
    have er2 : bt f.r 2 = b 9 := bt_at (A := 1 * b 7 + 2 * b 8) (C := 1) 2 (by decide) (by decide : pw 2 = 4) (by omega) (by omega) (by omega) B9
    have eimm2 : bt f.imm 2 = b 6 := bt_at (A := 0) (C := 1 * b 10 + 2 * b 11 + 4 * b 12 + 8 * b 5) 2 (by decide) (by decide : pw 2 = 4) (by omega) (by omega) (by omega) B6
    have eimm3 : bt f.imm 3 = b 10 := bt_at (A := 4 * b 6) (C := 1 * b 11 + 2 * b 12 + 4 * b 5) 3 (by decide) (by decide : pw 3 = 8) (by omega) (by omega) (by omega) B10
    have eimm4 : bt f.imm 4 = b 11 := bt_at (A := 4 * b 6 + 8 * b 10) (C := 1 * b 12 + 2 * b 5) 4 (by decide) (by decide : pw 4 = 16) (by omega) (by omega) (by omega) B11
    have eimm5 : bt f.imm 5 = b 12 := bt_at (A := 4 * b 6 + 8 * b 10 + 16 * b 11) (C := 1 * b 5) 5 (by decide) (by decide : pw 5 = 32) (by omega) (by omega) (by omega) B12
    have eimm6 : bt f.imm 6 = b 5 := bt_at (A := 4 * b 6 + 8 * b 10 + 16 * b 11 + 32 * b 12) (C := 0) 6 (by decide) (by decide : pw 6 = 64) (by omega) (by omega) (by omega) B5
    have hu := parC_u16 (row_ok (k := 1) (by decide)) f.d f.r f.t f.imm
    have hsp := sum16 _ hu.1 hu.2
    have hU : U32 (f.imm % 4294967296) := ⟨by omega, by omega⟩
    have z2 : or1 (b 2) 0 = b 2 := or1_b0 B2
    have z3 : or1 (b 3) 0 = b 3 := or1_b0 B3
    have z4 : or1 (b 4) 0 = b 4 := or1_b0 B4
    have z5 : or1 (b 5) 0 = b 5 := or1_b0 B5
    have z6 : or1 (b 6) 0 = b 6 := or1_b0 B6
    have z7 : or1 (b 7) 0 = b 7 := or1_b0 B7
    have z8 : or1 (b 8) 0 = b 8 := or1_b0 B8
    have z9 : or1 (b 9) 0 = b 9 := or1_b0 B9
    have z10 : or1 (b 10) 0 = b 10 := or1_b0 B10
    have z11 : or1 (b 11) 0 = b 11 := or1_b0 B11
    have z12 : or1 (b 12) 0 = b 12 := or1_b0 B12
    have q0 : bt (parC (rowC 1) f.d f.r f.t f.imm) 0 = 0 := by
      rw [parC_bt (row_ok (k := 1) (by decide))]
      show or1 (or1 (or1 (or1 (bt 16384 0) (bt (putP 6 f.d) 0)) (bt (putP 5 f.r) 0)) (bt (putP 0 f.t) 0)) (bt (sputC 4 f.imm) 0) = _
      rw [bput_6 f.d _ (by decide), bput_5 f.r _ (by decide), bput_0 f.t _ (by decide), sputC_bt, sput8 _ hU, show bt 16384 0 = 0 by decide]
      simp [pbP, spr, spr4, sprOf, or1_0, or1_1, or1_bb, bt_m32, ed0, ed1, ed2, er0, er1, er2, eimm2, eimm3, eimm4, eimm5, eimm6, z2, z3, z4, z5, z6, z7, z8, z9, z10, z11, z12]
    have q1 : bt (parC (rowC 1) f.d f.r f.t f.imm) 1 = 0 := by
      rw [parC_bt (row_ok (k := 1) (by decide))]
      show or1 (or1 (or1 (or1 (bt 16384 1) (bt (putP 6 f.d) 1)) (bt (putP 5 f.r) 1)) (bt (putP 0 f.t) 1)) (bt (sputC 4 f.imm) 1) = _
      rw [bput_6 f.d _ (by decide), bput_5 f.r _ (by decide), bput_0 f.t _ (by decide), sputC_bt, sput8 _ hU, show bt 16384 1 = 0 by decide]
      simp [pbP, spr, spr4, sprOf, or1_0, or1_1, or1_bb, bt_m32, ed0, ed1, ed2, er0, er1, er2, eimm2, eimm3, eimm4, eimm5, eimm6, z2, z3, z4, z5, z6, z7, z8, z9, z10, z11, z12]
    have q2 : bt (parC (rowC 1) f.d f.r f.t f.imm) 2 = b 2 := by
      rw [parC_bt (row_ok (k := 1) (by decide))]
      show or1 (or1 (or1 (or1 (bt 16384 2) (bt (putP 6 f.d) 2)) (bt (putP 5 f.r) 2)) (bt (putP 0 f.t) 2)) (bt (sputC 4 f.imm) 2) = _
      rw [bput_6 f.d _ (by decide), bput_5 f.r _ (by decide), bput_0 f.t _ (by decide), sputC_bt, sput8 _ hU, show bt 16384 2 = 0 by decide]
      simp [pbP, spr, spr4, sprOf, or1_0, or1_1, or1_bb, bt_m32, ed0, ed1, ed2, er0, er1, er2, eimm2, eimm3, eimm4, eimm5, eimm6, z2, z3, z4, z5, z6, z7, z8, z9, z10, z11, z12]
    have q3 : bt (parC (rowC 1) f.d f.r f.t f.imm) 3 = b 3 := by
      rw [parC_bt (row_ok (k := 1) (by decide))]
      show or1 (or1 (or1 (or1 (bt 16384 3) (bt (putP 6 f.d) 3)) (bt (putP 5 f.r) 3)) (bt (putP 0 f.t) 3)) (bt (sputC 4 f.imm) 3) = _
      rw [bput_6 f.d _ (by decide), bput_5 f.r _ (by decide), bput_0 f.t _ (by decide), sputC_bt, sput8 _ hU, show bt 16384 3 = 0 by decide]
      simp [pbP, spr, spr4, sprOf, or1_0, or1_1, or1_bb, bt_m32, ed0, ed1, ed2, er0, er1, er2, eimm2, eimm3, eimm4, eimm5, eimm6, z2, z3, z4, z5, z6, z7, z8, z9, z10, z11, z12]
    have q4 : bt (parC (rowC 1) f.d f.r f.t f.imm) 4 = b 4 := by
      rw [parC_bt (row_ok (k := 1) (by decide))]
      show or1 (or1 (or1 (or1 (bt 16384 4) (bt (putP 6 f.d) 4)) (bt (putP 5 f.r) 4)) (bt (putP 0 f.t) 4)) (bt (sputC 4 f.imm) 4) = _
      rw [bput_6 f.d _ (by decide), bput_5 f.r _ (by decide), bput_0 f.t _ (by decide), sputC_bt, sput8 _ hU, show bt 16384 4 = 0 by decide]
      simp [pbP, spr, spr4, sprOf, or1_0, or1_1, or1_bb, bt_m32, ed0, ed1, ed2, er0, er1, er2, eimm2, eimm3, eimm4, eimm5, eimm6, z2, z3, z4, z5, z6, z7, z8, z9, z10, z11, z12]
    have q5 : bt (parC (rowC 1) f.d f.r f.t f.imm) 5 = b 5 := by
      rw [parC_bt (row_ok (k := 1) (by decide))]
      show or1 (or1 (or1 (or1 (bt 16384 5) (bt (putP 6 f.d) 5)) (bt (putP 5 f.r) 5)) (bt (putP 0 f.t) 5)) (bt (sputC 4 f.imm) 5) = _
      rw [bput_6 f.d _ (by decide), bput_5 f.r _ (by decide), bput_0 f.t _ (by decide), sputC_bt, sput8 _ hU, show bt 16384 5 = 0 by decide]
      simp [pbP, spr, spr4, sprOf, or1_0, or1_1, or1_bb, bt_m32, ed0, ed1, ed2, er0, er1, er2, eimm2, eimm3, eimm4, eimm5, eimm6, z2, z3, z4, z5, z6, z7, z8, z9, z10, z11, z12]
    have q6 : bt (parC (rowC 1) f.d f.r f.t f.imm) 6 = b 6 := by
      rw [parC_bt (row_ok (k := 1) (by decide))]
      show or1 (or1 (or1 (or1 (bt 16384 6) (bt (putP 6 f.d) 6)) (bt (putP 5 f.r) 6)) (bt (putP 0 f.t) 6)) (bt (sputC 4 f.imm) 6) = _
      rw [bput_6 f.d _ (by decide), bput_5 f.r _ (by decide), bput_0 f.t _ (by decide), sputC_bt, sput8 _ hU, show bt 16384 6 = 0 by decide]
      simp [pbP, spr, spr4, sprOf, or1_0, or1_1, or1_bb, bt_m32, ed0, ed1, ed2, er0, er1, er2, eimm2, eimm3, eimm4, eimm5, eimm6, z2, z3, z4, z5, z6, z7, z8, z9, z10, z11, z12]
    have q7 : bt (parC (rowC 1) f.d f.r f.t f.imm) 7 = b 7 := by
      rw [parC_bt (row_ok (k := 1) (by decide))]
      show or1 (or1 (or1 (or1 (bt 16384 7) (bt (putP 6 f.d) 7)) (bt (putP 5 f.r) 7)) (bt (putP 0 f.t) 7)) (bt (sputC 4 f.imm) 7) = _
      rw [bput_6 f.d _ (by decide), bput_5 f.r _ (by decide), bput_0 f.t _ (by decide), sputC_bt, sput8 _ hU, show bt 16384 7 = 0 by decide]
      simp [pbP, spr, spr4, sprOf, or1_0, or1_1, or1_bb, bt_m32, ed0, ed1, ed2, er0, er1, er2, eimm2, eimm3, eimm4, eimm5, eimm6, z2, z3, z4, z5, z6, z7, z8, z9, z10, z11, z12]
    have q8 : bt (parC (rowC 1) f.d f.r f.t f.imm) 8 = b 8 := by
      rw [parC_bt (row_ok (k := 1) (by decide))]
      show or1 (or1 (or1 (or1 (bt 16384 8) (bt (putP 6 f.d) 8)) (bt (putP 5 f.r) 8)) (bt (putP 0 f.t) 8)) (bt (sputC 4 f.imm) 8) = _
      rw [bput_6 f.d _ (by decide), bput_5 f.r _ (by decide), bput_0 f.t _ (by decide), sputC_bt, sput8 _ hU, show bt 16384 8 = 0 by decide]
      simp [pbP, spr, spr4, sprOf, or1_0, or1_1, or1_bb, bt_m32, ed0, ed1, ed2, er0, er1, er2, eimm2, eimm3, eimm4, eimm5, eimm6, z2, z3, z4, z5, z6, z7, z8, z9, z10, z11, z12]
    have q9 : bt (parC (rowC 1) f.d f.r f.t f.imm) 9 = b 9 := by
      rw [parC_bt (row_ok (k := 1) (by decide))]
      show or1 (or1 (or1 (or1 (bt 16384 9) (bt (putP 6 f.d) 9)) (bt (putP 5 f.r) 9)) (bt (putP 0 f.t) 9)) (bt (sputC 4 f.imm) 9) = _
      rw [bput_6 f.d _ (by decide), bput_5 f.r _ (by decide), bput_0 f.t _ (by decide), sputC_bt, sput8 _ hU, show bt 16384 9 = 0 by decide]
      simp [pbP, spr, spr4, sprOf, or1_0, or1_1, or1_bb, bt_m32, ed0, ed1, ed2, er0, er1, er2, eimm2, eimm3, eimm4, eimm5, eimm6, z2, z3, z4, z5, z6, z7, z8, z9, z10, z11, z12]
    have q10 : bt (parC (rowC 1) f.d f.r f.t f.imm) 10 = b 10 := by
      rw [parC_bt (row_ok (k := 1) (by decide))]
      show or1 (or1 (or1 (or1 (bt 16384 10) (bt (putP 6 f.d) 10)) (bt (putP 5 f.r) 10)) (bt (putP 0 f.t) 10)) (bt (sputC 4 f.imm) 10) = _
      rw [bput_6 f.d _ (by decide), bput_5 f.r _ (by decide), bput_0 f.t _ (by decide), sputC_bt, sput8 _ hU, show bt 16384 10 = 0 by decide]
      simp [pbP, spr, spr4, sprOf, or1_0, or1_1, or1_bb, bt_m32, ed0, ed1, ed2, er0, er1, er2, eimm2, eimm3, eimm4, eimm5, eimm6, z2, z3, z4, z5, z6, z7, z8, z9, z10, z11, z12]
    have q11 : bt (parC (rowC 1) f.d f.r f.t f.imm) 11 = b 11 := by
      rw [parC_bt (row_ok (k := 1) (by decide))]
      show or1 (or1 (or1 (or1 (bt 16384 11) (bt (putP 6 f.d) 11)) (bt (putP 5 f.r) 11)) (bt (putP 0 f.t) 11)) (bt (sputC 4 f.imm) 11) = _
      rw [bput_6 f.d _ (by decide), bput_5 f.r _ (by decide), bput_0 f.t _ (by decide), sputC_bt, sput8 _ hU, show bt 16384 11 = 0 by decide]
      simp [pbP, spr, spr4, sprOf, or1_0, or1_1, or1_bb, bt_m32, ed0, ed1, ed2, er0, er1, er2, eimm2, eimm3, eimm4, eimm5, eimm6, z2, z3, z4, z5, z6, z7, z8, z9, z10, z11, z12]
    have q12 : bt (parC (rowC 1) f.d f.r f.t f.imm) 12 = b 12 := by
      rw [parC_bt (row_ok (k := 1) (by decide))]
      show or1 (or1 (or1 (or1 (bt 16384 12) (bt (putP 6 f.d) 12)) (bt (putP 5 f.r) 12)) (bt (putP 0 f.t) 12)) (bt (sputC 4 f.imm) 12) = _
      rw [bput_6 f.d _ (by decide), bput_5 f.r _ (by decide), bput_0 f.t _ (by decide), sputC_bt, sput8 _ hU, show bt 16384 12 = 0 by decide]
      simp [pbP, spr, spr4, sprOf, or1_0, or1_1, or1_bb, bt_m32, ed0, ed1, ed2, er0, er1, er2, eimm2, eimm3, eimm4, eimm5, eimm6, z2, z3, z4, z5, z6, z7, z8, z9, z10, z11, z12]
    have q13 : bt (parC (rowC 1) f.d f.r f.t f.imm) 13 = 0 := by
      rw [parC_bt (row_ok (k := 1) (by decide))]
      show or1 (or1 (or1 (or1 (bt 16384 13) (bt (putP 6 f.d) 13)) (bt (putP 5 f.r) 13)) (bt (putP 0 f.t) 13)) (bt (sputC 4 f.imm) 13) = _
      rw [bput_6 f.d _ (by decide), bput_5 f.r _ (by decide), bput_0 f.t _ (by decide), sputC_bt, sput8 _ hU, show bt 16384 13 = 0 by decide]
      simp [pbP, spr, spr4, sprOf, or1_0, or1_1, or1_bb, bt_m32, ed0, ed1, ed2, er0, er1, er2, eimm2, eimm3, eimm4, eimm5, eimm6, z2, z3, z4, z5, z6, z7, z8, z9, z10, z11, z12]
    have q14 : bt (parC (rowC 1) f.d f.r f.t f.imm) 14 = 1 := by
      rw [parC_bt (row_ok (k := 1) (by decide))]
      show or1 (or1 (or1 (or1 (bt 16384 14) (bt (putP 6 f.d) 14)) (bt (putP 5 f.r) 14)) (bt (putP 0 f.t) 14)) (bt (sputC 4 f.imm) 14) = _
      rw [bput_6 f.d _ (by decide), bput_5 f.r _ (by decide), bput_0 f.t _ (by decide), sputC_bt, sput8 _ hU, show bt 16384 14 = 1 by decide]
      simp [pbP, spr, spr4, sprOf, or1_0, or1_1, or1_bb, bt_m32, ed0, ed1, ed2, er0, er1, er2, eimm2, eimm3, eimm4, eimm5, eimm6, z2, z3, z4, z5, z6, z7, z8, z9, z10, z11, z12]
    have q15 : bt (parC (rowC 1) f.d f.r f.t f.imm) 15 = 0 := by
      rw [parC_bt (row_ok (k := 1) (by decide))]
      show or1 (or1 (or1 (or1 (bt 16384 15) (bt (putP 6 f.d) 15)) (bt (putP 5 f.r) 15)) (bt (putP 0 f.t) 15)) (bt (sputC 4 f.imm) 15) = _
      rw [bput_6 f.d _ (by decide), bput_5 f.r _ (by decide), bput_0 f.t _ (by decide), sputC_bt, sput8 _ hU, show bt 16384 15 = 0 by decide]
      simp [pbP, spr, spr4, sprOf, or1_0, or1_1, or1_bb, bt_m32, ed0, ed1, ed2, er0, er1, er2, eimm2, eimm3, eimm4, eimm5, eimm6, z2, z3, z4, z5, z6, z7, z8, z9, z10, z11, z12]
    rw [q0, q1, q2, q3, q4, q5, q6, q7, q8, q9, q10, q11, q12, q13, q14, q15] at hsp
    omega
theorem backC_2 (p : Int) (f : Flds) (h0 : 0 ≤ p) (h1 : p < 65536) (h : instS (shortR 2) p = some f) : parC (rowC 2) f.d f.r f.t f.imm = p := by
  have hs := sum16 p h0 h1
  have hb := bt_bd p
  unfold instS at h
  rw [rd_rdB] at h
  generalize bt p = b at h hs hb
  simp [shortR, shortL, rdB, miss, rstep, badS, makeS, fieldS, eightS, cnt, immS2, immS1, hi, hiTo, hasB] at h
  split at h
  · cases h
  rename_i g hg
  simp only [Option.ite_none_right_eq_some, Option.some.injEq] at hg
  obtain ⟨c0, c1, c2, c3, c4, hg⟩ := hg
  have gd : g.d = 0 := by subst hg; simp [pw] <;> omega
  have gr : g.r = 1 * b 7 + 2 * b 8 + 4 * b 9 := by subst hg; simp [pw] <;> omega
  have gt : g.t = 1 * b 2 + 2 * b 3 + 4 * b 4 := by subst hg; simp [pw] <;> omega
  have gimm : g.imm = 4 * b 6 + 8 * b 10 + 16 * b 11 + 32 * b 12 + 64 * b 5 := by subst hg; simp [pw] <;> omega
  clear hg
  have B2 := hb 2
  have B3 := hb 3
  have B4 := hb 4
  have B5 := hb 5
  have B6 := hb 6
  have B7 := hb 7
  have B8 := hb 8
  have B9 := hb 9
  have B10 := hb 10
  have B11 := hb 11
  have B12 := hb 12
  clear hb
  repeat' split at h
  all_goals first | (cases h; done) | skip
  all_goals
    have h := Option.some.inj h
    have hd := congrArg Flds.d h
    have hr := congrArg Flds.r h
    have ht := congrArg Flds.t h
    have hm := congrArg Flds.imm h
    clear h
    dsimp only at hd hr ht hm
    have er0 : bt f.r 0 = b 7 := bt_at (A := 0) (C := 1 * b 8 + 2 * b 9 + 4) 0 (by decide) (by decide : pw 0 = 1) (by omega) (by omega) (by omega) B7
    have er1 : bt f.r 1 = b 8 := bt_at (A := 1 * b 7) (C := 1 * b 9 + 2) 1 (by decide) (by decide : pw 1 = 2) (by omega) (by omega) (by omega) B8
    have er2 : bt f.r 2 = b 9 := bt_at (A := 1 * b 7 + 2 * b 8) (C := 1) 2 (by decide) (by decide : pw 2 = 4) (by omega) (by omega) (by omega) B9
    have et0 : bt f.t 0 = b 2 := bt_at (A := 0) (C := 1 * b 3 + 2 * b 4 + 4) 0 (by decide) (by decide : pw 0 = 1) (by omega) (by omega) (by omega) B2
    have et1 : bt f.t 1 = b 3 := bt_at (A := 1 * b 2) (C := 1 * b 4 + 2) 1 (by decide) (by decide : pw 1 = 2) (by omega) (by omega) (by omega) B3
    have et2 : bt f.t 2 = b 4 := bt_at (A := 1 * b 2 + 2 * b 3) (C := 1) 2 (by decide) (by decide : pw 2 = 4) (by omega) (by omega) (by omega) B4
    have eimm2 : bt f.imm 2 = b 6 := bt_at (A := 0) (C := 1 * b 10 + 2 * b 11 + 4 * b 12 + 8 * b 5) 2 (by decide) (by decide : pw 2 = 4) (by omega) (by omega) (by omega) B6
    have eimm3 : bt f.imm 3 = b 10 := bt_at (A := 4 * b 6) (C := 1 * b 11 + 2 * b 12 + 4 * b 5) 3 (by decide) (by decide : pw 3 = 8) (by omega) (by omega) (by omega) B10
    have eimm4 : bt f.imm 4 = b 11 := bt_at (A := 4 * b 6 + 8 * b 10) (C := 1 * b 12 + 2 * b 5) 4 (by decide) (by decide : pw 4 = 16) (by omega) (by omega) (by omega) B11
    have eimm5 : bt f.imm 5 = b 12 := bt_at (A := 4 * b 6 + 8 * b 10 + 16 * b 11) (C := 1 * b 5) 5 (by decide) (by decide : pw 5 = 32) (by omega) (by omega) (by omega) B12
    have eimm6 : bt f.imm 6 = b 5 := bt_at (A := 4 * b 6 + 8 * b 10 + 16 * b 11 + 32 * b 12) (C := 0) 6 (by decide) (by decide : pw 6 = 64) (by omega) (by omega) (by omega) B5
    have hu := parC_u16 (row_ok (k := 2) (by decide)) f.d f.r f.t f.imm
    have hsp := sum16 _ hu.1 hu.2
    have hU : U32 (f.imm % 4294967296) := ⟨by omega, by omega⟩
    have z2 : or1 (b 2) 0 = b 2 := or1_b0 B2
    have z3 : or1 (b 3) 0 = b 3 := or1_b0 B3
    have z4 : or1 (b 4) 0 = b 4 := or1_b0 B4
    have z5 : or1 (b 5) 0 = b 5 := or1_b0 B5
    have z6 : or1 (b 6) 0 = b 6 := or1_b0 B6
    have z7 : or1 (b 7) 0 = b 7 := or1_b0 B7
    have z8 : or1 (b 8) 0 = b 8 := or1_b0 B8
    have z9 : or1 (b 9) 0 = b 9 := or1_b0 B9
    have z10 : or1 (b 10) 0 = b 10 := or1_b0 B10
    have z11 : or1 (b 11) 0 = b 11 := or1_b0 B11
    have z12 : or1 (b 12) 0 = b 12 := or1_b0 B12
    have q0 : bt (parC (rowC 2) f.d f.r f.t f.imm) 0 = 0 := by
      rw [parC_bt (row_ok (k := 2) (by decide))]
      show or1 (or1 (or1 (or1 (bt 49152 0) (bt (putP 0 f.d) 0)) (bt (putP 5 f.r) 0)) (bt (putP 6 f.t) 0)) (bt (sputC 4 f.imm) 0) = _
      rw [bput_0 f.d _ (by decide), bput_5 f.r _ (by decide), bput_6 f.t _ (by decide), sputC_bt, sput8 _ hU, show bt 49152 0 = 0 by decide]
      simp [pbP, spr, spr4, sprOf, or1_0, or1_1, or1_bb, bt_m32, er0, er1, er2, et0, et1, et2, eimm2, eimm3, eimm4, eimm5, eimm6, z2, z3, z4, z5, z6, z7, z8, z9, z10, z11, z12]
    have q1 : bt (parC (rowC 2) f.d f.r f.t f.imm) 1 = 0 := by
      rw [parC_bt (row_ok (k := 2) (by decide))]
      show or1 (or1 (or1 (or1 (bt 49152 1) (bt (putP 0 f.d) 1)) (bt (putP 5 f.r) 1)) (bt (putP 6 f.t) 1)) (bt (sputC 4 f.imm) 1) = _
      rw [bput_0 f.d _ (by decide), bput_5 f.r _ (by decide), bput_6 f.t _ (by decide), sputC_bt, sput8 _ hU, show bt 49152 1 = 0 by decide]
      simp [pbP, spr, spr4, sprOf, or1_0, or1_1, or1_bb, bt_m32, er0, er1, er2, et0, et1, et2, eimm2, eimm3, eimm4, eimm5, eimm6, z2, z3, z4, z5, z6, z7, z8, z9, z10, z11, z12]
    have q2 : bt (parC (rowC 2) f.d f.r f.t f.imm) 2 = b 2 := by
      rw [parC_bt (row_ok (k := 2) (by decide))]
      show or1 (or1 (or1 (or1 (bt 49152 2) (bt (putP 0 f.d) 2)) (bt (putP 5 f.r) 2)) (bt (putP 6 f.t) 2)) (bt (sputC 4 f.imm) 2) = _
      rw [bput_0 f.d _ (by decide), bput_5 f.r _ (by decide), bput_6 f.t _ (by decide), sputC_bt, sput8 _ hU, show bt 49152 2 = 0 by decide]
      simp [pbP, spr, spr4, sprOf, or1_0, or1_1, or1_bb, bt_m32, er0, er1, er2, et0, et1, et2, eimm2, eimm3, eimm4, eimm5, eimm6, z2, z3, z4, z5, z6, z7, z8, z9, z10, z11, z12]
    have q3 : bt (parC (rowC 2) f.d f.r f.t f.imm) 3 = b 3 := by
      rw [parC_bt (row_ok (k := 2) (by decide))]
      show or1 (or1 (or1 (or1 (bt 49152 3) (bt (putP 0 f.d) 3)) (bt (putP 5 f.r) 3)) (bt (putP 6 f.t) 3)) (bt (sputC 4 f.imm) 3) = _
      rw [bput_0 f.d _ (by decide), bput_5 f.r _ (by decide), bput_6 f.t _ (by decide), sputC_bt, sput8 _ hU, show bt 49152 3 = 0 by decide]
      simp [pbP, spr, spr4, sprOf, or1_0, or1_1, or1_bb, bt_m32, er0, er1, er2, et0, et1, et2, eimm2, eimm3, eimm4, eimm5, eimm6, z2, z3, z4, z5, z6, z7, z8, z9, z10, z11, z12]
    have q4 : bt (parC (rowC 2) f.d f.r f.t f.imm) 4 = b 4 := by
      rw [parC_bt (row_ok (k := 2) (by decide))]
      show or1 (or1 (or1 (or1 (bt 49152 4) (bt (putP 0 f.d) 4)) (bt (putP 5 f.r) 4)) (bt (putP 6 f.t) 4)) (bt (sputC 4 f.imm) 4) = _
      rw [bput_0 f.d _ (by decide), bput_5 f.r _ (by decide), bput_6 f.t _ (by decide), sputC_bt, sput8 _ hU, show bt 49152 4 = 0 by decide]
      simp [pbP, spr, spr4, sprOf, or1_0, or1_1, or1_bb, bt_m32, er0, er1, er2, et0, et1, et2, eimm2, eimm3, eimm4, eimm5, eimm6, z2, z3, z4, z5, z6, z7, z8, z9, z10, z11, z12]
    have q5 : bt (parC (rowC 2) f.d f.r f.t f.imm) 5 = b 5 := by
      rw [parC_bt (row_ok (k := 2) (by decide))]
      show or1 (or1 (or1 (or1 (bt 49152 5) (bt (putP 0 f.d) 5)) (bt (putP 5 f.r) 5)) (bt (putP 6 f.t) 5)) (bt (sputC 4 f.imm) 5) = _
      rw [bput_0 f.d _ (by decide), bput_5 f.r _ (by decide), bput_6 f.t _ (by decide), sputC_bt, sput8 _ hU, show bt 49152 5 = 0 by decide]
      simp [pbP, spr, spr4, sprOf, or1_0, or1_1, or1_bb, bt_m32, er0, er1, er2, et0, et1, et2, eimm2, eimm3, eimm4, eimm5, eimm6, z2, z3, z4, z5, z6, z7, z8, z9, z10, z11, z12]
    have q6 : bt (parC (rowC 2) f.d f.r f.t f.imm) 6 = b 6 := by
      rw [parC_bt (row_ok (k := 2) (by decide))]
      show or1 (or1 (or1 (or1 (bt 49152 6) (bt (putP 0 f.d) 6)) (bt (putP 5 f.r) 6)) (bt (putP 6 f.t) 6)) (bt (sputC 4 f.imm) 6) = _
      rw [bput_0 f.d _ (by decide), bput_5 f.r _ (by decide), bput_6 f.t _ (by decide), sputC_bt, sput8 _ hU, show bt 49152 6 = 0 by decide]
      simp [pbP, spr, spr4, sprOf, or1_0, or1_1, or1_bb, bt_m32, er0, er1, er2, et0, et1, et2, eimm2, eimm3, eimm4, eimm5, eimm6, z2, z3, z4, z5, z6, z7, z8, z9, z10, z11, z12]
    have q7 : bt (parC (rowC 2) f.d f.r f.t f.imm) 7 = b 7 := by
      rw [parC_bt (row_ok (k := 2) (by decide))]
      show or1 (or1 (or1 (or1 (bt 49152 7) (bt (putP 0 f.d) 7)) (bt (putP 5 f.r) 7)) (bt (putP 6 f.t) 7)) (bt (sputC 4 f.imm) 7) = _
      rw [bput_0 f.d _ (by decide), bput_5 f.r _ (by decide), bput_6 f.t _ (by decide), sputC_bt, sput8 _ hU, show bt 49152 7 = 0 by decide]
      simp [pbP, spr, spr4, sprOf, or1_0, or1_1, or1_bb, bt_m32, er0, er1, er2, et0, et1, et2, eimm2, eimm3, eimm4, eimm5, eimm6, z2, z3, z4, z5, z6, z7, z8, z9, z10, z11, z12]
    have q8 : bt (parC (rowC 2) f.d f.r f.t f.imm) 8 = b 8 := by
      rw [parC_bt (row_ok (k := 2) (by decide))]
      show or1 (or1 (or1 (or1 (bt 49152 8) (bt (putP 0 f.d) 8)) (bt (putP 5 f.r) 8)) (bt (putP 6 f.t) 8)) (bt (sputC 4 f.imm) 8) = _
      rw [bput_0 f.d _ (by decide), bput_5 f.r _ (by decide), bput_6 f.t _ (by decide), sputC_bt, sput8 _ hU, show bt 49152 8 = 0 by decide]
      simp [pbP, spr, spr4, sprOf, or1_0, or1_1, or1_bb, bt_m32, er0, er1, er2, et0, et1, et2, eimm2, eimm3, eimm4, eimm5, eimm6, z2, z3, z4, z5, z6, z7, z8, z9, z10, z11, z12]
    have q9 : bt (parC (rowC 2) f.d f.r f.t f.imm) 9 = b 9 := by
      rw [parC_bt (row_ok (k := 2) (by decide))]
      show or1 (or1 (or1 (or1 (bt 49152 9) (bt (putP 0 f.d) 9)) (bt (putP 5 f.r) 9)) (bt (putP 6 f.t) 9)) (bt (sputC 4 f.imm) 9) = _
      rw [bput_0 f.d _ (by decide), bput_5 f.r _ (by decide), bput_6 f.t _ (by decide), sputC_bt, sput8 _ hU, show bt 49152 9 = 0 by decide]
      simp [pbP, spr, spr4, sprOf, or1_0, or1_1, or1_bb, bt_m32, er0, er1, er2, et0, et1, et2, eimm2, eimm3, eimm4, eimm5, eimm6, z2, z3, z4, z5, z6, z7, z8, z9, z10, z11, z12]
    have q10 : bt (parC (rowC 2) f.d f.r f.t f.imm) 10 = b 10 := by
      rw [parC_bt (row_ok (k := 2) (by decide))]
      show or1 (or1 (or1 (or1 (bt 49152 10) (bt (putP 0 f.d) 10)) (bt (putP 5 f.r) 10)) (bt (putP 6 f.t) 10)) (bt (sputC 4 f.imm) 10) = _
      rw [bput_0 f.d _ (by decide), bput_5 f.r _ (by decide), bput_6 f.t _ (by decide), sputC_bt, sput8 _ hU, show bt 49152 10 = 0 by decide]
      simp [pbP, spr, spr4, sprOf, or1_0, or1_1, or1_bb, bt_m32, er0, er1, er2, et0, et1, et2, eimm2, eimm3, eimm4, eimm5, eimm6, z2, z3, z4, z5, z6, z7, z8, z9, z10, z11, z12]
    have q11 : bt (parC (rowC 2) f.d f.r f.t f.imm) 11 = b 11 := by
      rw [parC_bt (row_ok (k := 2) (by decide))]
      show or1 (or1 (or1 (or1 (bt 49152 11) (bt (putP 0 f.d) 11)) (bt (putP 5 f.r) 11)) (bt (putP 6 f.t) 11)) (bt (sputC 4 f.imm) 11) = _
      rw [bput_0 f.d _ (by decide), bput_5 f.r _ (by decide), bput_6 f.t _ (by decide), sputC_bt, sput8 _ hU, show bt 49152 11 = 0 by decide]
      simp [pbP, spr, spr4, sprOf, or1_0, or1_1, or1_bb, bt_m32, er0, er1, er2, et0, et1, et2, eimm2, eimm3, eimm4, eimm5, eimm6, z2, z3, z4, z5, z6, z7, z8, z9, z10, z11, z12]
    have q12 : bt (parC (rowC 2) f.d f.r f.t f.imm) 12 = b 12 := by
      rw [parC_bt (row_ok (k := 2) (by decide))]
      show or1 (or1 (or1 (or1 (bt 49152 12) (bt (putP 0 f.d) 12)) (bt (putP 5 f.r) 12)) (bt (putP 6 f.t) 12)) (bt (sputC 4 f.imm) 12) = _
      rw [bput_0 f.d _ (by decide), bput_5 f.r _ (by decide), bput_6 f.t _ (by decide), sputC_bt, sput8 _ hU, show bt 49152 12 = 0 by decide]
      simp [pbP, spr, spr4, sprOf, or1_0, or1_1, or1_bb, bt_m32, er0, er1, er2, et0, et1, et2, eimm2, eimm3, eimm4, eimm5, eimm6, z2, z3, z4, z5, z6, z7, z8, z9, z10, z11, z12]
    have q13 : bt (parC (rowC 2) f.d f.r f.t f.imm) 13 = 0 := by
      rw [parC_bt (row_ok (k := 2) (by decide))]
      show or1 (or1 (or1 (or1 (bt 49152 13) (bt (putP 0 f.d) 13)) (bt (putP 5 f.r) 13)) (bt (putP 6 f.t) 13)) (bt (sputC 4 f.imm) 13) = _
      rw [bput_0 f.d _ (by decide), bput_5 f.r _ (by decide), bput_6 f.t _ (by decide), sputC_bt, sput8 _ hU, show bt 49152 13 = 0 by decide]
      simp [pbP, spr, spr4, sprOf, or1_0, or1_1, or1_bb, bt_m32, er0, er1, er2, et0, et1, et2, eimm2, eimm3, eimm4, eimm5, eimm6, z2, z3, z4, z5, z6, z7, z8, z9, z10, z11, z12]
    have q14 : bt (parC (rowC 2) f.d f.r f.t f.imm) 14 = 1 := by
      rw [parC_bt (row_ok (k := 2) (by decide))]
      show or1 (or1 (or1 (or1 (bt 49152 14) (bt (putP 0 f.d) 14)) (bt (putP 5 f.r) 14)) (bt (putP 6 f.t) 14)) (bt (sputC 4 f.imm) 14) = _
      rw [bput_0 f.d _ (by decide), bput_5 f.r _ (by decide), bput_6 f.t _ (by decide), sputC_bt, sput8 _ hU, show bt 49152 14 = 1 by decide]
      simp [pbP, spr, spr4, sprOf, or1_0, or1_1, or1_bb, bt_m32, er0, er1, er2, et0, et1, et2, eimm2, eimm3, eimm4, eimm5, eimm6, z2, z3, z4, z5, z6, z7, z8, z9, z10, z11, z12]
    have q15 : bt (parC (rowC 2) f.d f.r f.t f.imm) 15 = 1 := by
      rw [parC_bt (row_ok (k := 2) (by decide))]
      show or1 (or1 (or1 (or1 (bt 49152 15) (bt (putP 0 f.d) 15)) (bt (putP 5 f.r) 15)) (bt (putP 6 f.t) 15)) (bt (sputC 4 f.imm) 15) = _
      rw [bput_0 f.d _ (by decide), bput_5 f.r _ (by decide), bput_6 f.t _ (by decide), sputC_bt, sput8 _ hU, show bt 49152 15 = 1 by decide]
      simp [pbP, spr, spr4, sprOf, or1_0, or1_1, or1_bb, bt_m32, er0, er1, er2, et0, et1, et2, eimm2, eimm3, eimm4, eimm5, eimm6, z2, z3, z4, z5, z6, z7, z8, z9, z10, z11, z12]
    rw [q0, q1, q2, q3, q4, q5, q6, q7, q8, q9, q10, q11, q12, q13, q14, q15] at hsp
    omega
theorem backC_3 (p : Int) (f : Flds) (h0 : 0 ≤ p) (h1 : p < 65536) (h : instS (shortR 3) p = some f) : parC (rowC 3) f.d f.r f.t f.imm = p := by
  have hs := sum16 p h0 h1
  have hb := bt_bd p
  unfold instS at h
  rw [rd_rdB] at h
  generalize bt p = b at h hs hb
  simp [shortR, shortL, rdB, miss, rstep, badS, makeS, fieldS, eightS, cnt, immS2, immS1, hi, hiTo, hasB] at h
  split at h
  · cases h
  rename_i g hg
  simp only [Option.ite_none_right_eq_some, Option.some.injEq] at hg
  obtain ⟨c0, c1, c2, c3, c4, hg⟩ := hg
  have gd : g.d = 1 * b 7 + 2 * b 8 + 4 * b 9 + 8 * b 10 + 16 * b 11 := by subst hg; simp [pw] <;> omega
  have gr : g.r = 0 := by subst hg; simp [pw] <;> omega
  have gt : g.t = 0 := by subst hg; simp [pw] <;> omega
  have gimm : g.imm = 1 * b 2 + 2 * b 3 + 4 * b 4 + 8 * b 5 + 16 * b 6 + 32 * b 12 := by subst hg; simp [pw] <;> omega
  clear hg
  have B2 := hb 2
  have B3 := hb 3
  have B4 := hb 4
  have B5 := hb 5
  have B6 := hb 6
  have B7 := hb 7
  have B8 := hb 8
  have B9 := hb 9
  have B10 := hb 10
  have B11 := hb 11
  have B12 := hb 12
  clear hb
  have it : bt g.imm 5 = b 12 := by exact bt_at (A := 1 * b 2 + 2 * b 3 + 4 * b 4 + 8 * b 5 + 16 * b 6) (C := 0) 5 (by decide) (by decide : pw 5 = 32) (by omega) (by omega) (by omega) B12
  have hsg : sgn g.imm 5 = g.imm - 64 * b 12 := by rw [sgn_lin, it]; simp [pw]
  repeat' split at h
  all_goals first | (cases h; done) | skip
  all_goals
    have h := Option.some.inj h
    have hd := congrArg Flds.d h
    have hr := congrArg Flds.r h
    have ht := congrArg Flds.t h
    have hm := congrArg Flds.imm h
    clear h
    dsimp only at hd hr ht hm
    have ed0 : bt f.d 0 = b 7 := bt_at (A := 0) (C := 1 * b 8 + 2 * b 9 + 4 * b 10 + 8 * b 11) 0 (by decide) (by decide : pw 0 = 1) (by omega) (by omega) (by omega) B7
    have ed1 : bt f.d 1 = b 8 := bt_at (A := 1 * b 7) (C := 1 * b 9 + 2 * b 10 + 4 * b 11) 1 (by decide) (by decide : pw 1 = 2) (by omega) (by omega) (by omega) B8
    have ed2 : bt f.d 2 = b 9 := bt_at (A := 1 * b 7 + 2 * b 8) (C := 1 * b 10 + 2 * b 11) 2 (by decide) (by decide : pw 2 = 4) (by omega) (by omega) (by omega) B9
    have ed3 : bt f.d 3 = b 10 := bt_at (A := 1 * b 7 + 2 * b 8 + 4 * b 9) (C := 1 * b 11) 3 (by decide) (by decide : pw 3 = 8) (by omega) (by omega) (by omega) B10
    have ed4 : bt f.d 4 = b 11 := bt_at (A := 1 * b 7 + 2 * b 8 + 4 * b 9 + 8 * b 10) (C := 0) 4 (by decide) (by decide : pw 4 = 16) (by omega) (by omega) (by omega) B11
    have eimm0 : bt f.imm 0 = b 2 := bt_at (A := 0) (C := 1 * b 3 + 2 * b 4 + 4 * b 5 + 8 * b 6 + 16 * b 12 + -32 * b 12) 0 (by decide) (by decide : pw 0 = 1) (by omega) (by omega) (by omega) B2
    have eimm1 : bt f.imm 1 = b 3 := bt_at (A := 1 * b 2) (C := 1 * b 4 + 2 * b 5 + 4 * b 6 + 8 * b 12 + -16 * b 12) 1 (by decide) (by decide : pw 1 = 2) (by omega) (by omega) (by omega) B3
    have eimm2 : bt f.imm 2 = b 4 := bt_at (A := 1 * b 2 + 2 * b 3) (C := 1 * b 5 + 2 * b 6 + 4 * b 12 + -8 * b 12) 2 (by decide) (by decide : pw 2 = 4) (by omega) (by omega) (by omega) B4
    have eimm3 : bt f.imm 3 = b 5 := bt_at (A := 1 * b 2 + 2 * b 3 + 4 * b 4) (C := 1 * b 6 + 2 * b 12 + -4 * b 12) 3 (by decide) (by decide : pw 3 = 8) (by omega) (by omega) (by omega) B5
    have eimm4 : bt f.imm 4 = b 6 := bt_at (A := 1 * b 2 + 2 * b 3 + 4 * b 4 + 8 * b 5) (C := 1 * b 12 + -2 * b 12) 4 (by decide) (by decide : pw 4 = 16) (by omega) (by omega) (by omega) B6
    have eimm5 : bt f.imm 5 = b 12 := bt_at (A := 1 * b 2 + 2 * b 3 + 4 * b 4 + 8 * b 5 + 16 * b 6) (C := -1 * b 12) 5 (by decide) (by decide : pw 5 = 32) (by omega) (by omega) (by omega) B12
    have hu := parC_u16 (row_ok (k := 3) (by decide)) f.d f.r f.t f.imm
    have hsp := sum16 _ hu.1 hu.2
    have hU : U32 (f.imm % 4294967296) := ⟨by omega, by omega⟩
    have hrd : f.r = f.d := by omega
    have z2 : or1 (b 2) 0 = b 2 := or1_b0 B2
    have z3 : or1 (b 3) 0 = b 3 := or1_b0 B3
    have z4 : or1 (b 4) 0 = b 4 := or1_b0 B4
    have z5 : or1 (b 5) 0 = b 5 := or1_b0 B5
    have z6 : or1 (b 6) 0 = b 6 := or1_b0 B6
    have z7 : or1 (b 7) 0 = b 7 := or1_b0 B7
    have z8 : or1 (b 8) 0 = b 8 := or1_b0 B8
    have z9 : or1 (b 9) 0 = b 9 := or1_b0 B9
    have z10 : or1 (b 10) 0 = b 10 := or1_b0 B10
    have z11 : or1 (b 11) 0 = b 11 := or1_b0 B11
    have z12 : or1 (b 12) 0 = b 12 := or1_b0 B12
    have q0 : bt (parC (rowC 3) f.d f.r f.t f.imm) 0 = 1 := by
      rw [parC_bt (row_ok (k := 3) (by decide))]
      show or1 (or1 (or1 (or1 (bt 1 0) (bt (putP 3 f.d) 0)) (bt (putP 3 f.r) 0)) (bt (putP 0 f.t) 0)) (bt (sputC 2 f.imm) 0) = _
      rw [bput_3 f.d _ (by decide), bput_3 f.r _ (by decide), bput_0 f.t _ (by decide), sputC_bt, sput8 _ hU, show bt 1 0 = 1 by decide]
      simp [pbP, spr, spr2, sprOf, or1_0, or1_1, or1_bb, bt_m32, hrd, ed0, ed1, ed2, ed3, ed4, eimm0, eimm1, eimm2, eimm3, eimm4, eimm5, z2, z3, z4, z5, z6, z7, z8, z9, z10, z11, z12]
    have q1 : bt (parC (rowC 3) f.d f.r f.t f.imm) 1 = 0 := by
      rw [parC_bt (row_ok (k := 3) (by decide))]
      show or1 (or1 (or1 (or1 (bt 1 1) (bt (putP 3 f.d) 1)) (bt (putP 3 f.r) 1)) (bt (putP 0 f.t) 1)) (bt (sputC 2 f.imm) 1) = _
      rw [bput_3 f.d _ (by decide), bput_3 f.r _ (by decide), bput_0 f.t _ (by decide), sputC_bt, sput8 _ hU, show bt 1 1 = 0 by decide]
      simp [pbP, spr, spr2, sprOf, or1_0, or1_1, or1_bb, bt_m32, hrd, ed0, ed1, ed2, ed3, ed4, eimm0, eimm1, eimm2, eimm3, eimm4, eimm5, z2, z3, z4, z5, z6, z7, z8, z9, z10, z11, z12]
    have q2 : bt (parC (rowC 3) f.d f.r f.t f.imm) 2 = b 2 := by
      rw [parC_bt (row_ok (k := 3) (by decide))]
      show or1 (or1 (or1 (or1 (bt 1 2) (bt (putP 3 f.d) 2)) (bt (putP 3 f.r) 2)) (bt (putP 0 f.t) 2)) (bt (sputC 2 f.imm) 2) = _
      rw [bput_3 f.d _ (by decide), bput_3 f.r _ (by decide), bput_0 f.t _ (by decide), sputC_bt, sput8 _ hU, show bt 1 2 = 0 by decide]
      simp [pbP, spr, spr2, sprOf, or1_0, or1_1, or1_bb, bt_m32, hrd, ed0, ed1, ed2, ed3, ed4, eimm0, eimm1, eimm2, eimm3, eimm4, eimm5, z2, z3, z4, z5, z6, z7, z8, z9, z10, z11, z12]
    have q3 : bt (parC (rowC 3) f.d f.r f.t f.imm) 3 = b 3 := by
      rw [parC_bt (row_ok (k := 3) (by decide))]
      show or1 (or1 (or1 (or1 (bt 1 3) (bt (putP 3 f.d) 3)) (bt (putP 3 f.r) 3)) (bt (putP 0 f.t) 3)) (bt (sputC 2 f.imm) 3) = _
      rw [bput_3 f.d _ (by decide), bput_3 f.r _ (by decide), bput_0 f.t _ (by decide), sputC_bt, sput8 _ hU, show bt 1 3 = 0 by decide]
      simp [pbP, spr, spr2, sprOf, or1_0, or1_1, or1_bb, bt_m32, hrd, ed0, ed1, ed2, ed3, ed4, eimm0, eimm1, eimm2, eimm3, eimm4, eimm5, z2, z3, z4, z5, z6, z7, z8, z9, z10, z11, z12]
    have q4 : bt (parC (rowC 3) f.d f.r f.t f.imm) 4 = b 4 := by
      rw [parC_bt (row_ok (k := 3) (by decide))]
      show or1 (or1 (or1 (or1 (bt 1 4) (bt (putP 3 f.d) 4)) (bt (putP 3 f.r) 4)) (bt (putP 0 f.t) 4)) (bt (sputC 2 f.imm) 4) = _
      rw [bput_3 f.d _ (by decide), bput_3 f.r _ (by decide), bput_0 f.t _ (by decide), sputC_bt, sput8 _ hU, show bt 1 4 = 0 by decide]
      simp [pbP, spr, spr2, sprOf, or1_0, or1_1, or1_bb, bt_m32, hrd, ed0, ed1, ed2, ed3, ed4, eimm0, eimm1, eimm2, eimm3, eimm4, eimm5, z2, z3, z4, z5, z6, z7, z8, z9, z10, z11, z12]
    have q5 : bt (parC (rowC 3) f.d f.r f.t f.imm) 5 = b 5 := by
      rw [parC_bt (row_ok (k := 3) (by decide))]
      show or1 (or1 (or1 (or1 (bt 1 5) (bt (putP 3 f.d) 5)) (bt (putP 3 f.r) 5)) (bt (putP 0 f.t) 5)) (bt (sputC 2 f.imm) 5) = _
      rw [bput_3 f.d _ (by decide), bput_3 f.r _ (by decide), bput_0 f.t _ (by decide), sputC_bt, sput8 _ hU, show bt 1 5 = 0 by decide]
      simp [pbP, spr, spr2, sprOf, or1_0, or1_1, or1_bb, bt_m32, hrd, ed0, ed1, ed2, ed3, ed4, eimm0, eimm1, eimm2, eimm3, eimm4, eimm5, z2, z3, z4, z5, z6, z7, z8, z9, z10, z11, z12]
    have q6 : bt (parC (rowC 3) f.d f.r f.t f.imm) 6 = b 6 := by
      rw [parC_bt (row_ok (k := 3) (by decide))]
      show or1 (or1 (or1 (or1 (bt 1 6) (bt (putP 3 f.d) 6)) (bt (putP 3 f.r) 6)) (bt (putP 0 f.t) 6)) (bt (sputC 2 f.imm) 6) = _
      rw [bput_3 f.d _ (by decide), bput_3 f.r _ (by decide), bput_0 f.t _ (by decide), sputC_bt, sput8 _ hU, show bt 1 6 = 0 by decide]
      simp [pbP, spr, spr2, sprOf, or1_0, or1_1, or1_bb, bt_m32, hrd, ed0, ed1, ed2, ed3, ed4, eimm0, eimm1, eimm2, eimm3, eimm4, eimm5, z2, z3, z4, z5, z6, z7, z8, z9, z10, z11, z12]
    have q7 : bt (parC (rowC 3) f.d f.r f.t f.imm) 7 = b 7 := by
      rw [parC_bt (row_ok (k := 3) (by decide))]
      show or1 (or1 (or1 (or1 (bt 1 7) (bt (putP 3 f.d) 7)) (bt (putP 3 f.r) 7)) (bt (putP 0 f.t) 7)) (bt (sputC 2 f.imm) 7) = _
      rw [bput_3 f.d _ (by decide), bput_3 f.r _ (by decide), bput_0 f.t _ (by decide), sputC_bt, sput8 _ hU, show bt 1 7 = 0 by decide]
      simp [pbP, spr, spr2, sprOf, or1_0, or1_1, or1_bb, bt_m32, hrd, ed0, ed1, ed2, ed3, ed4, eimm0, eimm1, eimm2, eimm3, eimm4, eimm5, z2, z3, z4, z5, z6, z7, z8, z9, z10, z11, z12]
    have q8 : bt (parC (rowC 3) f.d f.r f.t f.imm) 8 = b 8 := by
      rw [parC_bt (row_ok (k := 3) (by decide))]
      show or1 (or1 (or1 (or1 (bt 1 8) (bt (putP 3 f.d) 8)) (bt (putP 3 f.r) 8)) (bt (putP 0 f.t) 8)) (bt (sputC 2 f.imm) 8) = _
      rw [bput_3 f.d _ (by decide), bput_3 f.r _ (by decide), bput_0 f.t _ (by decide), sputC_bt, sput8 _ hU, show bt 1 8 = 0 by decide]
      simp [pbP, spr, spr2, sprOf, or1_0, or1_1, or1_bb, bt_m32, hrd, ed0, ed1, ed2, ed3, ed4, eimm0, eimm1, eimm2, eimm3, eimm4, eimm5, z2, z3, z4, z5, z6, z7, z8, z9, z10, z11, z12]
    have q9 : bt (parC (rowC 3) f.d f.r f.t f.imm) 9 = b 9 := by
      rw [parC_bt (row_ok (k := 3) (by decide))]
      show or1 (or1 (or1 (or1 (bt 1 9) (bt (putP 3 f.d) 9)) (bt (putP 3 f.r) 9)) (bt (putP 0 f.t) 9)) (bt (sputC 2 f.imm) 9) = _
      rw [bput_3 f.d _ (by decide), bput_3 f.r _ (by decide), bput_0 f.t _ (by decide), sputC_bt, sput8 _ hU, show bt 1 9 = 0 by decide]
      simp [pbP, spr, spr2, sprOf, or1_0, or1_1, or1_bb, bt_m32, hrd, ed0, ed1, ed2, ed3, ed4, eimm0, eimm1, eimm2, eimm3, eimm4, eimm5, z2, z3, z4, z5, z6, z7, z8, z9, z10, z11, z12]
    have q10 : bt (parC (rowC 3) f.d f.r f.t f.imm) 10 = b 10 := by
      rw [parC_bt (row_ok (k := 3) (by decide))]
      show or1 (or1 (or1 (or1 (bt 1 10) (bt (putP 3 f.d) 10)) (bt (putP 3 f.r) 10)) (bt (putP 0 f.t) 10)) (bt (sputC 2 f.imm) 10) = _
      rw [bput_3 f.d _ (by decide), bput_3 f.r _ (by decide), bput_0 f.t _ (by decide), sputC_bt, sput8 _ hU, show bt 1 10 = 0 by decide]
      simp [pbP, spr, spr2, sprOf, or1_0, or1_1, or1_bb, bt_m32, hrd, ed0, ed1, ed2, ed3, ed4, eimm0, eimm1, eimm2, eimm3, eimm4, eimm5, z2, z3, z4, z5, z6, z7, z8, z9, z10, z11, z12]
    have q11 : bt (parC (rowC 3) f.d f.r f.t f.imm) 11 = b 11 := by
      rw [parC_bt (row_ok (k := 3) (by decide))]
      show or1 (or1 (or1 (or1 (bt 1 11) (bt (putP 3 f.d) 11)) (bt (putP 3 f.r) 11)) (bt (putP 0 f.t) 11)) (bt (sputC 2 f.imm) 11) = _
      rw [bput_3 f.d _ (by decide), bput_3 f.r _ (by decide), bput_0 f.t _ (by decide), sputC_bt, sput8 _ hU, show bt 1 11 = 0 by decide]
      simp [pbP, spr, spr2, sprOf, or1_0, or1_1, or1_bb, bt_m32, hrd, ed0, ed1, ed2, ed3, ed4, eimm0, eimm1, eimm2, eimm3, eimm4, eimm5, z2, z3, z4, z5, z6, z7, z8, z9, z10, z11, z12]
    have q12 : bt (parC (rowC 3) f.d f.r f.t f.imm) 12 = b 12 := by
      rw [parC_bt (row_ok (k := 3) (by decide))]
      show or1 (or1 (or1 (or1 (bt 1 12) (bt (putP 3 f.d) 12)) (bt (putP 3 f.r) 12)) (bt (putP 0 f.t) 12)) (bt (sputC 2 f.imm) 12) = _
      rw [bput_3 f.d _ (by decide), bput_3 f.r _ (by decide), bput_0 f.t _ (by decide), sputC_bt, sput8 _ hU, show bt 1 12 = 0 by decide]
      simp [pbP, spr, spr2, sprOf, or1_0, or1_1, or1_bb, bt_m32, hrd, ed0, ed1, ed2, ed3, ed4, eimm0, eimm1, eimm2, eimm3, eimm4, eimm5, z2, z3, z4, z5, z6, z7, z8, z9, z10, z11, z12]
    have q13 : bt (parC (rowC 3) f.d f.r f.t f.imm) 13 = 0 := by
      rw [parC_bt (row_ok (k := 3) (by decide))]
      show or1 (or1 (or1 (or1 (bt 1 13) (bt (putP 3 f.d) 13)) (bt (putP 3 f.r) 13)) (bt (putP 0 f.t) 13)) (bt (sputC 2 f.imm) 13) = _
      rw [bput_3 f.d _ (by decide), bput_3 f.r _ (by decide), bput_0 f.t _ (by decide), sputC_bt, sput8 _ hU, show bt 1 13 = 0 by decide]
      simp [pbP, spr, spr2, sprOf, or1_0, or1_1, or1_bb, bt_m32, hrd, ed0, ed1, ed2, ed3, ed4, eimm0, eimm1, eimm2, eimm3, eimm4, eimm5, z2, z3, z4, z5, z6, z7, z8, z9, z10, z11, z12]
    have q14 : bt (parC (rowC 3) f.d f.r f.t f.imm) 14 = 0 := by
      rw [parC_bt (row_ok (k := 3) (by decide))]
      show or1 (or1 (or1 (or1 (bt 1 14) (bt (putP 3 f.d) 14)) (bt (putP 3 f.r) 14)) (bt (putP 0 f.t) 14)) (bt (sputC 2 f.imm) 14) = _
      rw [bput_3 f.d _ (by decide), bput_3 f.r _ (by decide), bput_0 f.t _ (by decide), sputC_bt, sput8 _ hU, show bt 1 14 = 0 by decide]
      simp [pbP, spr, spr2, sprOf, or1_0, or1_1, or1_bb, bt_m32, hrd, ed0, ed1, ed2, ed3, ed4, eimm0, eimm1, eimm2, eimm3, eimm4, eimm5, z2, z3, z4, z5, z6, z7, z8, z9, z10, z11, z12]
    have q15 : bt (parC (rowC 3) f.d f.r f.t f.imm) 15 = 0 := by
      rw [parC_bt (row_ok (k := 3) (by decide))]
      show or1 (or1 (or1 (or1 (bt 1 15) (bt (putP 3 f.d) 15)) (bt (putP 3 f.r) 15)) (bt (putP 0 f.t) 15)) (bt (sputC 2 f.imm) 15) = _
      rw [bput_3 f.d _ (by decide), bput_3 f.r _ (by decide), bput_0 f.t _ (by decide), sputC_bt, sput8 _ hU, show bt 1 15 = 0 by decide]
      simp [pbP, spr, spr2, sprOf, or1_0, or1_1, or1_bb, bt_m32, hrd, ed0, ed1, ed2, ed3, ed4, eimm0, eimm1, eimm2, eimm3, eimm4, eimm5, z2, z3, z4, z5, z6, z7, z8, z9, z10, z11, z12]
    rw [q0, q1, q2, q3, q4, q5, q6, q7, q8, q9, q10, q11, q12, q13, q14, q15] at hsp
    omega
theorem backC_4 (p : Int) (f : Flds) (h0 : 0 ≤ p) (h1 : p < 65536) (h : instS (shortR 4) p = some f) : parC (rowC 4) f.d f.r f.t f.imm = p := by
  have hs := sum16 p h0 h1
  have hb := bt_bd p
  unfold instS at h
  rw [rd_rdB] at h
  generalize bt p = b at h hs hb
  simp [shortR, shortL, rdB, miss, rstep, badS, makeS, fieldS, eightS, cnt, immS2, immS1, hi, hiTo, hasB] at h
  split at h
  · cases h
  rename_i g hg
  simp only [Option.ite_none_right_eq_some, Option.some.injEq] at hg
  obtain ⟨c0, c1, c2, c3, c4, hg⟩ := hg
  have gd : g.d = 0 := by subst hg; simp [pw] <;> omega
  have gr : g.r = 0 := by subst hg; simp [pw] <;> omega
  have gt : g.t = 0 := by subst hg; simp [pw] <;> omega
  have gimm : g.imm = 2 * b 3 + 4 * b 4 + 8 * b 5 + 16 * b 11 + 32 * b 2 + 64 * b 7 + 128 * b 6 + 256 * b 9 + 512 * b 10 + 1024 * b 8 + 2048 * b 12 := by subst hg; simp [pw] <;> omega
  clear hg
  have B2 := hb 2
  have B3 := hb 3
  have B4 := hb 4
  have B5 := hb 5
  have B6 := hb 6
  have B7 := hb 7
  have B8 := hb 8
  have B9 := hb 9
  have B10 := hb 10
  have B11 := hb 11
  have B12 := hb 12
  clear hb
  have it : bt g.imm 11 = b 12 := by exact bt_at (A := 2 * b 3 + 4 * b 4 + 8 * b 5 + 16 * b 11 + 32 * b 2 + 64 * b 7 + 128 * b 6 + 256 * b 9 + 512 * b 10 + 1024 * b 8) (C := 0) 11 (by decide) (by decide : pw 11 = 2048) (by omega) (by omega) (by omega) B12
  have hsg : sgn g.imm 11 = g.imm - 4096 * b 12 := by rw [sgn_lin, it]; simp [pw]
  repeat' split at h
  all_goals first | (cases h; done) | skip
  all_goals
    have h := Option.some.inj h
    have hd := congrArg Flds.d h
    have hr := congrArg Flds.r h
    have ht := congrArg Flds.t h
    have hm := congrArg Flds.imm h
    clear h
    dsimp only at hd hr ht hm
    have eimm1 : bt f.imm 1 = b 3 := bt_at (A := 0) (C := 1 * b 4 + 2 * b 5 + 4 * b 11 + 8 * b 2 + 16 * b 7 + 32 * b 6 + 64 * b 9 + 128 * b 10 + 256 * b 8 + 512 * b 12 + -1024 * b 12) 1 (by decide) (by decide : pw 1 = 2) (by omega) (by omega) (by omega) B3
    have eimm2 : bt f.imm 2 = b 4 := bt_at (A := 2 * b 3) (C := 1 * b 5 + 2 * b 11 + 4 * b 2 + 8 * b 7 + 16 * b 6 + 32 * b 9 + 64 * b 10 + 128 * b 8 + 256 * b 12 + -512 * b 12) 2 (by decide) (by decide : pw 2 = 4) (by omega) (by omega) (by omega) B4
    have eimm3 : bt f.imm 3 = b 5 := bt_at (A := 2 * b 3 + 4 * b 4) (C := 1 * b 11 + 2 * b 2 + 4 * b 7 + 8 * b 6 + 16 * b 9 + 32 * b 10 + 64 * b 8 + 128 * b 12 + -256 * b 12) 3 (by decide) (by decide : pw 3 = 8) (by omega) (by omega) (by omega) B5
    have eimm4 : bt f.imm 4 = b 11 := bt_at (A := 2 * b 3 + 4 * b 4 + 8 * b 5) (C := 1 * b 2 + 2 * b 7 + 4 * b 6 + 8 * b 9 + 16 * b 10 + 32 * b 8 + 64 * b 12 + -128 * b 12) 4 (by decide) (by decide : pw 4 = 16) (by omega) (by omega) (by omega) B11
    have eimm5 : bt f.imm 5 = b 2 := bt_at (A := 2 * b 3 + 4 * b 4 + 8 * b 5 + 16 * b 11) (C := 1 * b 7 + 2 * b 6 + 4 * b 9 + 8 * b 10 + 16 * b 8 + 32 * b 12 + -64 * b 12) 5 (by decide) (by decide : pw 5 = 32) (by omega) (by omega) (by omega) B2
    have eimm6 : bt f.imm 6 = b 7 := bt_at (A := 2 * b 3 + 4 * b 4 + 8 * b 5 + 16 * b 11 + 32 * b 2) (C := 1 * b 6 + 2 * b 9 + 4 * b 10 + 8 * b 8 + 16 * b 12 + -32 * b 12) 6 (by decide) (by decide : pw 6 = 64) (by omega) (by omega) (by omega) B7
    have eimm7 : bt f.imm 7 = b 6 := bt_at (A := 2 * b 3 + 4 * b 4 + 8 * b 5 + 16 * b 11 + 32 * b 2 + 64 * b 7) (C := 1 * b 9 + 2 * b 10 + 4 * b 8 + 8 * b 12 + -16 * b 12) 7 (by decide) (by decide : pw 7 = 128) (by omega) (by omega) (by omega) B6
    have eimm8 : bt f.imm 8 = b 9 := bt_at (A := 2 * b 3 + 4 * b 4 + 8 * b 5 + 16 * b 11 + 32 * b 2 + 64 * b 7 + 128 * b 6) (C := 1 * b 10 + 2 * b 8 + 4 * b 12 + -8 * b 12) 8 (by decide) (by decide : pw 8 = 256) (by omega) (by omega) (by omega) B9
    have eimm9 : bt f.imm 9 = b 10 := bt_at (A := 2 * b 3 + 4 * b 4 + 8 * b 5 + 16 * b 11 + 32 * b 2 + 64 * b 7 + 128 * b 6 + 256 * b 9) (C := 1 * b 8 + 2 * b 12 + -4 * b 12) 9 (by decide) (by decide : pw 9 = 512) (by omega) (by omega) (by omega) B10
    have eimm10 : bt f.imm 10 = b 8 := bt_at (A := 2 * b 3 + 4 * b 4 + 8 * b 5 + 16 * b 11 + 32 * b 2 + 64 * b 7 + 128 * b 6 + 256 * b 9 + 512 * b 10) (C := 1 * b 12 + -2 * b 12) 10 (by decide) (by decide : pw 10 = 1024) (by omega) (by omega) (by omega) B8
    have eimm11 : bt f.imm 11 = b 12 := bt_at (A := 2 * b 3 + 4 * b 4 + 8 * b 5 + 16 * b 11 + 32 * b 2 + 64 * b 7 + 128 * b 6 + 256 * b 9 + 512 * b 10 + 1024 * b 8) (C := -1 * b 12) 11 (by decide) (by decide : pw 11 = 2048) (by omega) (by omega) (by omega) B12
    have hu := parC_u16 (row_ok (k := 4) (by decide)) f.d f.r f.t f.imm
    have hsp := sum16 _ hu.1 hu.2
    have hU : U32 (f.imm % 4294967296) := ⟨by omega, by omega⟩
    have z2 : or1 (b 2) 0 = b 2 := or1_b0 B2
    have z3 : or1 (b 3) 0 = b 3 := or1_b0 B3
    have z4 : or1 (b 4) 0 = b 4 := or1_b0 B4
    have z5 : or1 (b 5) 0 = b 5 := or1_b0 B5
    have z6 : or1 (b 6) 0 = b 6 := or1_b0 B6
    have z7 : or1 (b 7) 0 = b 7 := or1_b0 B7
    have z8 : or1 (b 8) 0 = b 8 := or1_b0 B8
    have z9 : or1 (b 9) 0 = b 9 := or1_b0 B9
    have z10 : or1 (b 10) 0 = b 10 := or1_b0 B10
    have z11 : or1 (b 11) 0 = b 11 := or1_b0 B11
    have z12 : or1 (b 12) 0 = b 12 := or1_b0 B12
    have q0 : bt (parC (rowC 4) f.d f.r f.t f.imm) 0 = 1 := by
      rw [parC_bt (row_ok (k := 4) (by decide))]
      show or1 (or1 (or1 (or1 (bt 8193 0) (bt (putP 1 f.d) 0)) (bt (putP 0 f.r) 0)) (bt (putP 0 f.t) 0)) (bt (sputC 9 f.imm) 0) = _
      rw [bput_1 f.d _ (by decide), bput_0 f.r _ (by decide), bput_0 f.t _ (by decide), sputC_bt, sput8 _ hU, show bt 8193 0 = 1 by decide]
      simp [pbP, spr, spr9, sprOf, or1_0, or1_1, or1_bb, bt_m32, eimm1, eimm2, eimm3, eimm4, eimm5, eimm6, eimm7, eimm8, eimm9, eimm10, eimm11, z2, z3, z4, z5, z6, z7, z8, z9, z10, z11, z12]
    have q1 : bt (parC (rowC 4) f.d f.r f.t f.imm) 1 = 0 := by
      rw [parC_bt (row_ok (k := 4) (by decide))]
      show or1 (or1 (or1 (or1 (bt 8193 1) (bt (putP 1 f.d) 1)) (bt (putP 0 f.r) 1)) (bt (putP 0 f.t) 1)) (bt (sputC 9 f.imm) 1) = _
      rw [bput_1 f.d _ (by decide), bput_0 f.r _ (by decide), bput_0 f.t _ (by decide), sputC_bt, sput8 _ hU, show bt 8193 1 = 0 by decide]
      simp [pbP, spr, spr9, sprOf, or1_0, or1_1, or1_bb, bt_m32, eimm1, eimm2, eimm3, eimm4, eimm5, eimm6, eimm7, eimm8, eimm9, eimm10, eimm11, z2, z3, z4, z5, z6, z7, z8, z9, z10, z11, z12]
    have q2 : bt (parC (rowC 4) f.d f.r f.t f.imm) 2 = b 2 := by
      rw [parC_bt (row_ok (k := 4) (by decide))]
      show or1 (or1 (or1 (or1 (bt 8193 2) (bt (putP 1 f.d) 2)) (bt (putP 0 f.r) 2)) (bt (putP 0 f.t) 2)) (bt (sputC 9 f.imm) 2) = _
      rw [bput_1 f.d _ (by decide), bput_0 f.r _ (by decide), bput_0 f.t _ (by decide), sputC_bt, sput8 _ hU, show bt 8193 2 = 0 by decide]
      simp [pbP, spr, spr9, sprOf, or1_0, or1_1, or1_bb, bt_m32, eimm1, eimm2, eimm3, eimm4, eimm5, eimm6, eimm7, eimm8, eimm9, eimm10, eimm11, z2, z3, z4, z5, z6, z7, z8, z9, z10, z11, z12]
    have q3 : bt (parC (rowC 4) f.d f.r f.t f.imm) 3 = b 3 := by
      rw [parC_bt (row_ok (k := 4) (by decide))]
      show or1 (or1 (or1 (or1 (bt 8193 3) (bt (putP 1 f.d) 3)) (bt (putP 0 f.r) 3)) (bt (putP 0 f.t) 3)) (bt (sputC 9 f.imm) 3) = _
      rw [bput_1 f.d _ (by decide), bput_0 f.r _ (by decide), bput_0 f.t _ (by decide), sputC_bt, sput8 _ hU, show bt 8193 3 = 0 by decide]
      simp [pbP, spr, spr9, sprOf, or1_0, or1_1, or1_bb, bt_m32, eimm1, eimm2, eimm3, eimm4, eimm5, eimm6, eimm7, eimm8, eimm9, eimm10, eimm11, z2, z3, z4, z5, z6, z7, z8, z9, z10, z11, z12]
    have q4 : bt (parC (rowC 4) f.d f.r f.t f.imm) 4 = b 4 := by
      rw [parC_bt (row_ok (k := 4) (by decide))]
      show or1 (or1 (or1 (or1 (bt 8193 4) (bt (putP 1 f.d) 4)) (bt (putP 0 f.r) 4)) (bt (putP 0 f.t) 4)) (bt (sputC 9 f.imm) 4) = _
      rw [bput_1 f.d _ (by decide), bput_0 f.r _ (by decide), bput_0 f.t _ (by decide), sputC_bt, sput8 _ hU, show bt 8193 4 = 0 by decide]
      simp [pbP, spr, spr9, sprOf, or1_0, or1_1, or1_bb, bt_m32, eimm1, eimm2, eimm3, eimm4, eimm5, eimm6, eimm7, eimm8, eimm9, eimm10, eimm11, z2, z3, z4, z5, z6, z7, z8, z9, z10, z11, z12]
    have q5 : bt (parC (rowC 4) f.d f.r f.t f.imm) 5 = b 5 := by
      rw [parC_bt (row_ok (k := 4) (by decide))]
      show or1 (or1 (or1 (or1 (bt 8193 5) (bt (putP 1 f.d) 5)) (bt (putP 0 f.r) 5)) (bt (putP 0 f.t) 5)) (bt (sputC 9 f.imm) 5) = _
      rw [bput_1 f.d _ (by decide), bput_0 f.r _ (by decide), bput_0 f.t _ (by decide), sputC_bt, sput8 _ hU, show bt 8193 5 = 0 by decide]
      simp [pbP, spr, spr9, sprOf, or1_0, or1_1, or1_bb, bt_m32, eimm1, eimm2, eimm3, eimm4, eimm5, eimm6, eimm7, eimm8, eimm9, eimm10, eimm11, z2, z3, z4, z5, z6, z7, z8, z9, z10, z11, z12]
    have q6 : bt (parC (rowC 4) f.d f.r f.t f.imm) 6 = b 6 := by
      rw [parC_bt (row_ok (k := 4) (by decide))]
      show or1 (or1 (or1 (or1 (bt 8193 6) (bt (putP 1 f.d) 6)) (bt (putP 0 f.r) 6)) (bt (putP 0 f.t) 6)) (bt (sputC 9 f.imm) 6) = _
      rw [bput_1 f.d _ (by decide), bput_0 f.r _ (by decide), bput_0 f.t _ (by decide), sputC_bt, sput8 _ hU, show bt 8193 6 = 0 by decide]
      simp [pbP, spr, spr9, sprOf, or1_0, or1_1, or1_bb, bt_m32, eimm1, eimm2, eimm3, eimm4, eimm5, eimm6, eimm7, eimm8, eimm9, eimm10, eimm11, z2, z3, z4, z5, z6, z7, z8, z9, z10, z11, z12]
    have q7 : bt (parC (rowC 4) f.d f.r f.t f.imm) 7 = b 7 := by
      rw [parC_bt (row_ok (k := 4) (by decide))]
      show or1 (or1 (or1 (or1 (bt 8193 7) (bt (putP 1 f.d) 7)) (bt (putP 0 f.r) 7)) (bt (putP 0 f.t) 7)) (bt (sputC 9 f.imm) 7) = _
      rw [bput_1 f.d _ (by decide), bput_0 f.r _ (by decide), bput_0 f.t _ (by decide), sputC_bt, sput8 _ hU, show bt 8193 7 = 0 by decide]
      simp [pbP, spr, spr9, sprOf, or1_0, or1_1, or1_bb, bt_m32, eimm1, eimm2, eimm3, eimm4, eimm5, eimm6, eimm7, eimm8, eimm9, eimm10, eimm11, z2, z3, z4, z5, z6, z7, z8, z9, z10, z11, z12]
    have q8 : bt (parC (rowC 4) f.d f.r f.t f.imm) 8 = b 8 := by
      rw [parC_bt (row_ok (k := 4) (by decide))]
      show or1 (or1 (or1 (or1 (bt 8193 8) (bt (putP 1 f.d) 8)) (bt (putP 0 f.r) 8)) (bt (putP 0 f.t) 8)) (bt (sputC 9 f.imm) 8) = _
      rw [bput_1 f.d _ (by decide), bput_0 f.r _ (by decide), bput_0 f.t _ (by decide), sputC_bt, sput8 _ hU, show bt 8193 8 = 0 by decide]
      simp [pbP, spr, spr9, sprOf, or1_0, or1_1, or1_bb, bt_m32, eimm1, eimm2, eimm3, eimm4, eimm5, eimm6, eimm7, eimm8, eimm9, eimm10, eimm11, z2, z3, z4, z5, z6, z7, z8, z9, z10, z11, z12]
    have q9 : bt (parC (rowC 4) f.d f.r f.t f.imm) 9 = b 9 := by
      rw [parC_bt (row_ok (k := 4) (by decide))]
      show or1 (or1 (or1 (or1 (bt 8193 9) (bt (putP 1 f.d) 9)) (bt (putP 0 f.r) 9)) (bt (putP 0 f.t) 9)) (bt (sputC 9 f.imm) 9) = _
      rw [bput_1 f.d _ (by decide), bput_0 f.r _ (by decide), bput_0 f.t _ (by decide), sputC_bt, sput8 _ hU, show bt 8193 9 = 0 by decide]
      simp [pbP, spr, spr9, sprOf, or1_0, or1_1, or1_bb, bt_m32, eimm1, eimm2, eimm3, eimm4, eimm5, eimm6, eimm7, eimm8, eimm9, eimm10, eimm11, z2, z3, z4, z5, z6, z7, z8, z9, z10, z11, z12]
    have q10 : bt (parC (rowC 4) f.d f.r f.t f.imm) 10 = b 10 := by
      rw [parC_bt (row_ok (k := 4) (by decide))]
      show or1 (or1 (or1 (or1 (bt 8193 10) (bt (putP 1 f.d) 10)) (bt (putP 0 f.r) 10)) (bt (putP 0 f.t) 10)) (bt (sputC 9 f.imm) 10) = _
      rw [bput_1 f.d _ (by decide), bput_0 f.r _ (by decide), bput_0 f.t _ (by decide), sputC_bt, sput8 _ hU, show bt 8193 10 = 0 by decide]
      simp [pbP, spr, spr9, sprOf, or1_0, or1_1, or1_bb, bt_m32, eimm1, eimm2, eimm3, eimm4, eimm5, eimm6, eimm7, eimm8, eimm9, eimm10, eimm11, z2, z3, z4, z5, z6, z7, z8, z9, z10, z11, z12]
    have q11 : bt (parC (rowC 4) f.d f.r f.t f.imm) 11 = b 11 := by
      rw [parC_bt (row_ok (k := 4) (by decide))]
      show or1 (or1 (or1 (or1 (bt 8193 11) (bt (putP 1 f.d) 11)) (bt (putP 0 f.r) 11)) (bt (putP 0 f.t) 11)) (bt (sputC 9 f.imm) 11) = _
      rw [bput_1 f.d _ (by decide), bput_0 f.r _ (by decide), bput_0 f.t _ (by decide), sputC_bt, sput8 _ hU, show bt 8193 11 = 0 by decide]
      simp [pbP, spr, spr9, sprOf, or1_0, or1_1, or1_bb, bt_m32, eimm1, eimm2, eimm3, eimm4, eimm5, eimm6, eimm7, eimm8, eimm9, eimm10, eimm11, z2, z3, z4, z5, z6, z7, z8, z9, z10, z11, z12]
    have q12 : bt (parC (rowC 4) f.d f.r f.t f.imm) 12 = b 12 := by
      rw [parC_bt (row_ok (k := 4) (by decide))]
      show or1 (or1 (or1 (or1 (bt 8193 12) (bt (putP 1 f.d) 12)) (bt (putP 0 f.r) 12)) (bt (putP 0 f.t) 12)) (bt (sputC 9 f.imm) 12) = _
      rw [bput_1 f.d _ (by decide), bput_0 f.r _ (by decide), bput_0 f.t _ (by decide), sputC_bt, sput8 _ hU, show bt 8193 12 = 0 by decide]
      simp [pbP, spr, spr9, sprOf, or1_0, or1_1, or1_bb, bt_m32, eimm1, eimm2, eimm3, eimm4, eimm5, eimm6, eimm7, eimm8, eimm9, eimm10, eimm11, z2, z3, z4, z5, z6, z7, z8, z9, z10, z11, z12]
    have q13 : bt (parC (rowC 4) f.d f.r f.t f.imm) 13 = 1 := by
      rw [parC_bt (row_ok (k := 4) (by decide))]
      show or1 (or1 (or1 (or1 (bt 8193 13) (bt (putP 1 f.d) 13)) (bt (putP 0 f.r) 13)) (bt (putP 0 f.t) 13)) (bt (sputC 9 f.imm) 13) = _
      rw [bput_1 f.d _ (by decide), bput_0 f.r _ (by decide), bput_0 f.t _ (by decide), sputC_bt, sput8 _ hU, show bt 8193 13 = 1 by decide]
      simp [pbP, spr, spr9, sprOf, or1_0, or1_1, or1_bb, bt_m32, eimm1, eimm2, eimm3, eimm4, eimm5, eimm6, eimm7, eimm8, eimm9, eimm10, eimm11, z2, z3, z4, z5, z6, z7, z8, z9, z10, z11, z12]
    have q14 : bt (parC (rowC 4) f.d f.r f.t f.imm) 14 = 0 := by
      rw [parC_bt (row_ok (k := 4) (by decide))]
      show or1 (or1 (or1 (or1 (bt 8193 14) (bt (putP 1 f.d) 14)) (bt (putP 0 f.r) 14)) (bt (putP 0 f.t) 14)) (bt (sputC 9 f.imm) 14) = _
      rw [bput_1 f.d _ (by decide), bput_0 f.r _ (by decide), bput_0 f.t _ (by decide), sputC_bt, sput8 _ hU, show bt 8193 14 = 0 by decide]
      simp [pbP, spr, spr9, sprOf, or1_0, or1_1, or1_bb, bt_m32, eimm1, eimm2, eimm3, eimm4, eimm5, eimm6, eimm7, eimm8, eimm9, eimm10, eimm11, z2, z3, z4, z5, z6, z7, z8, z9, z10, z11, z12]
    have q15 : bt (parC (rowC 4) f.d f.r f.t f.imm) 15 = 0 := by
      rw [parC_bt (row_ok (k := 4) (by decide))]
      show or1 (or1 (or1 (or1 (bt 8193 15) (bt (putP 1 f.d) 15)) (bt (putP 0 f.r) 15)) (bt (putP 0 f.t) 15)) (bt (sputC 9 f.imm) 15) = _
      rw [bput_1 f.d _ (by decide), bput_0 f.r _ (by decide), bput_0 f.t _ (by decide), sputC_bt, sput8 _ hU, show bt 8193 15 = 0 by decide]
      simp [pbP, spr, spr9, sprOf, or1_0, or1_1, or1_bb, bt_m32, eimm1, eimm2, eimm3, eimm4, eimm5, eimm6, eimm7, eimm8, eimm9, eimm10, eimm11, z2, z3, z4, z5, z6, z7, z8, z9, z10, z11, z12]
    rw [q0, q1, q2, q3, q4, q5, q6, q7, q8, q9, q10, q11, q12, q13, q14, q15] at hsp
    omega
theorem backC_5 (p : Int) (f : Flds) (h0 : 0 ≤ p) (h1 : p < 65536) (h : instS (shortR 5) p = some f) : parC (rowC 5) f.d f.r f.t f.imm = p := by
  have hs := sum16 p h0 h1
  have hb := bt_bd p
  unfold instS at h
  rw [rd_rdB] at h
  generalize bt p = b at h hs hb
  simp [shortR, shortL, rdB, miss, rstep, badS, makeS, fieldS, eightS, cnt, immS2, immS1, hi, hiTo, hasB] at h
  split at h
  · cases h
  rename_i g hg
  simp only [Option.ite_none_right_eq_some, Option.some.injEq] at hg
  obtain ⟨c0, c1, c2, c3, c4, hg⟩ := hg
  have gd : g.d = 1 * b 7 + 2 * b 8 + 4 * b 9 + 8 * b 10 + 16 * b 11 := by subst hg; simp [pw] <;> omega
  have gr : g.r = 0 := by subst hg; simp [pw] <;> omega
  have gt : g.t = 0 := by subst hg; simp [pw] <;> omega
  have gimm : g.imm = 1 * b 2 + 2 * b 3 + 4 * b 4 + 8 * b 5 + 16 * b 6 + 32 * b 12 := by subst hg; simp [pw] <;> omega
  clear hg
  have B2 := hb 2
  have B3 := hb 3
  have B4 := hb 4
  have B5 := hb 5
  have B6 := hb 6
  have B7 := hb 7
  have B8 := hb 8
  have B9 := hb 9
  have B10 := hb 10
  have B11 := hb 11
  have B12 := hb 12
  clear hb
  have it : bt g.imm 5 = b 12 := by exact bt_at (A := 1 * b 2 + 2 * b 3 + 4 * b 4 + 8 * b 5 + 16 * b 6) (C := 0) 5 (by decide) (by decide : pw 5 = 32) (by omega) (by omega) (by omega) B12
  have hsg : sgn g.imm 5 = g.imm - 64 * b 12 := by rw [sgn_lin, it]; simp [pw]
  repeat' split at h
  all_goals first | (cases h; done) | skip
  all_goals
    have h := Option.some.inj h
    have hd := congrArg Flds.d h
    have hr := congrArg Flds.r h
    have ht := congrArg Flds.t h
    have hm := congrArg Flds.imm h
    clear h
    dsimp only at hd hr ht hm
    have ed0 : bt f.d 0 = b 7 := bt_at (A := 0) (C := 1 * b 8 + 2 * b 9 + 4 * b 10 + 8 * b 11) 0 (by decide) (by decide : pw 0 = 1) (by omega) (by omega) (by omega) B7
    have ed1 : bt f.d 1 = b 8 := bt_at (A := 1 * b 7) (C := 1 * b 9 + 2 * b 10 + 4 * b 11) 1 (by decide) (by decide : pw 1 = 2) (by omega) (by omega) (by omega) B8
    have ed2 : bt f.d 2 = b 9 := bt_at (A := 1 * b 7 + 2 * b 8) (C := 1 * b 10 + 2 * b 11) 2 (by decide) (by decide : pw 2 = 4) (by omega) (by omega) (by omega) B9
    have ed3 : bt f.d 3 = b 10 := bt_at (A := 1 * b 7 + 2 * b 8 + 4 * b 9) (C := 1 * b 11) 3 (by decide) (by decide : pw 3 = 8) (by omega) (by omega) (by omega) B10
    have ed4 : bt f.d 4 = b 11 := bt_at (A := 1 * b 7 + 2 * b 8 + 4 * b 9 + 8 * b 10) (C := 0) 4 (by decide) (by decide : pw 4 = 16) (by omega) (by omega) (by omega) B11
    have eimm0 : bt f.imm 0 = b 2 := bt_at (A := 0) (C := 1 * b 3 + 2 * b 4 + 4 * b 5 + 8 * b 6 + 16 * b 12 + -32 * b 12) 0 (by decide) (by decide : pw 0 = 1) (by omega) (by omega) (by omega) B2
    have eimm1 : bt f.imm 1 = b 3 := bt_at (A := 1 * b 2) (C := 1 * b 4 + 2 * b 5 + 4 * b 6 + 8 * b 12 + -16 * b 12) 1 (by decide) (by decide : pw 1 = 2) (by omega) (by omega) (by omega) B3
    have eimm2 : bt f.imm 2 = b 4 := bt_at (A := 1 * b 2 + 2 * b 3) (C := 1 * b 5 + 2 * b 6 + 4 * b 12 + -8 * b 12) 2 (by decide) (by decide : pw 2 = 4) (by omega) (by omega) (by omega) B4
    have eimm3 : bt f.imm 3 = b 5 := bt_at (A := 1 * b 2 + 2 * b 3 + 4 * b 4) (C := 1 * b 6 + 2 * b 12 + -4 * b 12) 3 (by decide) (by decide : pw 3 = 8) (by omega) (by omega) (by omega) B5
    have eimm4 : bt f.imm 4 = b 6 := bt_at (A := 1 * b 2 + 2 * b 3 + 4 * b 4 + 8 * b 5) (C := 1 * b 12 + -2 * b 12) 4 (by decide) (by decide : pw 4 = 16) (by omega) (by omega) (by omega) B6
    have eimm5 : bt f.imm 5 = b 12 := bt_at (A := 1 * b 2 + 2 * b 3 + 4 * b 4 + 8 * b 5 + 16 * b 6) (C := -1 * b 12) 5 (by decide) (by decide : pw 5 = 32) (by omega) (by omega) (by omega) B12
    have hu := parC_u16 (row_ok (k := 5) (by decide)) f.d f.r f.t f.imm
    have hsp := sum16 _ hu.1 hu.2
    have hU : U32 (f.imm % 4294967296) := ⟨by omega, by omega⟩
    have z2 : or1 (b 2) 0 = b 2 := or1_b0 B2
    have z3 : or1 (b 3) 0 = b 3 := or1_b0 B3
    have z4 : or1 (b 4) 0 = b 4 := or1_b0 B4
    have z5 : or1 (b 5) 0 = b 5 := or1_b0 B5
    have z6 : or1 (b 6) 0 = b 6 := or1_b0 B6
    have z7 : or1 (b 7) 0 = b 7 := or1_b0 B7
    have z8 : or1 (b 8) 0 = b 8 := or1_b0 B8
    have z9 : or1 (b 9) 0 = b 9 := or1_b0 B9
    have z10 : or1 (b 10) 0 = b 10 := or1_b0 B10
    have z11 : or1 (b 11) 0 = b 11 := or1_b0 B11
    have z12 : or1 (b 12) 0 = b 12 := or1_b0 B12
    have q0 : bt (parC (rowC 5) f.d f.r f.t f.imm) 0 = 1 := by
      rw [parC_bt (row_ok (k := 5) (by decide))]
      show or1 (or1 (or1 (or1 (bt 16385 0) (bt (putP 3 f.d) 0)) (bt (putP 0 f.r) 0)) (bt (putP 0 f.t) 0)) (bt (sputC 2 f.imm) 0) = _
      rw [bput_3 f.d _ (by decide), bput_0 f.r _ (by decide), bput_0 f.t _ (by decide), sputC_bt, sput8 _ hU, show bt 16385 0 = 1 by decide]
      simp [pbP, spr, spr2, sprOf, or1_0, or1_1, or1_bb, bt_m32, ed0, ed1, ed2, ed3, ed4, eimm0, eimm1, eimm2, eimm3, eimm4, eimm5, z2, z3, z4, z5, z6, z7, z8, z9, z10, z11, z12]
    have q1 : bt (parC (rowC 5) f.d f.r f.t f.imm) 1 = 0 := by
      rw [parC_bt (row_ok (k := 5) (by decide))]
      show or1 (or1 (or1 (or1 (bt 16385 1) (bt (putP 3 f.d) 1)) (bt (putP 0 f.r) 1)) (bt (putP 0 f.t) 1)) (bt (sputC 2 f.imm) 1) = _
      rw [bput_3 f.d _ (by decide), bput_0 f.r _ (by decide), bput_0 f.t _ (by decide), sputC_bt, sput8 _ hU, show bt 16385 1 = 0 by decide]
      simp [pbP, spr, spr2, sprOf, or1_0, or1_1, or1_bb, bt_m32, ed0, ed1, ed2, ed3, ed4, eimm0, eimm1, eimm2, eimm3, eimm4, eimm5, z2, z3, z4, z5, z6, z7, z8, z9, z10, z11, z12]
    have q2 : bt (parC (rowC 5) f.d f.r f.t f.imm) 2 = b 2 := by
      rw [parC_bt (row_ok (k := 5) (by decide))]
      show or1 (or1 (or1 (or1 (bt 16385 2) (bt (putP 3 f.d) 2)) (bt (putP 0 f.r) 2)) (bt (putP 0 f.t) 2)) (bt (sputC 2 f.imm) 2) = _
      rw [bput_3 f.d _ (by decide), bput_0 f.r _ (by decide), bput_0 f.t _ (by decide), sputC_bt, sput8 _ hU, show bt 16385 2 = 0 by decide]
      simp [pbP, spr, spr2, sprOf, or1_0, or1_1, or1_bb, bt_m32, ed0, ed1, ed2, ed3, ed4, eimm0, eimm1, eimm2, eimm3, eimm4, eimm5, z2, z3, z4, z5, z6, z7, z8, z9, z10, z11, z12]
    have q3 : bt (parC (rowC 5) f.d f.r f.t f.imm) 3 = b 3 := by
      rw [parC_bt (row_ok (k := 5) (by decide))]
      show or1 (or1 (or1 (or1 (bt 16385 3) (bt (putP 3 f.d) 3)) (bt (putP 0 f.r) 3)) (bt (putP 0 f.t) 3)) (bt (sputC 2 f.imm) 3) = _
      rw [bput_3 f.d _ (by decide), bput_0 f.r _ (by decide), bput_0 f.t _ (by decide), sputC_bt, sput8 _ hU, show bt 16385 3 = 0 by decide]
      simp [pbP, spr, spr2, sprOf, or1_0, or1_1, or1_bb, bt_m32, ed0, ed1, ed2, ed3, ed4, eimm0, eimm1, eimm2, eimm3, eimm4, eimm5, z2, z3, z4, z5, z6, z7, z8, z9, z10, z11, z12]
    have q4 : bt (parC (rowC 5) f.d f.r f.t f.imm) 4 = b 4 := by
      rw [parC_bt (row_ok (k := 5) (by decide))]
      show or1 (or1 (or1 (or1 (bt 16385 4) (bt (putP 3 f.d) 4)) (bt (putP 0 f.r) 4)) (bt (putP 0 f.t) 4)) (bt (sputC 2 f.imm) 4) = _
      rw [bput_3 f.d _ (by decide), bput_0 f.r _ (by decide), bput_0 f.t _ (by decide), sputC_bt, sput8 _ hU, show bt 16385 4 = 0 by decide]
      simp [pbP, spr, spr2, sprOf, or1_0, or1_1, or1_bb, bt_m32, ed0, ed1, ed2, ed3, ed4, eimm0, eimm1, eimm2, eimm3, eimm4, eimm5, z2, z3, z4, z5, z6, z7, z8, z9, z10, z11, z12]
    have q5 : bt (parC (rowC 5) f.d f.r f.t f.imm) 5 = b 5 := by
      rw [parC_bt (row_ok (k := 5) (by decide))]
      show or1 (or1 (or1 (or1 (bt 16385 5) (bt (putP 3 f.d) 5)) (bt (putP 0 f.r) 5)) (bt (putP 0 f.t) 5)) (bt (sputC 2 f.imm) 5) = _
      rw [bput_3 f.d _ (by decide), bput_0 f.r _ (by decide), bput_0 f.t _ (by decide), sputC_bt, sput8 _ hU, show bt 16385 5 = 0 by decide]
      simp [pbP, spr, spr2, sprOf, or1_0, or1_1, or1_bb, bt_m32, ed0, ed1, ed2, ed3, ed4, eimm0, eimm1, eimm2, eimm3, eimm4, eimm5, z2, z3, z4, z5, z6, z7, z8, z9, z10, z11, z12]
    have q6 : bt (parC (rowC 5) f.d f.r f.t f.imm) 6 = b 6 := by
      rw [parC_bt (row_ok (k := 5) (by decide))]
      show or1 (or1 (or1 (or1 (bt 16385 6) (bt (putP 3 f.d) 6)) (bt (putP 0 f.r) 6)) (bt (putP 0 f.t) 6)) (bt (sputC 2 f.imm) 6) = _
      rw [bput_3 f.d _ (by decide), bput_0 f.r _ (by decide), bput_0 f.t _ (by decide), sputC_bt, sput8 _ hU, show bt 16385 6 = 0 by decide]
      simp [pbP, spr, spr2, sprOf, or1_0, or1_1, or1_bb, bt_m32, ed0, ed1, ed2, ed3, ed4, eimm0, eimm1, eimm2, eimm3, eimm4, eimm5, z2, z3, z4, z5, z6, z7, z8, z9, z10, z11, z12]
    have q7 : bt (parC (rowC 5) f.d f.r f.t f.imm) 7 = b 7 := by
      rw [parC_bt (row_ok (k := 5) (by decide))]
      show or1 (or1 (or1 (or1 (bt 16385 7) (bt (putP 3 f.d) 7)) (bt (putP 0 f.r) 7)) (bt (putP 0 f.t) 7)) (bt (sputC 2 f.imm) 7) = _
      rw [bput_3 f.d _ (by decide), bput_0 f.r _ (by decide), bput_0 f.t _ (by decide), sputC_bt, sput8 _ hU, show bt 16385 7 = 0 by decide]
      simp [pbP, spr, spr2, sprOf, or1_0, or1_1, or1_bb, bt_m32, ed0, ed1, ed2, ed3, ed4, eimm0, eimm1, eimm2, eimm3, eimm4, eimm5, z2, z3, z4, z5, z6, z7, z8, z9, z10, z11, z12]
    have q8 : bt (parC (rowC 5) f.d f.r f.t f.imm) 8 = b 8 := by
      rw [parC_bt (row_ok (k := 5) (by decide))]
      show or1 (or1 (or1 (or1 (bt 16385 8) (bt (putP 3 f.d) 8)) (bt (putP 0 f.r) 8)) (bt (putP 0 f.t) 8)) (bt (sputC 2 f.imm) 8) = _
      rw [bput_3 f.d _ (by decide), bput_0 f.r _ (by decide), bput_0 f.t _ (by decide), sputC_bt, sput8 _ hU, show bt 16385 8 = 0 by decide]
      simp [pbP, spr, spr2, sprOf, or1_0, or1_1, or1_bb, bt_m32, ed0, ed1, ed2, ed3, ed4, eimm0, eimm1, eimm2, eimm3, eimm4, eimm5, z2, z3, z4, z5, z6, z7, z8, z9, z10, z11, z12]
    have q9 : bt (parC (rowC 5) f.d f.r f.t f.imm) 9 = b 9 := by
      rw [parC_bt (row_ok (k := 5) (by decide))]
      show or1 (or1 (or1 (or1 (bt 16385 9) (bt (putP 3 f.d) 9)) (bt (putP 0 f.r) 9)) (bt (putP 0 f.t) 9)) (bt (sputC 2 f.imm) 9) = _
      rw [bput_3 f.d _ (by decide), bput_0 f.r _ (by decide), bput_0 f.t _ (by decide), sputC_bt, sput8 _ hU, show bt 16385 9 = 0 by decide]
      simp [pbP, spr, spr2, sprOf, or1_0, or1_1, or1_bb, bt_m32, ed0, ed1, ed2, ed3, ed4, eimm0, eimm1, eimm2, eimm3, eimm4, eimm5, z2, z3, z4, z5, z6, z7, z8, z9, z10, z11, z12]
    have q10 : bt (parC (rowC 5) f.d f.r f.t f.imm) 10 = b 10 := by
      rw [parC_bt (row_ok (k := 5) (by decide))]
      show or1 (or1 (or1 (or1 (bt 16385 10) (bt (putP 3 f.d) 10)) (bt (putP 0 f.r) 10)) (bt (putP 0 f.t) 10)) (bt (sputC 2 f.imm) 10) = _
      rw [bput_3 f.d _ (by decide), bput_0 f.r _ (by decide), bput_0 f.t _ (by decide), sputC_bt, sput8 _ hU, show bt 16385 10 = 0 by decide]
      simp [pbP, spr, spr2, sprOf, or1_0, or1_1, or1_bb, bt_m32, ed0, ed1, ed2, ed3, ed4, eimm0, eimm1, eimm2, eimm3, eimm4, eimm5, z2, z3, z4, z5, z6, z7, z8, z9, z10, z11, z12]
    have q11 : bt (parC (rowC 5) f.d f.r f.t f.imm) 11 = b 11 := by
      rw [parC_bt (row_ok (k := 5) (by decide))]
      show or1 (or1 (or1 (or1 (bt 16385 11) (bt (putP 3 f.d) 11)) (bt (putP 0 f.r) 11)) (bt (putP 0 f.t) 11)) (bt (sputC 2 f.imm) 11) = _
      rw [bput_3 f.d _ (by decide), bput_0 f.r _ (by decide), bput_0 f.t _ (by decide), sputC_bt, sput8 _ hU, show bt 16385 11 = 0 by decide]
      simp [pbP, spr, spr2, sprOf, or1_0, or1_1, or1_bb, bt_m32, ed0, ed1, ed2, ed3, ed4, eimm0, eimm1, eimm2, eimm3, eimm4, eimm5, z2, z3, z4, z5, z6, z7, z8, z9, z10, z11, z12]
    have q12 : bt (parC (rowC 5) f.d f.r f.t f.imm) 12 = b 12 := by
      rw [parC_bt (row_ok (k := 5) (by decide))]
      show or1 (or1 (or1 (or1 (bt 16385 12) (bt (putP 3 f.d) 12)) (bt (putP 0 f.r) 12)) (bt (putP 0 f.t) 12)) (bt (sputC 2 f.imm) 12) = _
      rw [bput_3 f.d _ (by decide), bput_0 f.r _ (by decide), bput_0 f.t _ (by decide), sputC_bt, sput8 _ hU, show bt 16385 12 = 0 by decide]
      simp [pbP, spr, spr2, sprOf, or1_0, or1_1, or1_bb, bt_m32, ed0, ed1, ed2, ed3, ed4, eimm0, eimm1, eimm2, eimm3, eimm4, eimm5, z2, z3, z4, z5, z6, z7, z8, z9, z10, z11, z12]
    have q13 : bt (parC (rowC 5) f.d f.r f.t f.imm) 13 = 0 := by
      rw [parC_bt (row_ok (k := 5) (by decide))]
      show or1 (or1 (or1 (or1 (bt 16385 13) (bt (putP 3 f.d) 13)) (bt (putP 0 f.r) 13)) (bt (putP 0 f.t) 13)) (bt (sputC 2 f.imm) 13) = _
      rw [bput_3 f.d _ (by decide), bput_0 f.r _ (by decide), bput_0 f.t _ (by decide), sputC_bt, sput8 _ hU, show bt 16385 13 = 0 by decide]
      simp [pbP, spr, spr2, sprOf, or1_0, or1_1, or1_bb, bt_m32, ed0, ed1, ed2, ed3, ed4, eimm0, eimm1, eimm2, eimm3, eimm4, eimm5, z2, z3, z4, z5, z6, z7, z8, z9, z10, z11, z12]
    have q14 : bt (parC (rowC 5) f.d f.r f.t f.imm) 14 = 1 := by
      rw [parC_bt (row_ok (k := 5) (by decide))]
      show or1 (or1 (or1 (or1 (bt 16385 14) (bt (putP 3 f.d) 14)) (bt (putP 0 f.r) 14)) (bt (putP 0 f.t) 14)) (bt (sputC 2 f.imm) 14) = _
      rw [bput_3 f.d _ (by decide), bput_0 f.r _ (by decide), bput_0 f.t _ (by decide), sputC_bt, sput8 _ hU, show bt 16385 14 = 1 by decide]
      simp [pbP, spr, spr2, sprOf, or1_0, or1_1, or1_bb, bt_m32, ed0, ed1, ed2, ed3, ed4, eimm0, eimm1, eimm2, eimm3, eimm4, eimm5, z2, z3, z4, z5, z6, z7, z8, z9, z10, z11, z12]
    have q15 : bt (parC (rowC 5) f.d f.r f.t f.imm) 15 = 0 := by
      rw [parC_bt (row_ok (k := 5) (by decide))]
      show or1 (or1 (or1 (or1 (bt 16385 15) (bt (putP 3 f.d) 15)) (bt (putP 0 f.r) 15)) (bt (putP 0 f.t) 15)) (bt (sputC 2 f.imm) 15) = _
      rw [bput_3 f.d _ (by decide), bput_0 f.r _ (by decide), bput_0 f.t _ (by decide), sputC_bt, sput8 _ hU, show bt 16385 15 = 0 by decide]
      simp [pbP, spr, spr2, sprOf, or1_0, or1_1, or1_bb, bt_m32, ed0, ed1, ed2, ed3, ed4, eimm0, eimm1, eimm2, eimm3, eimm4, eimm5, z2, z3, z4, z5, z6, z7, z8, z9, z10, z11, z12]
    rw [q0, q1, q2, q3, q4, q5, q6, q7, q8, q9, q10, q11, q12, q13, q14, q15] at hsp
    omega
theorem backC_6 (p : Int) (f : Flds) (h0 : 0 ≤ p) (h1 : p < 65536) (h : instS (shortR 6) p = some f) : parC (rowC 6) f.d f.r f.t f.imm = p := by
  have hs := sum16 p h0 h1
  have hb := bt_bd p
  unfold instS at h
  rw [rd_rdB] at h
  generalize bt p = b at h hs hb
  simp [shortR, shortL, rdB, miss, rstep, badS, makeS, fieldS, eightS, cnt, immS2, immS1, hi, hiTo, hasB] at h
  split at h
  · cases h
  rename_i g hg
  simp only [Option.ite_none_right_eq_some, Option.some.injEq] at hg
  obtain ⟨c0, c1, c2, c3, c4, c5, c6, c7, c8, c9, hg⟩ := hg
  have gd : g.d = 0 := by subst hg; simp [pw] <;> omega
  have gr : g.r = 0 := by subst hg; simp [pw] <;> omega
  have gt : g.t = 0 := by subst hg; simp [pw] <;> omega
  have gimm : g.imm = 16 * b 6 + 32 * b 2 + 64 * b 5 + 128 * b 3 + 256 * b 4 + 512 * b 12 := by subst hg; simp [pw] <;> omega
  clear hg
  have B2 := hb 2
  have B3 := hb 3
  have B4 := hb 4
  have B5 := hb 5
  have B6 := hb 6
  have B12 := hb 12
  clear hb
  have it : bt g.imm 9 = b 12 := by exact bt_at (A := 16 * b 6 + 32 * b 2 + 64 * b 5 + 128 * b 3 + 256 * b 4) (C := 0) 9 (by decide) (by decide : pw 9 = 512) (by omega) (by omega) (by omega) B12
  have hsg : sgn g.imm 9 = g.imm - 1024 * b 12 := by rw [sgn_lin, it]; simp [pw]
  repeat' split at h
  all_goals first | (cases h; done) | skip
  all_goals
    have h := Option.some.inj h
    have hd := congrArg Flds.d h
    have hr := congrArg Flds.r h
    have ht := congrArg Flds.t h
    have hm := congrArg Flds.imm h
    clear h
    dsimp only at hd hr ht hm
    have eimm4 : bt f.imm 4 = b 6 := bt_at (A := 0) (C := 1 * b 2 + 2 * b 5 + 4 * b 3 + 8 * b 4 + 16 * b 12 + -32 * b 12) 4 (by decide) (by decide : pw 4 = 16) (by omega) (by omega) (by omega) B6
    have eimm5 : bt f.imm 5 = b 2 := bt_at (A := 16 * b 6) (C := 1 * b 5 + 2 * b 3 + 4 * b 4 + 8 * b 12 + -16 * b 12) 5 (by decide) (by decide : pw 5 = 32) (by omega) (by omega) (by omega) B2
    have eimm6 : bt f.imm 6 = b 5 := bt_at (A := 16 * b 6 + 32 * b 2) (C := 1 * b 3 + 2 * b 4 + 4 * b 12 + -8 * b 12) 6 (by decide) (by decide : pw 6 = 64) (by omega) (by omega) (by omega) B5
    have eimm7 : bt f.imm 7 = b 3 := bt_at (A := 16 * b 6 + 32 * b 2 + 64 * b 5) (C := 1 * b 4 + 2 * b 12 + -4 * b 12) 7 (by decide) (by decide : pw 7 = 128) (by omega) (by omega) (by omega) B3
    have eimm8 : bt f.imm 8 = b 4 := bt_at (A := 16 * b 6 + 32 * b 2 + 64 * b 5 + 128 * b 3) (C := 1 * b 12 + -2 * b 12) 8 (by decide) (by decide : pw 8 = 256) (by omega) (by omega) (by omega) B4
    have eimm9 : bt f.imm 9 = b 12 := bt_at (A := 16 * b 6 + 32 * b 2 + 64 * b 5 + 128 * b 3 + 256 * b 4) (C := -1 * b 12) 9 (by decide) (by decide : pw 9 = 512) (by omega) (by omega) (by omega) B12
    have hu := parC_u16 (row_ok (k := 6) (by decide)) f.d f.r f.t f.imm
    have hsp := sum16 _ hu.1 hu.2
    have hU : U32 (f.imm % 4294967296) := ⟨by omega, by omega⟩
    have z2 : or1 (b 2) 0 = b 2 := or1_b0 B2
    have z3 : or1 (b 3) 0 = b 3 := or1_b0 B3
    have z4 : or1 (b 4) 0 = b 4 := or1_b0 B4
    have z5 : or1 (b 5) 0 = b 5 := or1_b0 B5
    have z6 : or1 (b 6) 0 = b 6 := or1_b0 B6
    have z12 : or1 (b 12) 0 = b 12 := or1_b0 B12
    have q0 : bt (parC (rowC 6) f.d f.r f.t f.imm) 0 = 1 := by
      rw [parC_bt (row_ok (k := 6) (by decide))]
      show or1 (or1 (or1 (or1 (bt 24833 0) (bt (putP 2 f.d) 0)) (bt (putP 2 f.r) 0)) (bt (putP 0 f.t) 0)) (bt (sputC 7 f.imm) 0) = _
      rw [bput_2 f.d _ (by decide), bput_2 f.r _ (by decide), bput_0 f.t _ (by decide), sputC_bt, sput8 _ hU, show bt 24833 0 = 1 by decide]
      simp [pbP, spr, spr7, sprOf, or1_0, or1_1, or1_bb, bt_m32, eimm4, eimm5, eimm6, eimm7, eimm8, eimm9, z2, z3, z4, z5, z6, z12]
    have q1 : bt (parC (rowC 6) f.d f.r f.t f.imm) 1 = 0 := by
      rw [parC_bt (row_ok (k := 6) (by decide))]
      show or1 (or1 (or1 (or1 (bt 24833 1) (bt (putP 2 f.d) 1)) (bt (putP 2 f.r) 1)) (bt (putP 0 f.t) 1)) (bt (sputC 7 f.imm) 1) = _
      rw [bput_2 f.d _ (by decide), bput_2 f.r _ (by decide), bput_0 f.t _ (by decide), sputC_bt, sput8 _ hU, show bt 24833 1 = 0 by decide]
      simp [pbP, spr, spr7, sprOf, or1_0, or1_1, or1_bb, bt_m32, eimm4, eimm5, eimm6, eimm7, eimm8, eimm9, z2, z3, z4, z5, z6, z12]
    have q2 : bt (parC (rowC 6) f.d f.r f.t f.imm) 2 = b 2 := by
      rw [parC_bt (row_ok (k := 6) (by decide))]
      show or1 (or1 (or1 (or1 (bt 24833 2) (bt (putP 2 f.d) 2)) (bt (putP 2 f.r) 2)) (bt (putP 0 f.t) 2)) (bt (sputC 7 f.imm) 2) = _
      rw [bput_2 f.d _ (by decide), bput_2 f.r _ (by decide), bput_0 f.t _ (by decide), sputC_bt, sput8 _ hU, show bt 24833 2 = 0 by decide]
      simp [pbP, spr, spr7, sprOf, or1_0, or1_1, or1_bb, bt_m32, eimm4, eimm5, eimm6, eimm7, eimm8, eimm9, z2, z3, z4, z5, z6, z12]
    have q3 : bt (parC (rowC 6) f.d f.r f.t f.imm) 3 = b 3 := by
      rw [parC_bt (row_ok (k := 6) (by decide))]
      show or1 (or1 (or1 (or1 (bt 24833 3) (bt (putP 2 f.d) 3)) (bt (putP 2 f.r) 3)) (bt (putP 0 f.t) 3)) (bt (sputC 7 f.imm) 3) = _
      rw [bput_2 f.d _ (by decide), bput_2 f.r _ (by decide), bput_0 f.t _ (by decide), sputC_bt, sput8 _ hU, show bt 24833 3 = 0 by decide]
      simp [pbP, spr, spr7, sprOf, or1_0, or1_1, or1_bb, bt_m32, eimm4, eimm5, eimm6, eimm7, eimm8, eimm9, z2, z3, z4, z5, z6, z12]
    have q4 : bt (parC (rowC 6) f.d f.r f.t f.imm) 4 = b 4 := by
      rw [parC_bt (row_ok (k := 6) (by decide))]
      show or1 (or1 (or1 (or1 (bt 24833 4) (bt (putP 2 f.d) 4)) (bt (putP 2 f.r) 4)) (bt (putP 0 f.t) 4)) (bt (sputC 7 f.imm) 4) = _
      rw [bput_2 f.d _ (by decide), bput_2 f.r _ (by decide), bput_0 f.t _ (by decide), sputC_bt, sput8 _ hU, show bt 24833 4 = 0 by decide]
      simp [pbP, spr, spr7, sprOf, or1_0, or1_1, or1_bb, bt_m32, eimm4, eimm5, eimm6, eimm7, eimm8, eimm9, z2, z3, z4, z5, z6, z12]
    have q5 : bt (parC (rowC 6) f.d f.r f.t f.imm) 5 = b 5 := by
      rw [parC_bt (row_ok (k := 6) (by decide))]
      show or1 (or1 (or1 (or1 (bt 24833 5) (bt (putP 2 f.d) 5)) (bt (putP 2 f.r) 5)) (bt (putP 0 f.t) 5)) (bt (sputC 7 f.imm) 5) = _
      rw [bput_2 f.d _ (by decide), bput_2 f.r _ (by decide), bput_0 f.t _ (by decide), sputC_bt, sput8 _ hU, show bt 24833 5 = 0 by decide]
      simp [pbP, spr, spr7, sprOf, or1_0, or1_1, or1_bb, bt_m32, eimm4, eimm5, eimm6, eimm7, eimm8, eimm9, z2, z3, z4, z5, z6, z12]
    have q6 : bt (parC (rowC 6) f.d f.r f.t f.imm) 6 = b 6 := by
      rw [parC_bt (row_ok (k := 6) (by decide))]
      show or1 (or1 (or1 (or1 (bt 24833 6) (bt (putP 2 f.d) 6)) (bt (putP 2 f.r) 6)) (bt (putP 0 f.t) 6)) (bt (sputC 7 f.imm) 6) = _
      rw [bput_2 f.d _ (by decide), bput_2 f.r _ (by decide), bput_0 f.t _ (by decide), sputC_bt, sput8 _ hU, show bt 24833 6 = 0 by decide]
      simp [pbP, spr, spr7, sprOf, or1_0, or1_1, or1_bb, bt_m32, eimm4, eimm5, eimm6, eimm7, eimm8, eimm9, z2, z3, z4, z5, z6, z12]
    have q7 : bt (parC (rowC 6) f.d f.r f.t f.imm) 7 = 0 := by
      rw [parC_bt (row_ok (k := 6) (by decide))]
      show or1 (or1 (or1 (or1 (bt 24833 7) (bt (putP 2 f.d) 7)) (bt (putP 2 f.r) 7)) (bt (putP 0 f.t) 7)) (bt (sputC 7 f.imm) 7) = _
      rw [bput_2 f.d _ (by decide), bput_2 f.r _ (by decide), bput_0 f.t _ (by decide), sputC_bt, sput8 _ hU, show bt 24833 7 = 0 by decide]
      simp [pbP, spr, spr7, sprOf, or1_0, or1_1, or1_bb, bt_m32, eimm4, eimm5, eimm6, eimm7, eimm8, eimm9, z2, z3, z4, z5, z6, z12]
    have q8 : bt (parC (rowC 6) f.d f.r f.t f.imm) 8 = 1 := by
      rw [parC_bt (row_ok (k := 6) (by decide))]
      show or1 (or1 (or1 (or1 (bt 24833 8) (bt (putP 2 f.d) 8)) (bt (putP 2 f.r) 8)) (bt (putP 0 f.t) 8)) (bt (sputC 7 f.imm) 8) = _
      rw [bput_2 f.d _ (by decide), bput_2 f.r _ (by decide), bput_0 f.t _ (by decide), sputC_bt, sput8 _ hU, show bt 24833 8 = 1 by decide]
      simp [pbP, spr, spr7, sprOf, or1_0, or1_1, or1_bb, bt_m32, eimm4, eimm5, eimm6, eimm7, eimm8, eimm9, z2, z3, z4, z5, z6, z12]
    have q9 : bt (parC (rowC 6) f.d f.r f.t f.imm) 9 = 0 := by
      rw [parC_bt (row_ok (k := 6) (by decide))]
      show or1 (or1 (or1 (or1 (bt 24833 9) (bt (putP 2 f.d) 9)) (bt (putP 2 f.r) 9)) (bt (putP 0 f.t) 9)) (bt (sputC 7 f.imm) 9) = _
      rw [bput_2 f.d _ (by decide), bput_2 f.r _ (by decide), bput_0 f.t _ (by decide), sputC_bt, sput8 _ hU, show bt 24833 9 = 0 by decide]
      simp [pbP, spr, spr7, sprOf, or1_0, or1_1, or1_bb, bt_m32, eimm4, eimm5, eimm6, eimm7, eimm8, eimm9, z2, z3, z4, z5, z6, z12]
    have q10 : bt (parC (rowC 6) f.d f.r f.t f.imm) 10 = 0 := by
      rw [parC_bt (row_ok (k := 6) (by decide))]
      show or1 (or1 (or1 (or1 (bt 24833 10) (bt (putP 2 f.d) 10)) (bt (putP 2 f.r) 10)) (bt (putP 0 f.t) 10)) (bt (sputC 7 f.imm) 10) = _
      rw [bput_2 f.d _ (by decide), bput_2 f.r _ (by decide), bput_0 f.t _ (by decide), sputC_bt, sput8 _ hU, show bt 24833 10 = 0 by decide]
      simp [pbP, spr, spr7, sprOf, or1_0, or1_1, or1_bb, bt_m32, eimm4, eimm5, eimm6, eimm7, eimm8, eimm9, z2, z3, z4, z5, z6, z12]
    have q11 : bt (parC (rowC 6) f.d f.r f.t f.imm) 11 = 0 := by
      rw [parC_bt (row_ok (k := 6) (by decide))]
      show or1 (or1 (or1 (or1 (bt 24833 11) (bt (putP 2 f.d) 11)) (bt (putP 2 f.r) 11)) (bt (putP 0 f.t) 11)) (bt (sputC 7 f.imm) 11) = _
      rw [bput_2 f.d _ (by decide), bput_2 f.r _ (by decide), bput_0 f.t _ (by decide), sputC_bt, sput8 _ hU, show bt 24833 11 = 0 by decide]
      simp [pbP, spr, spr7, sprOf, or1_0, or1_1, or1_bb, bt_m32, eimm4, eimm5, eimm6, eimm7, eimm8, eimm9, z2, z3, z4, z5, z6, z12]
    have q12 : bt (parC (rowC 6) f.d f.r f.t f.imm) 12 = b 12 := by
      rw [parC_bt (row_ok (k := 6) (by decide))]
      show or1 (or1 (or1 (or1 (bt 24833 12) (bt (putP 2 f.d) 12)) (bt (putP 2 f.r) 12)) (bt (putP 0 f.t) 12)) (bt (sputC 7 f.imm) 12) = _
      rw [bput_2 f.d _ (by decide), bput_2 f.r _ (by decide), bput_0 f.t _ (by decide), sputC_bt, sput8 _ hU, show bt 24833 12 = 0 by decide]
      simp [pbP, spr, spr7, sprOf, or1_0, or1_1, or1_bb, bt_m32, eimm4, eimm5, eimm6, eimm7, eimm8, eimm9, z2, z3, z4, z5, z6, z12]
    have q13 : bt (parC (rowC 6) f.d f.r f.t f.imm) 13 = 1 := by
      rw [parC_bt (row_ok (k := 6) (by decide))]
      show or1 (or1 (or1 (or1 (bt 24833 13) (bt (putP 2 f.d) 13)) (bt (putP 2 f.r) 13)) (bt (putP 0 f.t) 13)) (bt (sputC 7 f.imm) 13) = _
      rw [bput_2 f.d _ (by decide), bput_2 f.r _ (by decide), bput_0 f.t _ (by decide), sputC_bt, sput8 _ hU, show bt 24833 13 = 1 by decide]
      simp [pbP, spr, spr7, sprOf, or1_0, or1_1, or1_bb, bt_m32, eimm4, eimm5, eimm6, eimm7, eimm8, eimm9, z2, z3, z4, z5, z6, z12]
    have q14 : bt (parC (rowC 6) f.d f.r f.t f.imm) 14 = 1 := by
      rw [parC_bt (row_ok (k := 6) (by decide))]
      show or1 (or1 (or1 (or1 (bt 24833 14) (bt (putP 2 f.d) 14)) (bt (putP 2 f.r) 14)) (bt (putP 0 f.t) 14)) (bt (sputC 7 f.imm) 14) = _
      rw [bput_2 f.d _ (by decide), bput_2 f.r _ (by decide), bput_0 f.t _ (by decide), sputC_bt, sput8 _ hU, show bt 24833 14 = 1 by decide]
      simp [pbP, spr, spr7, sprOf, or1_0, or1_1, or1_bb, bt_m32, eimm4, eimm5, eimm6, eimm7, eimm8, eimm9, z2, z3, z4, z5, z6, z12]
    have q15 : bt (parC (rowC 6) f.d f.r f.t f.imm) 15 = 0 := by
      rw [parC_bt (row_ok (k := 6) (by decide))]
      show or1 (or1 (or1 (or1 (bt 24833 15) (bt (putP 2 f.d) 15)) (bt (putP 2 f.r) 15)) (bt (putP 0 f.t) 15)) (bt (sputC 7 f.imm) 15) = _
      rw [bput_2 f.d _ (by decide), bput_2 f.r _ (by decide), bput_0 f.t _ (by decide), sputC_bt, sput8 _ hU, show bt 24833 15 = 0 by decide]
      simp [pbP, spr, spr7, sprOf, or1_0, or1_1, or1_bb, bt_m32, eimm4, eimm5, eimm6, eimm7, eimm8, eimm9, z2, z3, z4, z5, z6, z12]
    rw [q0, q1, q2, q3, q4, q5, q6, q7, q8, q9, q10, q11, q12, q13, q14, q15] at hsp
    omega
end Hm

/-
  Mathematics of short instructions (made by gen_Y5.py): what a landed row writes of what it reads is the parcel. Nothing of the dump is imported.
-/
namespace Hm
theorem backC_7 (p : Int) (f : Flds) (h0 : 0 ≤ p) (h1 : p < 65536) (h : instS (shortR 7) p = some f) : parC (rowC 7) f.d f.r f.t f.imm = p := by
  have hs := sum16 p h0 h1
  have hb := bt_bd p
  unfold instS at h
  rw [rd_rdB] at h
  generalize bt p = b at h hs hb
  simp [shortR, shortL, rdB, miss, rstep, badS, makeS, fieldS, eightS, cnt, immS2, immS1, hi, hiTo, hasB] at h
  split at h
  · cases h
  rename_i g hg
  simp only [Option.ite_none_right_eq_some, Option.some.injEq] at hg
  obtain ⟨c0, c1, c2, c3, c4, hg⟩ := hg
  have gd : g.d = 1 * b 7 + 2 * b 8 + 4 * b 9 + 8 * b 10 + 16 * b 11 := by subst hg; simp [pw] <;> omega
  have gr : g.r = 0 := by subst hg; simp [pw] <;> omega
  have gt : g.t = 0 := by subst hg; simp [pw] <;> omega
  have gimm : g.imm = 1 * b 2 + 2 * b 3 + 4 * b 4 + 8 * b 5 + 16 * b 6 + 32 * b 12 := by subst hg; simp [pw] <;> omega
  clear hg
  have B2 := hb 2
  have B3 := hb 3
  have B4 := hb 4
  have B5 := hb 5
  have B6 := hb 6
  have B7 := hb 7
  have B8 := hb 8
  have B9 := hb 9
  have B10 := hb 10
  have B11 := hb 11
  have B12 := hb 12
  clear hb
  have it : bt g.imm 5 = b 12 := by exact bt_at (A := 1 * b 2 + 2 * b 3 + 4 * b 4 + 8 * b 5 + 16 * b 6) (C := 0) 5 (by decide) (by decide : pw 5 = 32) (by omega) (by omega) (by omega) B12
  have hsg : sgn g.imm 5 = g.imm - 64 * b 12 := by rw [sgn_lin, it]; simp [pw]
  repeat' split at h
  all_goals first | (cases h; done) | skip
  all_goals
    have h := Option.some.inj h
    have hd := congrArg Flds.d h
    have hr := congrArg Flds.r h
    have ht := congrArg Flds.t h
    have hm := congrArg Flds.imm h
    clear h
    dsimp only at hd hr ht hm
    have ed0 : bt f.d 0 = b 7 := bt_at (A := 0) (C := 1 * b 8 + 2 * b 9 + 4 * b 10 + 8 * b 11) 0 (by decide) (by decide : pw 0 = 1) (by omega) (by omega) (by omega) B7
    have ed1 : bt f.d 1 = b 8 := bt_at (A := 1 * b 7) (C := 1 * b 9 + 2 * b 10 + 4 * b 11) 1 (by decide) (by decide : pw 1 = 2) (by omega) (by omega) (by omega) B8
    have ed2 : bt f.d 2 = b 9 := bt_at (A := 1 * b 7 + 2 * b 8) (C := 1 * b 10 + 2 * b 11) 2 (by decide) (by decide : pw 2 = 4) (by omega) (by omega) (by omega) B9
    have ed3 : bt f.d 3 = b 10 := bt_at (A := 1 * b 7 + 2 * b 8 + 4 * b 9) (C := 1 * b 11) 3 (by decide) (by decide : pw 3 = 8) (by omega) (by omega) (by omega) B10
    have ed4 : bt f.d 4 = b 11 := bt_at (A := 1 * b 7 + 2 * b 8 + 4 * b 9 + 8 * b 10) (C := 0) 4 (by decide) (by decide : pw 4 = 16) (by omega) (by omega) (by omega) B11
    have eimm0 : bt f.imm 0 = b 2 := bt_at (A := 0) (C := 1 * b 3 + 2 * b 4 + 4 * b 5 + 8 * b 6 + 16 * b 12 + -32 * b 12 + 524288 * (if sgn g.imm 5 < 0 then 1 else 0)) 0 (by decide) (by decide : pw 0 = 1) (by omega) (by omega) (by omega) B2
    have eimm1 : bt f.imm 1 = b 3 := bt_at (A := 1 * b 2) (C := 1 * b 4 + 2 * b 5 + 4 * b 6 + 8 * b 12 + -16 * b 12 + 262144 * (if sgn g.imm 5 < 0 then 1 else 0)) 1 (by decide) (by decide : pw 1 = 2) (by omega) (by omega) (by omega) B3
    have eimm2 : bt f.imm 2 = b 4 := bt_at (A := 1 * b 2 + 2 * b 3) (C := 1 * b 5 + 2 * b 6 + 4 * b 12 + -8 * b 12 + 131072 * (if sgn g.imm 5 < 0 then 1 else 0)) 2 (by decide) (by decide : pw 2 = 4) (by omega) (by omega) (by omega) B4
    have eimm3 : bt f.imm 3 = b 5 := bt_at (A := 1 * b 2 + 2 * b 3 + 4 * b 4) (C := 1 * b 6 + 2 * b 12 + -4 * b 12 + 65536 * (if sgn g.imm 5 < 0 then 1 else 0)) 3 (by decide) (by decide : pw 3 = 8) (by omega) (by omega) (by omega) B5
    have eimm4 : bt f.imm 4 = b 6 := bt_at (A := 1 * b 2 + 2 * b 3 + 4 * b 4 + 8 * b 5) (C := 1 * b 12 + -2 * b 12 + 32768 * (if sgn g.imm 5 < 0 then 1 else 0)) 4 (by decide) (by decide : pw 4 = 16) (by omega) (by omega) (by omega) B6
    have eimm5 : bt f.imm 5 = b 12 := bt_at (A := 1 * b 2 + 2 * b 3 + 4 * b 4 + 8 * b 5 + 16 * b 6) (C := -1 * b 12 + 16384 * (if sgn g.imm 5 < 0 then 1 else 0)) 5 (by decide) (by decide : pw 5 = 32) (by omega) (by omega) (by omega) B12
    have hu := parC_u16 (row_ok (k := 7) (by decide)) f.d f.r f.t f.imm
    have hsp := sum16 _ hu.1 hu.2
    have hU : U32 (f.imm % 4294967296) := ⟨by omega, by omega⟩
    have z2 : or1 (b 2) 0 = b 2 := or1_b0 B2
    have z3 : or1 (b 3) 0 = b 3 := or1_b0 B3
    have z4 : or1 (b 4) 0 = b 4 := or1_b0 B4
    have z5 : or1 (b 5) 0 = b 5 := or1_b0 B5
    have z6 : or1 (b 6) 0 = b 6 := or1_b0 B6
    have z7 : or1 (b 7) 0 = b 7 := or1_b0 B7
    have z8 : or1 (b 8) 0 = b 8 := or1_b0 B8
    have z9 : or1 (b 9) 0 = b 9 := or1_b0 B9
    have z10 : or1 (b 10) 0 = b 10 := or1_b0 B10
    have z11 : or1 (b 11) 0 = b 11 := or1_b0 B11
    have z12 : or1 (b 12) 0 = b 12 := or1_b0 B12
    have q0 : bt (parC (rowC 7) f.d f.r f.t f.imm) 0 = 1 := by
      rw [parC_bt (row_ok (k := 7) (by decide))]
      show or1 (or1 (or1 (or1 (bt 24577 0) (bt (putP 3 f.d) 0)) (bt (putP 0 f.r) 0)) (bt (putP 0 f.t) 0)) (bt (sputC 2 f.imm) 0) = _
      rw [bput_3 f.d _ (by decide), bput_0 f.r _ (by decide), bput_0 f.t _ (by decide), sputC_bt, sput8 _ hU, show bt 24577 0 = 1 by decide]
      simp [pbP, spr, spr2, sprOf, or1_0, or1_1, or1_bb, bt_m32, ed0, ed1, ed2, ed3, ed4, eimm0, eimm1, eimm2, eimm3, eimm4, eimm5, z2, z3, z4, z5, z6, z7, z8, z9, z10, z11, z12]
    have q1 : bt (parC (rowC 7) f.d f.r f.t f.imm) 1 = 0 := by
      rw [parC_bt (row_ok (k := 7) (by decide))]
      show or1 (or1 (or1 (or1 (bt 24577 1) (bt (putP 3 f.d) 1)) (bt (putP 0 f.r) 1)) (bt (putP 0 f.t) 1)) (bt (sputC 2 f.imm) 1) = _
      rw [bput_3 f.d _ (by decide), bput_0 f.r _ (by decide), bput_0 f.t _ (by decide), sputC_bt, sput8 _ hU, show bt 24577 1 = 0 by decide]
      simp [pbP, spr, spr2, sprOf, or1_0, or1_1, or1_bb, bt_m32, ed0, ed1, ed2, ed3, ed4, eimm0, eimm1, eimm2, eimm3, eimm4, eimm5, z2, z3, z4, z5, z6, z7, z8, z9, z10, z11, z12]
    have q2 : bt (parC (rowC 7) f.d f.r f.t f.imm) 2 = b 2 := by
      rw [parC_bt (row_ok (k := 7) (by decide))]
      show or1 (or1 (or1 (or1 (bt 24577 2) (bt (putP 3 f.d) 2)) (bt (putP 0 f.r) 2)) (bt (putP 0 f.t) 2)) (bt (sputC 2 f.imm) 2) = _
      rw [bput_3 f.d _ (by decide), bput_0 f.r _ (by decide), bput_0 f.t _ (by decide), sputC_bt, sput8 _ hU, show bt 24577 2 = 0 by decide]
      simp [pbP, spr, spr2, sprOf, or1_0, or1_1, or1_bb, bt_m32, ed0, ed1, ed2, ed3, ed4, eimm0, eimm1, eimm2, eimm3, eimm4, eimm5, z2, z3, z4, z5, z6, z7, z8, z9, z10, z11, z12]
    have q3 : bt (parC (rowC 7) f.d f.r f.t f.imm) 3 = b 3 := by
      rw [parC_bt (row_ok (k := 7) (by decide))]
      show or1 (or1 (or1 (or1 (bt 24577 3) (bt (putP 3 f.d) 3)) (bt (putP 0 f.r) 3)) (bt (putP 0 f.t) 3)) (bt (sputC 2 f.imm) 3) = _
      rw [bput_3 f.d _ (by decide), bput_0 f.r _ (by decide), bput_0 f.t _ (by decide), sputC_bt, sput8 _ hU, show bt 24577 3 = 0 by decide]
      simp [pbP, spr, spr2, sprOf, or1_0, or1_1, or1_bb, bt_m32, ed0, ed1, ed2, ed3, ed4, eimm0, eimm1, eimm2, eimm3, eimm4, eimm5, z2, z3, z4, z5, z6, z7, z8, z9, z10, z11, z12]
    have q4 : bt (parC (rowC 7) f.d f.r f.t f.imm) 4 = b 4 := by
      rw [parC_bt (row_ok (k := 7) (by decide))]
      show or1 (or1 (or1 (or1 (bt 24577 4) (bt (putP 3 f.d) 4)) (bt (putP 0 f.r) 4)) (bt (putP 0 f.t) 4)) (bt (sputC 2 f.imm) 4) = _
      rw [bput_3 f.d _ (by decide), bput_0 f.r _ (by decide), bput_0 f.t _ (by decide), sputC_bt, sput8 _ hU, show bt 24577 4 = 0 by decide]
      simp [pbP, spr, spr2, sprOf, or1_0, or1_1, or1_bb, bt_m32, ed0, ed1, ed2, ed3, ed4, eimm0, eimm1, eimm2, eimm3, eimm4, eimm5, z2, z3, z4, z5, z6, z7, z8, z9, z10, z11, z12]
    have q5 : bt (parC (rowC 7) f.d f.r f.t f.imm) 5 = b 5 := by
      rw [parC_bt (row_ok (k := 7) (by decide))]
      show or1 (or1 (or1 (or1 (bt 24577 5) (bt (putP 3 f.d) 5)) (bt (putP 0 f.r) 5)) (bt (putP 0 f.t) 5)) (bt (sputC 2 f.imm) 5) = _
      rw [bput_3 f.d _ (by decide), bput_0 f.r _ (by decide), bput_0 f.t _ (by decide), sputC_bt, sput8 _ hU, show bt 24577 5 = 0 by decide]
      simp [pbP, spr, spr2, sprOf, or1_0, or1_1, or1_bb, bt_m32, ed0, ed1, ed2, ed3, ed4, eimm0, eimm1, eimm2, eimm3, eimm4, eimm5, z2, z3, z4, z5, z6, z7, z8, z9, z10, z11, z12]
    have q6 : bt (parC (rowC 7) f.d f.r f.t f.imm) 6 = b 6 := by
      rw [parC_bt (row_ok (k := 7) (by decide))]
      show or1 (or1 (or1 (or1 (bt 24577 6) (bt (putP 3 f.d) 6)) (bt (putP 0 f.r) 6)) (bt (putP 0 f.t) 6)) (bt (sputC 2 f.imm) 6) = _
      rw [bput_3 f.d _ (by decide), bput_0 f.r _ (by decide), bput_0 f.t _ (by decide), sputC_bt, sput8 _ hU, show bt 24577 6 = 0 by decide]
      simp [pbP, spr, spr2, sprOf, or1_0, or1_1, or1_bb, bt_m32, ed0, ed1, ed2, ed3, ed4, eimm0, eimm1, eimm2, eimm3, eimm4, eimm5, z2, z3, z4, z5, z6, z7, z8, z9, z10, z11, z12]
    have q7 : bt (parC (rowC 7) f.d f.r f.t f.imm) 7 = b 7 := by
      rw [parC_bt (row_ok (k := 7) (by decide))]
      show or1 (or1 (or1 (or1 (bt 24577 7) (bt (putP 3 f.d) 7)) (bt (putP 0 f.r) 7)) (bt (putP 0 f.t) 7)) (bt (sputC 2 f.imm) 7) = _
      rw [bput_3 f.d _ (by decide), bput_0 f.r _ (by decide), bput_0 f.t _ (by decide), sputC_bt, sput8 _ hU, show bt 24577 7 = 0 by decide]
      simp [pbP, spr, spr2, sprOf, or1_0, or1_1, or1_bb, bt_m32, ed0, ed1, ed2, ed3, ed4, eimm0, eimm1, eimm2, eimm3, eimm4, eimm5, z2, z3, z4, z5, z6, z7, z8, z9, z10, z11, z12]
    have q8 : bt (parC (rowC 7) f.d f.r f.t f.imm) 8 = b 8 := by
      rw [parC_bt (row_ok (k := 7) (by decide))]
      show or1 (or1 (or1 (or1 (bt 24577 8) (bt (putP 3 f.d) 8)) (bt (putP 0 f.r) 8)) (bt (putP 0 f.t) 8)) (bt (sputC 2 f.imm) 8) = _
      rw [bput_3 f.d _ (by decide), bput_0 f.r _ (by decide), bput_0 f.t _ (by decide), sputC_bt, sput8 _ hU, show bt 24577 8 = 0 by decide]
      simp [pbP, spr, spr2, sprOf, or1_0, or1_1, or1_bb, bt_m32, ed0, ed1, ed2, ed3, ed4, eimm0, eimm1, eimm2, eimm3, eimm4, eimm5, z2, z3, z4, z5, z6, z7, z8, z9, z10, z11, z12]
    have q9 : bt (parC (rowC 7) f.d f.r f.t f.imm) 9 = b 9 := by
      rw [parC_bt (row_ok (k := 7) (by decide))]
      show or1 (or1 (or1 (or1 (bt 24577 9) (bt (putP 3 f.d) 9)) (bt (putP 0 f.r) 9)) (bt (putP 0 f.t) 9)) (bt (sputC 2 f.imm) 9) = _
      rw [bput_3 f.d _ (by decide), bput_0 f.r _ (by decide), bput_0 f.t _ (by decide), sputC_bt, sput8 _ hU, show bt 24577 9 = 0 by decide]
      simp [pbP, spr, spr2, sprOf, or1_0, or1_1, or1_bb, bt_m32, ed0, ed1, ed2, ed3, ed4, eimm0, eimm1, eimm2, eimm3, eimm4, eimm5, z2, z3, z4, z5, z6, z7, z8, z9, z10, z11, z12]
    have q10 : bt (parC (rowC 7) f.d f.r f.t f.imm) 10 = b 10 := by
      rw [parC_bt (row_ok (k := 7) (by decide))]
      show or1 (or1 (or1 (or1 (bt 24577 10) (bt (putP 3 f.d) 10)) (bt (putP 0 f.r) 10)) (bt (putP 0 f.t) 10)) (bt (sputC 2 f.imm) 10) = _
      rw [bput_3 f.d _ (by decide), bput_0 f.r _ (by decide), bput_0 f.t _ (by decide), sputC_bt, sput8 _ hU, show bt 24577 10 = 0 by decide]
      simp [pbP, spr, spr2, sprOf, or1_0, or1_1, or1_bb, bt_m32, ed0, ed1, ed2, ed3, ed4, eimm0, eimm1, eimm2, eimm3, eimm4, eimm5, z2, z3, z4, z5, z6, z7, z8, z9, z10, z11, z12]
    have q11 : bt (parC (rowC 7) f.d f.r f.t f.imm) 11 = b 11 := by
      rw [parC_bt (row_ok (k := 7) (by decide))]
      show or1 (or1 (or1 (or1 (bt 24577 11) (bt (putP 3 f.d) 11)) (bt (putP 0 f.r) 11)) (bt (putP 0 f.t) 11)) (bt (sputC 2 f.imm) 11) = _
      rw [bput_3 f.d _ (by decide), bput_0 f.r _ (by decide), bput_0 f.t _ (by decide), sputC_bt, sput8 _ hU, show bt 24577 11 = 0 by decide]
      simp [pbP, spr, spr2, sprOf, or1_0, or1_1, or1_bb, bt_m32, ed0, ed1, ed2, ed3, ed4, eimm0, eimm1, eimm2, eimm3, eimm4, eimm5, z2, z3, z4, z5, z6, z7, z8, z9, z10, z11, z12]
    have q12 : bt (parC (rowC 7) f.d f.r f.t f.imm) 12 = b 12 := by
      rw [parC_bt (row_ok (k := 7) (by decide))]
      show or1 (or1 (or1 (or1 (bt 24577 12) (bt (putP 3 f.d) 12)) (bt (putP 0 f.r) 12)) (bt (putP 0 f.t) 12)) (bt (sputC 2 f.imm) 12) = _
      rw [bput_3 f.d _ (by decide), bput_0 f.r _ (by decide), bput_0 f.t _ (by decide), sputC_bt, sput8 _ hU, show bt 24577 12 = 0 by decide]
      simp [pbP, spr, spr2, sprOf, or1_0, or1_1, or1_bb, bt_m32, ed0, ed1, ed2, ed3, ed4, eimm0, eimm1, eimm2, eimm3, eimm4, eimm5, z2, z3, z4, z5, z6, z7, z8, z9, z10, z11, z12]
    have q13 : bt (parC (rowC 7) f.d f.r f.t f.imm) 13 = 1 := by
      rw [parC_bt (row_ok (k := 7) (by decide))]
      show or1 (or1 (or1 (or1 (bt 24577 13) (bt (putP 3 f.d) 13)) (bt (putP 0 f.r) 13)) (bt (putP 0 f.t) 13)) (bt (sputC 2 f.imm) 13) = _
      rw [bput_3 f.d _ (by decide), bput_0 f.r _ (by decide), bput_0 f.t _ (by decide), sputC_bt, sput8 _ hU, show bt 24577 13 = 1 by decide]
      simp [pbP, spr, spr2, sprOf, or1_0, or1_1, or1_bb, bt_m32, ed0, ed1, ed2, ed3, ed4, eimm0, eimm1, eimm2, eimm3, eimm4, eimm5, z2, z3, z4, z5, z6, z7, z8, z9, z10, z11, z12]
    have q14 : bt (parC (rowC 7) f.d f.r f.t f.imm) 14 = 1 := by
      rw [parC_bt (row_ok (k := 7) (by decide))]
      show or1 (or1 (or1 (or1 (bt 24577 14) (bt (putP 3 f.d) 14)) (bt (putP 0 f.r) 14)) (bt (putP 0 f.t) 14)) (bt (sputC 2 f.imm) 14) = _
      rw [bput_3 f.d _ (by decide), bput_0 f.r _ (by decide), bput_0 f.t _ (by decide), sputC_bt, sput8 _ hU, show bt 24577 14 = 1 by decide]
      simp [pbP, spr, spr2, sprOf, or1_0, or1_1, or1_bb, bt_m32, ed0, ed1, ed2, ed3, ed4, eimm0, eimm1, eimm2, eimm3, eimm4, eimm5, z2, z3, z4, z5, z6, z7, z8, z9, z10, z11, z12]
    have q15 : bt (parC (rowC 7) f.d f.r f.t f.imm) 15 = 0 := by
      rw [parC_bt (row_ok (k := 7) (by decide))]
      show or1 (or1 (or1 (or1 (bt 24577 15) (bt (putP 3 f.d) 15)) (bt (putP 0 f.r) 15)) (bt (putP 0 f.t) 15)) (bt (sputC 2 f.imm) 15) = _
      rw [bput_3 f.d _ (by decide), bput_0 f.r _ (by decide), bput_0 f.t _ (by decide), sputC_bt, sput8 _ hU, show bt 24577 15 = 0 by decide]
      simp [pbP, spr, spr2, sprOf, or1_0, or1_1, or1_bb, bt_m32, ed0, ed1, ed2, ed3, ed4, eimm0, eimm1, eimm2, eimm3, eimm4, eimm5, z2, z3, z4, z5, z6, z7, z8, z9, z10, z11, z12]
    rw [q0, q1, q2, q3, q4, q5, q6, q7, q8, q9, q10, q11, q12, q13, q14, q15] at hsp
    omega
theorem backC_8 (p : Int) (f : Flds) (h0 : 0 ≤ p) (h1 : p < 65536) (h : instS (shortR 8) p = some f) : parC (rowC 8) f.d f.r f.t f.imm = p := by
  have hs := sum16 p h0 h1
  have hb := bt_bd p
  unfold instS at h
  rw [rd_rdB] at h
  generalize bt p = b at h hs hb
  simp [shortR, shortL, rdB, miss, rstep, badS, makeS, fieldS, eightS, cnt, immS2, immS1, hi, hiTo, hasB] at h
  split at h
  · cases h
  rename_i g hg
  simp only [Option.ite_none_right_eq_some, Option.some.injEq] at hg
  obtain ⟨c0, c1, c2, c3, c4, c5, c6, c7, hg⟩ := hg
  have gd : g.d = 1 * b 7 + 2 * b 8 + 4 * b 9 := by subst hg; simp [pw] <;> omega
  have gr : g.r = 0 := by subst hg; simp [pw] <;> omega
  have gt : g.t = 0 := by subst hg; simp [pw] <;> omega
  have gimm : g.imm = 1 * b 2 + 2 * b 3 + 4 * b 4 + 8 * b 5 + 16 * b 6 := by subst hg; simp [pw] <;> omega
  clear hg
  have B2 := hb 2
  have B3 := hb 3
  have B4 := hb 4
  have B5 := hb 5
  have B6 := hb 6
  have B7 := hb 7
  have B8 := hb 8
  have B9 := hb 9
  clear hb
  repeat' split at h
  all_goals first | (cases h; done) | skip
  all_goals
    have h := Option.some.inj h
    have hd := congrArg Flds.d h
    have hr := congrArg Flds.r h
    have ht := congrArg Flds.t h
    have hm := congrArg Flds.imm h
    clear h
    dsimp only at hd hr ht hm
    have ed0 : bt f.d 0 = b 7 := bt_at (A := 0) (C := 1 * b 8 + 2 * b 9 + 4) 0 (by decide) (by decide : pw 0 = 1) (by omega) (by omega) (by omega) B7
    have ed1 : bt f.d 1 = b 8 := bt_at (A := 1 * b 7) (C := 1 * b 9 + 2) 1 (by decide) (by decide : pw 1 = 2) (by omega) (by omega) (by omega) B8
    have ed2 : bt f.d 2 = b 9 := bt_at (A := 1 * b 7 + 2 * b 8) (C := 1) 2 (by decide) (by decide : pw 2 = 4) (by omega) (by omega) (by omega) B9
    have eimm0 : bt f.imm 0 = b 2 := bt_at (A := 0) (C := 1 * b 3 + 2 * b 4 + 4 * b 5 + 8 * b 6) 0 (by decide) (by decide : pw 0 = 1) (by omega) (by omega) (by omega) B2
    have eimm1 : bt f.imm 1 = b 3 := bt_at (A := 1 * b 2) (C := 1 * b 4 + 2 * b 5 + 4 * b 6) 1 (by decide) (by decide : pw 1 = 2) (by omega) (by omega) (by omega) B3
    have eimm2 : bt f.imm 2 = b 4 := bt_at (A := 1 * b 2 + 2 * b 3) (C := 1 * b 5 + 2 * b 6) 2 (by decide) (by decide : pw 2 = 4) (by omega) (by omega) (by omega) B4
    have eimm3 : bt f.imm 3 = b 5 := bt_at (A := 1 * b 2 + 2 * b 3 + 4 * b 4) (C := 1 * b 6) 3 (by decide) (by decide : pw 3 = 8) (by omega) (by omega) (by omega) B5
    have eimm4 : bt f.imm 4 = b 6 := bt_at (A := 1 * b 2 + 2 * b 3 + 4 * b 4 + 8 * b 5) (C := 0) 4 (by decide) (by decide : pw 4 = 16) (by omega) (by omega) (by omega) B6
    have hu := parC_u16 (row_ok (k := 8) (by decide)) f.d f.r f.t f.imm
    have hsp := sum16 _ hu.1 hu.2
    have hU : U32 (f.imm % 4294967296) := ⟨by omega, by omega⟩
    have hrd : f.r = f.d := by omega
    have z2 : or1 (b 2) 0 = b 2 := or1_b0 B2
    have z3 : or1 (b 3) 0 = b 3 := or1_b0 B3
    have z4 : or1 (b 4) 0 = b 4 := or1_b0 B4
    have z5 : or1 (b 5) 0 = b 5 := or1_b0 B5
    have z6 : or1 (b 6) 0 = b 6 := or1_b0 B6
    have z7 : or1 (b 7) 0 = b 7 := or1_b0 B7
    have z8 : or1 (b 8) 0 = b 8 := or1_b0 B8
    have z9 : or1 (b 9) 0 = b 9 := or1_b0 B9
    have q0 : bt (parC (rowC 8) f.d f.r f.t f.imm) 0 = 1 := by
      rw [parC_bt (row_ok (k := 8) (by decide))]
      show or1 (or1 (or1 (or1 (bt 32769 0) (bt (putP 5 f.d) 0)) (bt (putP 5 f.r) 0)) (bt (putP 0 f.t) 0)) (bt (sputC 1 f.imm) 0) = _
      rw [bput_5 f.d _ (by decide), bput_5 f.r _ (by decide), bput_0 f.t _ (by decide), sputC_bt, sput8 _ hU, show bt 32769 0 = 1 by decide]
      simp [pbP, spr, spr1, sprOf, or1_0, or1_1, or1_bb, bt_m32, hrd, ed0, ed1, ed2, eimm0, eimm1, eimm2, eimm3, eimm4, z2, z3, z4, z5, z6, z7, z8, z9]
    have q1 : bt (parC (rowC 8) f.d f.r f.t f.imm) 1 = 0 := by
      rw [parC_bt (row_ok (k := 8) (by decide))]
      show or1 (or1 (or1 (or1 (bt 32769 1) (bt (putP 5 f.d) 1)) (bt (putP 5 f.r) 1)) (bt (putP 0 f.t) 1)) (bt (sputC 1 f.imm) 1) = _
      rw [bput_5 f.d _ (by decide), bput_5 f.r _ (by decide), bput_0 f.t _ (by decide), sputC_bt, sput8 _ hU, show bt 32769 1 = 0 by decide]
      simp [pbP, spr, spr1, sprOf, or1_0, or1_1, or1_bb, bt_m32, hrd, ed0, ed1, ed2, eimm0, eimm1, eimm2, eimm3, eimm4, z2, z3, z4, z5, z6, z7, z8, z9]
    have q2 : bt (parC (rowC 8) f.d f.r f.t f.imm) 2 = b 2 := by
      rw [parC_bt (row_ok (k := 8) (by decide))]
      show or1 (or1 (or1 (or1 (bt 32769 2) (bt (putP 5 f.d) 2)) (bt (putP 5 f.r) 2)) (bt (putP 0 f.t) 2)) (bt (sputC 1 f.imm) 2) = _
      rw [bput_5 f.d _ (by decide), bput_5 f.r _ (by decide), bput_0 f.t _ (by decide), sputC_bt, sput8 _ hU, show bt 32769 2 = 0 by decide]
      simp [pbP, spr, spr1, sprOf, or1_0, or1_1, or1_bb, bt_m32, hrd, ed0, ed1, ed2, eimm0, eimm1, eimm2, eimm3, eimm4, z2, z3, z4, z5, z6, z7, z8, z9]
    have q3 : bt (parC (rowC 8) f.d f.r f.t f.imm) 3 = b 3 := by
      rw [parC_bt (row_ok (k := 8) (by decide))]
      show or1 (or1 (or1 (or1 (bt 32769 3) (bt (putP 5 f.d) 3)) (bt (putP 5 f.r) 3)) (bt (putP 0 f.t) 3)) (bt (sputC 1 f.imm) 3) = _
      rw [bput_5 f.d _ (by decide), bput_5 f.r _ (by decide), bput_0 f.t _ (by decide), sputC_bt, sput8 _ hU, show bt 32769 3 = 0 by decide]
      simp [pbP, spr, spr1, sprOf, or1_0, or1_1, or1_bb, bt_m32, hrd, ed0, ed1, ed2, eimm0, eimm1, eimm2, eimm3, eimm4, z2, z3, z4, z5, z6, z7, z8, z9]
    have q4 : bt (parC (rowC 8) f.d f.r f.t f.imm) 4 = b 4 := by
      rw [parC_bt (row_ok (k := 8) (by decide))]
      show or1 (or1 (or1 (or1 (bt 32769 4) (bt (putP 5 f.d) 4)) (bt (putP 5 f.r) 4)) (bt (putP 0 f.t) 4)) (bt (sputC 1 f.imm) 4) = _
      rw [bput_5 f.d _ (by decide), bput_5 f.r _ (by decide), bput_0 f.t _ (by decide), sputC_bt, sput8 _ hU, show bt 32769 4 = 0 by decide]
      simp [pbP, spr, spr1, sprOf, or1_0, or1_1, or1_bb, bt_m32, hrd, ed0, ed1, ed2, eimm0, eimm1, eimm2, eimm3, eimm4, z2, z3, z4, z5, z6, z7, z8, z9]
    have q5 : bt (parC (rowC 8) f.d f.r f.t f.imm) 5 = b 5 := by
      rw [parC_bt (row_ok (k := 8) (by decide))]
      show or1 (or1 (or1 (or1 (bt 32769 5) (bt (putP 5 f.d) 5)) (bt (putP 5 f.r) 5)) (bt (putP 0 f.t) 5)) (bt (sputC 1 f.imm) 5) = _
      rw [bput_5 f.d _ (by decide), bput_5 f.r _ (by decide), bput_0 f.t _ (by decide), sputC_bt, sput8 _ hU, show bt 32769 5 = 0 by decide]
      simp [pbP, spr, spr1, sprOf, or1_0, or1_1, or1_bb, bt_m32, hrd, ed0, ed1, ed2, eimm0, eimm1, eimm2, eimm3, eimm4, z2, z3, z4, z5, z6, z7, z8, z9]
    have q6 : bt (parC (rowC 8) f.d f.r f.t f.imm) 6 = b 6 := by
      rw [parC_bt (row_ok (k := 8) (by decide))]
      show or1 (or1 (or1 (or1 (bt 32769 6) (bt (putP 5 f.d) 6)) (bt (putP 5 f.r) 6)) (bt (putP 0 f.t) 6)) (bt (sputC 1 f.imm) 6) = _
      rw [bput_5 f.d _ (by decide), bput_5 f.r _ (by decide), bput_0 f.t _ (by decide), sputC_bt, sput8 _ hU, show bt 32769 6 = 0 by decide]
      simp [pbP, spr, spr1, sprOf, or1_0, or1_1, or1_bb, bt_m32, hrd, ed0, ed1, ed2, eimm0, eimm1, eimm2, eimm3, eimm4, z2, z3, z4, z5, z6, z7, z8, z9]
    have q7 : bt (parC (rowC 8) f.d f.r f.t f.imm) 7 = b 7 := by
      rw [parC_bt (row_ok (k := 8) (by decide))]
      show or1 (or1 (or1 (or1 (bt 32769 7) (bt (putP 5 f.d) 7)) (bt (putP 5 f.r) 7)) (bt (putP 0 f.t) 7)) (bt (sputC 1 f.imm) 7) = _
      rw [bput_5 f.d _ (by decide), bput_5 f.r _ (by decide), bput_0 f.t _ (by decide), sputC_bt, sput8 _ hU, show bt 32769 7 = 0 by decide]
      simp [pbP, spr, spr1, sprOf, or1_0, or1_1, or1_bb, bt_m32, hrd, ed0, ed1, ed2, eimm0, eimm1, eimm2, eimm3, eimm4, z2, z3, z4, z5, z6, z7, z8, z9]
    have q8 : bt (parC (rowC 8) f.d f.r f.t f.imm) 8 = b 8 := by
      rw [parC_bt (row_ok (k := 8) (by decide))]
      show or1 (or1 (or1 (or1 (bt 32769 8) (bt (putP 5 f.d) 8)) (bt (putP 5 f.r) 8)) (bt (putP 0 f.t) 8)) (bt (sputC 1 f.imm) 8) = _
      rw [bput_5 f.d _ (by decide), bput_5 f.r _ (by decide), bput_0 f.t _ (by decide), sputC_bt, sput8 _ hU, show bt 32769 8 = 0 by decide]
      simp [pbP, spr, spr1, sprOf, or1_0, or1_1, or1_bb, bt_m32, hrd, ed0, ed1, ed2, eimm0, eimm1, eimm2, eimm3, eimm4, z2, z3, z4, z5, z6, z7, z8, z9]
    have q9 : bt (parC (rowC 8) f.d f.r f.t f.imm) 9 = b 9 := by
      rw [parC_bt (row_ok (k := 8) (by decide))]
      show or1 (or1 (or1 (or1 (bt 32769 9) (bt (putP 5 f.d) 9)) (bt (putP 5 f.r) 9)) (bt (putP 0 f.t) 9)) (bt (sputC 1 f.imm) 9) = _
      rw [bput_5 f.d _ (by decide), bput_5 f.r _ (by decide), bput_0 f.t _ (by decide), sputC_bt, sput8 _ hU, show bt 32769 9 = 0 by decide]
      simp [pbP, spr, spr1, sprOf, or1_0, or1_1, or1_bb, bt_m32, hrd, ed0, ed1, ed2, eimm0, eimm1, eimm2, eimm3, eimm4, z2, z3, z4, z5, z6, z7, z8, z9]
    have q10 : bt (parC (rowC 8) f.d f.r f.t f.imm) 10 = 0 := by
      rw [parC_bt (row_ok (k := 8) (by decide))]
      show or1 (or1 (or1 (or1 (bt 32769 10) (bt (putP 5 f.d) 10)) (bt (putP 5 f.r) 10)) (bt (putP 0 f.t) 10)) (bt (sputC 1 f.imm) 10) = _
      rw [bput_5 f.d _ (by decide), bput_5 f.r _ (by decide), bput_0 f.t _ (by decide), sputC_bt, sput8 _ hU, show bt 32769 10 = 0 by decide]
      simp [pbP, spr, spr1, sprOf, or1_0, or1_1, or1_bb, bt_m32, hrd, ed0, ed1, ed2, eimm0, eimm1, eimm2, eimm3, eimm4, z2, z3, z4, z5, z6, z7, z8, z9]
    have q11 : bt (parC (rowC 8) f.d f.r f.t f.imm) 11 = 0 := by
      rw [parC_bt (row_ok (k := 8) (by decide))]
      show or1 (or1 (or1 (or1 (bt 32769 11) (bt (putP 5 f.d) 11)) (bt (putP 5 f.r) 11)) (bt (putP 0 f.t) 11)) (bt (sputC 1 f.imm) 11) = _
      rw [bput_5 f.d _ (by decide), bput_5 f.r _ (by decide), bput_0 f.t _ (by decide), sputC_bt, sput8 _ hU, show bt 32769 11 = 0 by decide]
      simp [pbP, spr, spr1, sprOf, or1_0, or1_1, or1_bb, bt_m32, hrd, ed0, ed1, ed2, eimm0, eimm1, eimm2, eimm3, eimm4, z2, z3, z4, z5, z6, z7, z8, z9]
    have q12 : bt (parC (rowC 8) f.d f.r f.t f.imm) 12 = 0 := by
      rw [parC_bt (row_ok (k := 8) (by decide))]
      show or1 (or1 (or1 (or1 (bt 32769 12) (bt (putP 5 f.d) 12)) (bt (putP 5 f.r) 12)) (bt (putP 0 f.t) 12)) (bt (sputC 1 f.imm) 12) = _
      rw [bput_5 f.d _ (by decide), bput_5 f.r _ (by decide), bput_0 f.t _ (by decide), sputC_bt, sput8 _ hU, show bt 32769 12 = 0 by decide]
      simp [pbP, spr, spr1, sprOf, or1_0, or1_1, or1_bb, bt_m32, hrd, ed0, ed1, ed2, eimm0, eimm1, eimm2, eimm3, eimm4, z2, z3, z4, z5, z6, z7, z8, z9]
    have q13 : bt (parC (rowC 8) f.d f.r f.t f.imm) 13 = 0 := by
      rw [parC_bt (row_ok (k := 8) (by decide))]
      show or1 (or1 (or1 (or1 (bt 32769 13) (bt (putP 5 f.d) 13)) (bt (putP 5 f.r) 13)) (bt (putP 0 f.t) 13)) (bt (sputC 1 f.imm) 13) = _
      rw [bput_5 f.d _ (by decide), bput_5 f.r _ (by decide), bput_0 f.t _ (by decide), sputC_bt, sput8 _ hU, show bt 32769 13 = 0 by decide]
      simp [pbP, spr, spr1, sprOf, or1_0, or1_1, or1_bb, bt_m32, hrd, ed0, ed1, ed2, eimm0, eimm1, eimm2, eimm3, eimm4, z2, z3, z4, z5, z6, z7, z8, z9]
    have q14 : bt (parC (rowC 8) f.d f.r f.t f.imm) 14 = 0 := by
      rw [parC_bt (row_ok (k := 8) (by decide))]
      show or1 (or1 (or1 (or1 (bt 32769 14) (bt (putP 5 f.d) 14)) (bt (putP 5 f.r) 14)) (bt (putP 0 f.t) 14)) (bt (sputC 1 f.imm) 14) = _
      rw [bput_5 f.d _ (by decide), bput_5 f.r _ (by decide), bput_0 f.t _ (by decide), sputC_bt, sput8 _ hU, show bt 32769 14 = 0 by decide]
      simp [pbP, spr, spr1, sprOf, or1_0, or1_1, or1_bb, bt_m32, hrd, ed0, ed1, ed2, eimm0, eimm1, eimm2, eimm3, eimm4, z2, z3, z4, z5, z6, z7, z8, z9]
    have q15 : bt (parC (rowC 8) f.d f.r f.t f.imm) 15 = 1 := by
      rw [parC_bt (row_ok (k := 8) (by decide))]
      show or1 (or1 (or1 (or1 (bt 32769 15) (bt (putP 5 f.d) 15)) (bt (putP 5 f.r) 15)) (bt (putP 0 f.t) 15)) (bt (sputC 1 f.imm) 15) = _
      rw [bput_5 f.d _ (by decide), bput_5 f.r _ (by decide), bput_0 f.t _ (by decide), sputC_bt, sput8 _ hU, show bt 32769 15 = 1 by decide]
      simp [pbP, spr, spr1, sprOf, or1_0, or1_1, or1_bb, bt_m32, hrd, ed0, ed1, ed2, eimm0, eimm1, eimm2, eimm3, eimm4, z2, z3, z4, z5, z6, z7, z8, z9]
    rw [q0, q1, q2, q3, q4, q5, q6, q7, q8, q9, q10, q11, q12, q13, q14, q15] at hsp
    omega
theorem backC_9 (p : Int) (f : Flds) (h0 : 0 ≤ p) (h1 : p < 65536) (h : instS (shortR 9) p = some f) : parC (rowC 9) f.d f.r f.t f.imm = p := by
  have hs := sum16 p h0 h1
  have hb := bt_bd p
  unfold instS at h
  rw [rd_rdB] at h
  generalize bt p = b at h hs hb
  simp [shortR, shortL, rdB, miss, rstep, badS, makeS, fieldS, eightS, cnt, immS2, immS1, hi, hiTo, hasB] at h
  split at h
  · cases h
  rename_i g hg
  simp only [Option.ite_none_right_eq_some, Option.some.injEq] at hg
  obtain ⟨c0, c1, c2, c3, c4, c5, c6, c7, hg⟩ := hg
  have gd : g.d = 1 * b 7 + 2 * b 8 + 4 * b 9 := by subst hg; simp [pw] <;> omega
  have gr : g.r = 0 := by subst hg; simp [pw] <;> omega
  have gt : g.t = 0 := by subst hg; simp [pw] <;> omega
  have gimm : g.imm = 1 * b 2 + 2 * b 3 + 4 * b 4 + 8 * b 5 + 16 * b 6 := by subst hg; simp [pw] <;> omega
  clear hg
  have B2 := hb 2
  have B3 := hb 3
  have B4 := hb 4
  have B5 := hb 5
  have B6 := hb 6
  have B7 := hb 7
  have B8 := hb 8
  have B9 := hb 9
  clear hb
  repeat' split at h
  all_goals first | (cases h; done) | skip
  all_goals
    have h := Option.some.inj h
    have hd := congrArg Flds.d h
    have hr := congrArg Flds.r h
    have ht := congrArg Flds.t h
    have hm := congrArg Flds.imm h
    clear h
    dsimp only at hd hr ht hm
    have ed0 : bt f.d 0 = b 7 := bt_at (A := 0) (C := 1 * b 8 + 2 * b 9 + 4) 0 (by decide) (by decide : pw 0 = 1) (by omega) (by omega) (by omega) B7
    have ed1 : bt f.d 1 = b 8 := bt_at (A := 1 * b 7) (C := 1 * b 9 + 2) 1 (by decide) (by decide : pw 1 = 2) (by omega) (by omega) (by omega) B8
    have ed2 : bt f.d 2 = b 9 := bt_at (A := 1 * b 7 + 2 * b 8) (C := 1) 2 (by decide) (by decide : pw 2 = 4) (by omega) (by omega) (by omega) B9
    have eimm0 : bt f.imm 0 = b 2 := bt_at (A := 0) (C := 1 * b 3 + 2 * b 4 + 4 * b 5 + 8 * b 6) 0 (by decide) (by decide : pw 0 = 1) (by omega) (by omega) (by omega) B2
    have eimm1 : bt f.imm 1 = b 3 := bt_at (A := 1 * b 2) (C := 1 * b 4 + 2 * b 5 + 4 * b 6) 1 (by decide) (by decide : pw 1 = 2) (by omega) (by omega) (by omega) B3
    have eimm2 : bt f.imm 2 = b 4 := bt_at (A := 1 * b 2 + 2 * b 3) (C := 1 * b 5 + 2 * b 6) 2 (by decide) (by decide : pw 2 = 4) (by omega) (by omega) (by omega) B4
    have eimm3 : bt f.imm 3 = b 5 := bt_at (A := 1 * b 2 + 2 * b 3 + 4 * b 4) (C := 1 * b 6) 3 (by decide) (by decide : pw 3 = 8) (by omega) (by omega) (by omega) B5
    have eimm4 : bt f.imm 4 = b 6 := bt_at (A := 1 * b 2 + 2 * b 3 + 4 * b 4 + 8 * b 5) (C := 0) 4 (by decide) (by decide : pw 4 = 16) (by omega) (by omega) (by omega) B6
    have hu := parC_u16 (row_ok (k := 9) (by decide)) f.d f.r f.t f.imm
    have hsp := sum16 _ hu.1 hu.2
    have hU : U32 (f.imm % 4294967296) := ⟨by omega, by omega⟩
    have hrd : f.r = f.d := by omega
    have z2 : or1 (b 2) 0 = b 2 := or1_b0 B2
    have z3 : or1 (b 3) 0 = b 3 := or1_b0 B3
    have z4 : or1 (b 4) 0 = b 4 := or1_b0 B4
    have z5 : or1 (b 5) 0 = b 5 := or1_b0 B5
    have z6 : or1 (b 6) 0 = b 6 := or1_b0 B6
    have z7 : or1 (b 7) 0 = b 7 := or1_b0 B7
    have z8 : or1 (b 8) 0 = b 8 := or1_b0 B8
    have z9 : or1 (b 9) 0 = b 9 := or1_b0 B9
    have q0 : bt (parC (rowC 9) f.d f.r f.t f.imm) 0 = 1 := by
      rw [parC_bt (row_ok (k := 9) (by decide))]
      show or1 (or1 (or1 (or1 (bt 33793 0) (bt (putP 5 f.d) 0)) (bt (putP 5 f.r) 0)) (bt (putP 0 f.t) 0)) (bt (sputC 1 f.imm) 0) = _
      rw [bput_5 f.d _ (by decide), bput_5 f.r _ (by decide), bput_0 f.t _ (by decide), sputC_bt, sput8 _ hU, show bt 33793 0 = 1 by decide]
      simp [pbP, spr, spr1, sprOf, or1_0, or1_1, or1_bb, bt_m32, hrd, ed0, ed1, ed2, eimm0, eimm1, eimm2, eimm3, eimm4, z2, z3, z4, z5, z6, z7, z8, z9]
    have q1 : bt (parC (rowC 9) f.d f.r f.t f.imm) 1 = 0 := by
      rw [parC_bt (row_ok (k := 9) (by decide))]
      show or1 (or1 (or1 (or1 (bt 33793 1) (bt (putP 5 f.d) 1)) (bt (putP 5 f.r) 1)) (bt (putP 0 f.t) 1)) (bt (sputC 1 f.imm) 1) = _
      rw [bput_5 f.d _ (by decide), bput_5 f.r _ (by decide), bput_0 f.t _ (by decide), sputC_bt, sput8 _ hU, show bt 33793 1 = 0 by decide]
      simp [pbP, spr, spr1, sprOf, or1_0, or1_1, or1_bb, bt_m32, hrd, ed0, ed1, ed2, eimm0, eimm1, eimm2, eimm3, eimm4, z2, z3, z4, z5, z6, z7, z8, z9]
    have q2 : bt (parC (rowC 9) f.d f.r f.t f.imm) 2 = b 2 := by
      rw [parC_bt (row_ok (k := 9) (by decide))]
      show or1 (or1 (or1 (or1 (bt 33793 2) (bt (putP 5 f.d) 2)) (bt (putP 5 f.r) 2)) (bt (putP 0 f.t) 2)) (bt (sputC 1 f.imm) 2) = _
      rw [bput_5 f.d _ (by decide), bput_5 f.r _ (by decide), bput_0 f.t _ (by decide), sputC_bt, sput8 _ hU, show bt 33793 2 = 0 by decide]
      simp [pbP, spr, spr1, sprOf, or1_0, or1_1, or1_bb, bt_m32, hrd, ed0, ed1, ed2, eimm0, eimm1, eimm2, eimm3, eimm4, z2, z3, z4, z5, z6, z7, z8, z9]
    have q3 : bt (parC (rowC 9) f.d f.r f.t f.imm) 3 = b 3 := by
      rw [parC_bt (row_ok (k := 9) (by decide))]
      show or1 (or1 (or1 (or1 (bt 33793 3) (bt (putP 5 f.d) 3)) (bt (putP 5 f.r) 3)) (bt (putP 0 f.t) 3)) (bt (sputC 1 f.imm) 3) = _
      rw [bput_5 f.d _ (by decide), bput_5 f.r _ (by decide), bput_0 f.t _ (by decide), sputC_bt, sput8 _ hU, show bt 33793 3 = 0 by decide]
      simp [pbP, spr, spr1, sprOf, or1_0, or1_1, or1_bb, bt_m32, hrd, ed0, ed1, ed2, eimm0, eimm1, eimm2, eimm3, eimm4, z2, z3, z4, z5, z6, z7, z8, z9]
    have q4 : bt (parC (rowC 9) f.d f.r f.t f.imm) 4 = b 4 := by
      rw [parC_bt (row_ok (k := 9) (by decide))]
      show or1 (or1 (or1 (or1 (bt 33793 4) (bt (putP 5 f.d) 4)) (bt (putP 5 f.r) 4)) (bt (putP 0 f.t) 4)) (bt (sputC 1 f.imm) 4) = _
      rw [bput_5 f.d _ (by decide), bput_5 f.r _ (by decide), bput_0 f.t _ (by decide), sputC_bt, sput8 _ hU, show bt 33793 4 = 0 by decide]
      simp [pbP, spr, spr1, sprOf, or1_0, or1_1, or1_bb, bt_m32, hrd, ed0, ed1, ed2, eimm0, eimm1, eimm2, eimm3, eimm4, z2, z3, z4, z5, z6, z7, z8, z9]
    have q5 : bt (parC (rowC 9) f.d f.r f.t f.imm) 5 = b 5 := by
      rw [parC_bt (row_ok (k := 9) (by decide))]
      show or1 (or1 (or1 (or1 (bt 33793 5) (bt (putP 5 f.d) 5)) (bt (putP 5 f.r) 5)) (bt (putP 0 f.t) 5)) (bt (sputC 1 f.imm) 5) = _
      rw [bput_5 f.d _ (by decide), bput_5 f.r _ (by decide), bput_0 f.t _ (by decide), sputC_bt, sput8 _ hU, show bt 33793 5 = 0 by decide]
      simp [pbP, spr, spr1, sprOf, or1_0, or1_1, or1_bb, bt_m32, hrd, ed0, ed1, ed2, eimm0, eimm1, eimm2, eimm3, eimm4, z2, z3, z4, z5, z6, z7, z8, z9]
    have q6 : bt (parC (rowC 9) f.d f.r f.t f.imm) 6 = b 6 := by
      rw [parC_bt (row_ok (k := 9) (by decide))]
      show or1 (or1 (or1 (or1 (bt 33793 6) (bt (putP 5 f.d) 6)) (bt (putP 5 f.r) 6)) (bt (putP 0 f.t) 6)) (bt (sputC 1 f.imm) 6) = _
      rw [bput_5 f.d _ (by decide), bput_5 f.r _ (by decide), bput_0 f.t _ (by decide), sputC_bt, sput8 _ hU, show bt 33793 6 = 0 by decide]
      simp [pbP, spr, spr1, sprOf, or1_0, or1_1, or1_bb, bt_m32, hrd, ed0, ed1, ed2, eimm0, eimm1, eimm2, eimm3, eimm4, z2, z3, z4, z5, z6, z7, z8, z9]
    have q7 : bt (parC (rowC 9) f.d f.r f.t f.imm) 7 = b 7 := by
      rw [parC_bt (row_ok (k := 9) (by decide))]
      show or1 (or1 (or1 (or1 (bt 33793 7) (bt (putP 5 f.d) 7)) (bt (putP 5 f.r) 7)) (bt (putP 0 f.t) 7)) (bt (sputC 1 f.imm) 7) = _
      rw [bput_5 f.d _ (by decide), bput_5 f.r _ (by decide), bput_0 f.t _ (by decide), sputC_bt, sput8 _ hU, show bt 33793 7 = 0 by decide]
      simp [pbP, spr, spr1, sprOf, or1_0, or1_1, or1_bb, bt_m32, hrd, ed0, ed1, ed2, eimm0, eimm1, eimm2, eimm3, eimm4, z2, z3, z4, z5, z6, z7, z8, z9]
    have q8 : bt (parC (rowC 9) f.d f.r f.t f.imm) 8 = b 8 := by
      rw [parC_bt (row_ok (k := 9) (by decide))]
      show or1 (or1 (or1 (or1 (bt 33793 8) (bt (putP 5 f.d) 8)) (bt (putP 5 f.r) 8)) (bt (putP 0 f.t) 8)) (bt (sputC 1 f.imm) 8) = _
      rw [bput_5 f.d _ (by decide), bput_5 f.r _ (by decide), bput_0 f.t _ (by decide), sputC_bt, sput8 _ hU, show bt 33793 8 = 0 by decide]
      simp [pbP, spr, spr1, sprOf, or1_0, or1_1, or1_bb, bt_m32, hrd, ed0, ed1, ed2, eimm0, eimm1, eimm2, eimm3, eimm4, z2, z3, z4, z5, z6, z7, z8, z9]
    have q9 : bt (parC (rowC 9) f.d f.r f.t f.imm) 9 = b 9 := by
      rw [parC_bt (row_ok (k := 9) (by decide))]
      show or1 (or1 (or1 (or1 (bt 33793 9) (bt (putP 5 f.d) 9)) (bt (putP 5 f.r) 9)) (bt (putP 0 f.t) 9)) (bt (sputC 1 f.imm) 9) = _
      rw [bput_5 f.d _ (by decide), bput_5 f.r _ (by decide), bput_0 f.t _ (by decide), sputC_bt, sput8 _ hU, show bt 33793 9 = 0 by decide]
      simp [pbP, spr, spr1, sprOf, or1_0, or1_1, or1_bb, bt_m32, hrd, ed0, ed1, ed2, eimm0, eimm1, eimm2, eimm3, eimm4, z2, z3, z4, z5, z6, z7, z8, z9]
    have q10 : bt (parC (rowC 9) f.d f.r f.t f.imm) 10 = 1 := by
      rw [parC_bt (row_ok (k := 9) (by decide))]
      show or1 (or1 (or1 (or1 (bt 33793 10) (bt (putP 5 f.d) 10)) (bt (putP 5 f.r) 10)) (bt (putP 0 f.t) 10)) (bt (sputC 1 f.imm) 10) = _
      rw [bput_5 f.d _ (by decide), bput_5 f.r _ (by decide), bput_0 f.t _ (by decide), sputC_bt, sput8 _ hU, show bt 33793 10 = 1 by decide]
      simp [pbP, spr, spr1, sprOf, or1_0, or1_1, or1_bb, bt_m32, hrd, ed0, ed1, ed2, eimm0, eimm1, eimm2, eimm3, eimm4, z2, z3, z4, z5, z6, z7, z8, z9]
    have q11 : bt (parC (rowC 9) f.d f.r f.t f.imm) 11 = 0 := by
      rw [parC_bt (row_ok (k := 9) (by decide))]
      show or1 (or1 (or1 (or1 (bt 33793 11) (bt (putP 5 f.d) 11)) (bt (putP 5 f.r) 11)) (bt (putP 0 f.t) 11)) (bt (sputC 1 f.imm) 11) = _
      rw [bput_5 f.d _ (by decide), bput_5 f.r _ (by decide), bput_0 f.t _ (by decide), sputC_bt, sput8 _ hU, show bt 33793 11 = 0 by decide]
      simp [pbP, spr, spr1, sprOf, or1_0, or1_1, or1_bb, bt_m32, hrd, ed0, ed1, ed2, eimm0, eimm1, eimm2, eimm3, eimm4, z2, z3, z4, z5, z6, z7, z8, z9]
    have q12 : bt (parC (rowC 9) f.d f.r f.t f.imm) 12 = 0 := by
      rw [parC_bt (row_ok (k := 9) (by decide))]
      show or1 (or1 (or1 (or1 (bt 33793 12) (bt (putP 5 f.d) 12)) (bt (putP 5 f.r) 12)) (bt (putP 0 f.t) 12)) (bt (sputC 1 f.imm) 12) = _
      rw [bput_5 f.d _ (by decide), bput_5 f.r _ (by decide), bput_0 f.t _ (by decide), sputC_bt, sput8 _ hU, show bt 33793 12 = 0 by decide]
      simp [pbP, spr, spr1, sprOf, or1_0, or1_1, or1_bb, bt_m32, hrd, ed0, ed1, ed2, eimm0, eimm1, eimm2, eimm3, eimm4, z2, z3, z4, z5, z6, z7, z8, z9]
    have q13 : bt (parC (rowC 9) f.d f.r f.t f.imm) 13 = 0 := by
      rw [parC_bt (row_ok (k := 9) (by decide))]
      show or1 (or1 (or1 (or1 (bt 33793 13) (bt (putP 5 f.d) 13)) (bt (putP 5 f.r) 13)) (bt (putP 0 f.t) 13)) (bt (sputC 1 f.imm) 13) = _
      rw [bput_5 f.d _ (by decide), bput_5 f.r _ (by decide), bput_0 f.t _ (by decide), sputC_bt, sput8 _ hU, show bt 33793 13 = 0 by decide]
      simp [pbP, spr, spr1, sprOf, or1_0, or1_1, or1_bb, bt_m32, hrd, ed0, ed1, ed2, eimm0, eimm1, eimm2, eimm3, eimm4, z2, z3, z4, z5, z6, z7, z8, z9]
    have q14 : bt (parC (rowC 9) f.d f.r f.t f.imm) 14 = 0 := by
      rw [parC_bt (row_ok (k := 9) (by decide))]
      show or1 (or1 (or1 (or1 (bt 33793 14) (bt (putP 5 f.d) 14)) (bt (putP 5 f.r) 14)) (bt (putP 0 f.t) 14)) (bt (sputC 1 f.imm) 14) = _
      rw [bput_5 f.d _ (by decide), bput_5 f.r _ (by decide), bput_0 f.t _ (by decide), sputC_bt, sput8 _ hU, show bt 33793 14 = 0 by decide]
      simp [pbP, spr, spr1, sprOf, or1_0, or1_1, or1_bb, bt_m32, hrd, ed0, ed1, ed2, eimm0, eimm1, eimm2, eimm3, eimm4, z2, z3, z4, z5, z6, z7, z8, z9]
    have q15 : bt (parC (rowC 9) f.d f.r f.t f.imm) 15 = 1 := by
      rw [parC_bt (row_ok (k := 9) (by decide))]
      show or1 (or1 (or1 (or1 (bt 33793 15) (bt (putP 5 f.d) 15)) (bt (putP 5 f.r) 15)) (bt (putP 0 f.t) 15)) (bt (sputC 1 f.imm) 15) = _
      rw [bput_5 f.d _ (by decide), bput_5 f.r _ (by decide), bput_0 f.t _ (by decide), sputC_bt, sput8 _ hU, show bt 33793 15 = 1 by decide]
      simp [pbP, spr, spr1, sprOf, or1_0, or1_1, or1_bb, bt_m32, hrd, ed0, ed1, ed2, eimm0, eimm1, eimm2, eimm3, eimm4, z2, z3, z4, z5, z6, z7, z8, z9]
    rw [q0, q1, q2, q3, q4, q5, q6, q7, q8, q9, q10, q11, q12, q13, q14, q15] at hsp
    omega
theorem backC_10 (p : Int) (f : Flds) (h0 : 0 ≤ p) (h1 : p < 65536) (h : instS (shortR 10) p = some f) : parC (rowC 10) f.d f.r f.t f.imm = p := by
  have hs := sum16 p h0 h1
  have hb := bt_bd p
  unfold instS at h
  rw [rd_rdB] at h
  generalize bt p = b at h hs hb
  simp [shortR, shortL, rdB, miss, rstep, badS, makeS, fieldS, eightS, cnt, immS2, immS1, hi, hiTo, hasB] at h
  split at h
  · cases h
  rename_i g hg
  simp only [Option.ite_none_right_eq_some, Option.some.injEq] at hg
  obtain ⟨c0, c1, c2, c3, c4, c5, c6, hg⟩ := hg
  have gd : g.d = 1 * b 7 + 2 * b 8 + 4 * b 9 := by subst hg; simp [pw] <;> omega
  have gr : g.r = 0 := by subst hg; simp [pw] <;> omega
  have gt : g.t = 0 := by subst hg; simp [pw] <;> omega
  have gimm : g.imm = 1 * b 2 + 2 * b 3 + 4 * b 4 + 8 * b 5 + 16 * b 6 + 32 * b 12 := by subst hg; simp [pw] <;> omega
  clear hg
  have B2 := hb 2
  have B3 := hb 3
  have B4 := hb 4
  have B5 := hb 5
  have B6 := hb 6
  have B7 := hb 7
  have B8 := hb 8
  have B9 := hb 9
  have B12 := hb 12
  clear hb
  have it : bt g.imm 5 = b 12 := by exact bt_at (A := 1 * b 2 + 2 * b 3 + 4 * b 4 + 8 * b 5 + 16 * b 6) (C := 0) 5 (by decide) (by decide : pw 5 = 32) (by omega) (by omega) (by omega) B12
  have hsg : sgn g.imm 5 = g.imm - 64 * b 12 := by rw [sgn_lin, it]; simp [pw]
  repeat' split at h
  all_goals first | (cases h; done) | skip
  all_goals
    have h := Option.some.inj h
    have hd := congrArg Flds.d h
    have hr := congrArg Flds.r h
    have ht := congrArg Flds.t h
    have hm := congrArg Flds.imm h
    clear h
    dsimp only at hd hr ht hm
    have ed0 : bt f.d 0 = b 7 := bt_at (A := 0) (C := 1 * b 8 + 2 * b 9 + 4) 0 (by decide) (by decide : pw 0 = 1) (by omega) (by omega) (by omega) B7
    have ed1 : bt f.d 1 = b 8 := bt_at (A := 1 * b 7) (C := 1 * b 9 + 2) 1 (by decide) (by decide : pw 1 = 2) (by omega) (by omega) (by omega) B8
    have ed2 : bt f.d 2 = b 9 := bt_at (A := 1 * b 7 + 2 * b 8) (C := 1) 2 (by decide) (by decide : pw 2 = 4) (by omega) (by omega) (by omega) B9
    have eimm0 : bt f.imm 0 = b 2 := bt_at (A := 0) (C := 1 * b 3 + 2 * b 4 + 4 * b 5 + 8 * b 6 + 16 * b 12 + -32 * b 12) 0 (by decide) (by decide : pw 0 = 1) (by omega) (by omega) (by omega) B2
    have eimm1 : bt f.imm 1 = b 3 := bt_at (A := 1 * b 2) (C := 1 * b 4 + 2 * b 5 + 4 * b 6 + 8 * b 12 + -16 * b 12) 1 (by decide) (by decide : pw 1 = 2) (by omega) (by omega) (by omega) B3
    have eimm2 : bt f.imm 2 = b 4 := bt_at (A := 1 * b 2 + 2 * b 3) (C := 1 * b 5 + 2 * b 6 + 4 * b 12 + -8 * b 12) 2 (by decide) (by decide : pw 2 = 4) (by omega) (by omega) (by omega) B4
    have eimm3 : bt f.imm 3 = b 5 := bt_at (A := 1 * b 2 + 2 * b 3 + 4 * b 4) (C := 1 * b 6 + 2 * b 12 + -4 * b 12) 3 (by decide) (by decide : pw 3 = 8) (by omega) (by omega) (by omega) B5
    have eimm4 : bt f.imm 4 = b 6 := bt_at (A := 1 * b 2 + 2 * b 3 + 4 * b 4 + 8 * b 5) (C := 1 * b 12 + -2 * b 12) 4 (by decide) (by decide : pw 4 = 16) (by omega) (by omega) (by omega) B6
    have eimm5 : bt f.imm 5 = b 12 := bt_at (A := 1 * b 2 + 2 * b 3 + 4 * b 4 + 8 * b 5 + 16 * b 6) (C := -1 * b 12) 5 (by decide) (by decide : pw 5 = 32) (by omega) (by omega) (by omega) B12
    have hu := parC_u16 (row_ok (k := 10) (by decide)) f.d f.r f.t f.imm
    have hsp := sum16 _ hu.1 hu.2
    have hU : U32 (f.imm % 4294967296) := ⟨by omega, by omega⟩
    have hrd : f.r = f.d := by omega
    have z2 : or1 (b 2) 0 = b 2 := or1_b0 B2
    have z3 : or1 (b 3) 0 = b 3 := or1_b0 B3
    have z4 : or1 (b 4) 0 = b 4 := or1_b0 B4
    have z5 : or1 (b 5) 0 = b 5 := or1_b0 B5
    have z6 : or1 (b 6) 0 = b 6 := or1_b0 B6
    have z7 : or1 (b 7) 0 = b 7 := or1_b0 B7
    have z8 : or1 (b 8) 0 = b 8 := or1_b0 B8
    have z9 : or1 (b 9) 0 = b 9 := or1_b0 B9
    have z12 : or1 (b 12) 0 = b 12 := or1_b0 B12
    have q0 : bt (parC (rowC 10) f.d f.r f.t f.imm) 0 = 1 := by
      rw [parC_bt (row_ok (k := 10) (by decide))]
      show or1 (or1 (or1 (or1 (bt 34817 0) (bt (putP 5 f.d) 0)) (bt (putP 5 f.r) 0)) (bt (putP 0 f.t) 0)) (bt (sputC 2 f.imm) 0) = _
      rw [bput_5 f.d _ (by decide), bput_5 f.r _ (by decide), bput_0 f.t _ (by decide), sputC_bt, sput8 _ hU, show bt 34817 0 = 1 by decide]
      simp [pbP, spr, spr2, sprOf, or1_0, or1_1, or1_bb, bt_m32, hrd, ed0, ed1, ed2, eimm0, eimm1, eimm2, eimm3, eimm4, eimm5, z2, z3, z4, z5, z6, z7, z8, z9, z12]
    have q1 : bt (parC (rowC 10) f.d f.r f.t f.imm) 1 = 0 := by
      rw [parC_bt (row_ok (k := 10) (by decide))]
      show or1 (or1 (or1 (or1 (bt 34817 1) (bt (putP 5 f.d) 1)) (bt (putP 5 f.r) 1)) (bt (putP 0 f.t) 1)) (bt (sputC 2 f.imm) 1) = _
      rw [bput_5 f.d _ (by decide), bput_5 f.r _ (by decide), bput_0 f.t _ (by decide), sputC_bt, sput8 _ hU, show bt 34817 1 = 0 by decide]
      simp [pbP, spr, spr2, sprOf, or1_0, or1_1, or1_bb, bt_m32, hrd, ed0, ed1, ed2, eimm0, eimm1, eimm2, eimm3, eimm4, eimm5, z2, z3, z4, z5, z6, z7, z8, z9, z12]
    have q2 : bt (parC (rowC 10) f.d f.r f.t f.imm) 2 = b 2 := by
      rw [parC_bt (row_ok (k := 10) (by decide))]
      show or1 (or1 (or1 (or1 (bt 34817 2) (bt (putP 5 f.d) 2)) (bt (putP 5 f.r) 2)) (bt (putP 0 f.t) 2)) (bt (sputC 2 f.imm) 2) = _
      rw [bput_5 f.d _ (by decide), bput_5 f.r _ (by decide), bput_0 f.t _ (by decide), sputC_bt, sput8 _ hU, show bt 34817 2 = 0 by decide]
      simp [pbP, spr, spr2, sprOf, or1_0, or1_1, or1_bb, bt_m32, hrd, ed0, ed1, ed2, eimm0, eimm1, eimm2, eimm3, eimm4, eimm5, z2, z3, z4, z5, z6, z7, z8, z9, z12]
    have q3 : bt (parC (rowC 10) f.d f.r f.t f.imm) 3 = b 3 := by
      rw [parC_bt (row_ok (k := 10) (by decide))]
      show or1 (or1 (or1 (or1 (bt 34817 3) (bt (putP 5 f.d) 3)) (bt (putP 5 f.r) 3)) (bt (putP 0 f.t) 3)) (bt (sputC 2 f.imm) 3) = _
      rw [bput_5 f.d _ (by decide), bput_5 f.r _ (by decide), bput_0 f.t _ (by decide), sputC_bt, sput8 _ hU, show bt 34817 3 = 0 by decide]
      simp [pbP, spr, spr2, sprOf, or1_0, or1_1, or1_bb, bt_m32, hrd, ed0, ed1, ed2, eimm0, eimm1, eimm2, eimm3, eimm4, eimm5, z2, z3, z4, z5, z6, z7, z8, z9, z12]
    have q4 : bt (parC (rowC 10) f.d f.r f.t f.imm) 4 = b 4 := by
      rw [parC_bt (row_ok (k := 10) (by decide))]
      show or1 (or1 (or1 (or1 (bt 34817 4) (bt (putP 5 f.d) 4)) (bt (putP 5 f.r) 4)) (bt (putP 0 f.t) 4)) (bt (sputC 2 f.imm) 4) = _
      rw [bput_5 f.d _ (by decide), bput_5 f.r _ (by decide), bput_0 f.t _ (by decide), sputC_bt, sput8 _ hU, show bt 34817 4 = 0 by decide]
      simp [pbP, spr, spr2, sprOf, or1_0, or1_1, or1_bb, bt_m32, hrd, ed0, ed1, ed2, eimm0, eimm1, eimm2, eimm3, eimm4, eimm5, z2, z3, z4, z5, z6, z7, z8, z9, z12]
    have q5 : bt (parC (rowC 10) f.d f.r f.t f.imm) 5 = b 5 := by
      rw [parC_bt (row_ok (k := 10) (by decide))]
      show or1 (or1 (or1 (or1 (bt 34817 5) (bt (putP 5 f.d) 5)) (bt (putP 5 f.r) 5)) (bt (putP 0 f.t) 5)) (bt (sputC 2 f.imm) 5) = _
      rw [bput_5 f.d _ (by decide), bput_5 f.r _ (by decide), bput_0 f.t _ (by decide), sputC_bt, sput8 _ hU, show bt 34817 5 = 0 by decide]
      simp [pbP, spr, spr2, sprOf, or1_0, or1_1, or1_bb, bt_m32, hrd, ed0, ed1, ed2, eimm0, eimm1, eimm2, eimm3, eimm4, eimm5, z2, z3, z4, z5, z6, z7, z8, z9, z12]
    have q6 : bt (parC (rowC 10) f.d f.r f.t f.imm) 6 = b 6 := by
      rw [parC_bt (row_ok (k := 10) (by decide))]
      show or1 (or1 (or1 (or1 (bt 34817 6) (bt (putP 5 f.d) 6)) (bt (putP 5 f.r) 6)) (bt (putP 0 f.t) 6)) (bt (sputC 2 f.imm) 6) = _
      rw [bput_5 f.d _ (by decide), bput_5 f.r _ (by decide), bput_0 f.t _ (by decide), sputC_bt, sput8 _ hU, show bt 34817 6 = 0 by decide]
      simp [pbP, spr, spr2, sprOf, or1_0, or1_1, or1_bb, bt_m32, hrd, ed0, ed1, ed2, eimm0, eimm1, eimm2, eimm3, eimm4, eimm5, z2, z3, z4, z5, z6, z7, z8, z9, z12]
    have q7 : bt (parC (rowC 10) f.d f.r f.t f.imm) 7 = b 7 := by
      rw [parC_bt (row_ok (k := 10) (by decide))]
      show or1 (or1 (or1 (or1 (bt 34817 7) (bt (putP 5 f.d) 7)) (bt (putP 5 f.r) 7)) (bt (putP 0 f.t) 7)) (bt (sputC 2 f.imm) 7) = _
      rw [bput_5 f.d _ (by decide), bput_5 f.r _ (by decide), bput_0 f.t _ (by decide), sputC_bt, sput8 _ hU, show bt 34817 7 = 0 by decide]
      simp [pbP, spr, spr2, sprOf, or1_0, or1_1, or1_bb, bt_m32, hrd, ed0, ed1, ed2, eimm0, eimm1, eimm2, eimm3, eimm4, eimm5, z2, z3, z4, z5, z6, z7, z8, z9, z12]
    have q8 : bt (parC (rowC 10) f.d f.r f.t f.imm) 8 = b 8 := by
      rw [parC_bt (row_ok (k := 10) (by decide))]
      show or1 (or1 (or1 (or1 (bt 34817 8) (bt (putP 5 f.d) 8)) (bt (putP 5 f.r) 8)) (bt (putP 0 f.t) 8)) (bt (sputC 2 f.imm) 8) = _
      rw [bput_5 f.d _ (by decide), bput_5 f.r _ (by decide), bput_0 f.t _ (by decide), sputC_bt, sput8 _ hU, show bt 34817 8 = 0 by decide]
      simp [pbP, spr, spr2, sprOf, or1_0, or1_1, or1_bb, bt_m32, hrd, ed0, ed1, ed2, eimm0, eimm1, eimm2, eimm3, eimm4, eimm5, z2, z3, z4, z5, z6, z7, z8, z9, z12]
    have q9 : bt (parC (rowC 10) f.d f.r f.t f.imm) 9 = b 9 := by
      rw [parC_bt (row_ok (k := 10) (by decide))]
      show or1 (or1 (or1 (or1 (bt 34817 9) (bt (putP 5 f.d) 9)) (bt (putP 5 f.r) 9)) (bt (putP 0 f.t) 9)) (bt (sputC 2 f.imm) 9) = _
      rw [bput_5 f.d _ (by decide), bput_5 f.r _ (by decide), bput_0 f.t _ (by decide), sputC_bt, sput8 _ hU, show bt 34817 9 = 0 by decide]
      simp [pbP, spr, spr2, sprOf, or1_0, or1_1, or1_bb, bt_m32, hrd, ed0, ed1, ed2, eimm0, eimm1, eimm2, eimm3, eimm4, eimm5, z2, z3, z4, z5, z6, z7, z8, z9, z12]
    have q10 : bt (parC (rowC 10) f.d f.r f.t f.imm) 10 = 0 := by
      rw [parC_bt (row_ok (k := 10) (by decide))]
      show or1 (or1 (or1 (or1 (bt 34817 10) (bt (putP 5 f.d) 10)) (bt (putP 5 f.r) 10)) (bt (putP 0 f.t) 10)) (bt (sputC 2 f.imm) 10) = _
      rw [bput_5 f.d _ (by decide), bput_5 f.r _ (by decide), bput_0 f.t _ (by decide), sputC_bt, sput8 _ hU, show bt 34817 10 = 0 by decide]
      simp [pbP, spr, spr2, sprOf, or1_0, or1_1, or1_bb, bt_m32, hrd, ed0, ed1, ed2, eimm0, eimm1, eimm2, eimm3, eimm4, eimm5, z2, z3, z4, z5, z6, z7, z8, z9, z12]
    have q11 : bt (parC (rowC 10) f.d f.r f.t f.imm) 11 = 1 := by
      rw [parC_bt (row_ok (k := 10) (by decide))]
      show or1 (or1 (or1 (or1 (bt 34817 11) (bt (putP 5 f.d) 11)) (bt (putP 5 f.r) 11)) (bt (putP 0 f.t) 11)) (bt (sputC 2 f.imm) 11) = _
      rw [bput_5 f.d _ (by decide), bput_5 f.r _ (by decide), bput_0 f.t _ (by decide), sputC_bt, sput8 _ hU, show bt 34817 11 = 1 by decide]
      simp [pbP, spr, spr2, sprOf, or1_0, or1_1, or1_bb, bt_m32, hrd, ed0, ed1, ed2, eimm0, eimm1, eimm2, eimm3, eimm4, eimm5, z2, z3, z4, z5, z6, z7, z8, z9, z12]
    have q12 : bt (parC (rowC 10) f.d f.r f.t f.imm) 12 = b 12 := by
      rw [parC_bt (row_ok (k := 10) (by decide))]
      show or1 (or1 (or1 (or1 (bt 34817 12) (bt (putP 5 f.d) 12)) (bt (putP 5 f.r) 12)) (bt (putP 0 f.t) 12)) (bt (sputC 2 f.imm) 12) = _
      rw [bput_5 f.d _ (by decide), bput_5 f.r _ (by decide), bput_0 f.t _ (by decide), sputC_bt, sput8 _ hU, show bt 34817 12 = 0 by decide]
      simp [pbP, spr, spr2, sprOf, or1_0, or1_1, or1_bb, bt_m32, hrd, ed0, ed1, ed2, eimm0, eimm1, eimm2, eimm3, eimm4, eimm5, z2, z3, z4, z5, z6, z7, z8, z9, z12]
    have q13 : bt (parC (rowC 10) f.d f.r f.t f.imm) 13 = 0 := by
      rw [parC_bt (row_ok (k := 10) (by decide))]
      show or1 (or1 (or1 (or1 (bt 34817 13) (bt (putP 5 f.d) 13)) (bt (putP 5 f.r) 13)) (bt (putP 0 f.t) 13)) (bt (sputC 2 f.imm) 13) = _
      rw [bput_5 f.d _ (by decide), bput_5 f.r _ (by decide), bput_0 f.t _ (by decide), sputC_bt, sput8 _ hU, show bt 34817 13 = 0 by decide]
      simp [pbP, spr, spr2, sprOf, or1_0, or1_1, or1_bb, bt_m32, hrd, ed0, ed1, ed2, eimm0, eimm1, eimm2, eimm3, eimm4, eimm5, z2, z3, z4, z5, z6, z7, z8, z9, z12]
    have q14 : bt (parC (rowC 10) f.d f.r f.t f.imm) 14 = 0 := by
      rw [parC_bt (row_ok (k := 10) (by decide))]
      show or1 (or1 (or1 (or1 (bt 34817 14) (bt (putP 5 f.d) 14)) (bt (putP 5 f.r) 14)) (bt (putP 0 f.t) 14)) (bt (sputC 2 f.imm) 14) = _
      rw [bput_5 f.d _ (by decide), bput_5 f.r _ (by decide), bput_0 f.t _ (by decide), sputC_bt, sput8 _ hU, show bt 34817 14 = 0 by decide]
      simp [pbP, spr, spr2, sprOf, or1_0, or1_1, or1_bb, bt_m32, hrd, ed0, ed1, ed2, eimm0, eimm1, eimm2, eimm3, eimm4, eimm5, z2, z3, z4, z5, z6, z7, z8, z9, z12]
    have q15 : bt (parC (rowC 10) f.d f.r f.t f.imm) 15 = 1 := by
      rw [parC_bt (row_ok (k := 10) (by decide))]
      show or1 (or1 (or1 (or1 (bt 34817 15) (bt (putP 5 f.d) 15)) (bt (putP 5 f.r) 15)) (bt (putP 0 f.t) 15)) (bt (sputC 2 f.imm) 15) = _
      rw [bput_5 f.d _ (by decide), bput_5 f.r _ (by decide), bput_0 f.t _ (by decide), sputC_bt, sput8 _ hU, show bt 34817 15 = 1 by decide]
      simp [pbP, spr, spr2, sprOf, or1_0, or1_1, or1_bb, bt_m32, hrd, ed0, ed1, ed2, eimm0, eimm1, eimm2, eimm3, eimm4, eimm5, z2, z3, z4, z5, z6, z7, z8, z9, z12]
    rw [q0, q1, q2, q3, q4, q5, q6, q7, q8, q9, q10, q11, q12, q13, q14, q15] at hsp
    omega
theorem backC_11 (p : Int) (f : Flds) (h0 : 0 ≤ p) (h1 : p < 65536) (h : instS (shortR 11) p = some f) : parC (rowC 11) f.d f.r f.t f.imm = p := by
  have hs := sum16 p h0 h1
  have hb := bt_bd p
  unfold instS at h
  rw [rd_rdB] at h
  generalize bt p = b at h hs hb
  simp [shortR, shortL, rdB, miss, rstep, badS, makeS, fieldS, eightS, cnt, immS2, immS1, hi, hiTo, hasB] at h
  split at h
  · cases h
  rename_i g hg
  simp only [Option.ite_none_right_eq_some, Option.some.injEq] at hg
  obtain ⟨c0, c1, c2, c3, c4, c5, c6, c7, c8, c9, hg⟩ := hg
  have gd : g.d = 1 * b 7 + 2 * b 8 + 4 * b 9 := by subst hg; simp [pw] <;> omega
  have gr : g.r = 0 := by subst hg; simp [pw] <;> omega
  have gt : g.t = 1 * b 2 + 2 * b 3 + 4 * b 4 := by subst hg; simp [pw] <;> omega
  have gimm : g.imm = 0 := by subst hg; simp [pw] <;> omega
  clear hg
  have B2 := hb 2
  have B3 := hb 3
  have B4 := hb 4
  have B7 := hb 7
  have B8 := hb 8
  have B9 := hb 9
  clear hb
  repeat' split at h
  all_goals first | (cases h; done) | skip
  all_goals
    have h := Option.some.inj h
    have hd := congrArg Flds.d h
    have hr := congrArg Flds.r h
    have ht := congrArg Flds.t h
    have hm := congrArg Flds.imm h
    clear h
    dsimp only at hd hr ht hm
    have ed0 : bt f.d 0 = b 7 := bt_at (A := 0) (C := 1 * b 8 + 2 * b 9 + 4) 0 (by decide) (by decide : pw 0 = 1) (by omega) (by omega) (by omega) B7
    have ed1 : bt f.d 1 = b 8 := bt_at (A := 1 * b 7) (C := 1 * b 9 + 2) 1 (by decide) (by decide : pw 1 = 2) (by omega) (by omega) (by omega) B8
    have ed2 : bt f.d 2 = b 9 := bt_at (A := 1 * b 7 + 2 * b 8) (C := 1) 2 (by decide) (by decide : pw 2 = 4) (by omega) (by omega) (by omega) B9
    have et0 : bt f.t 0 = b 2 := bt_at (A := 0) (C := 1 * b 3 + 2 * b 4 + 4) 0 (by decide) (by decide : pw 0 = 1) (by omega) (by omega) (by omega) B2
    have et1 : bt f.t 1 = b 3 := bt_at (A := 1 * b 2) (C := 1 * b 4 + 2) 1 (by decide) (by decide : pw 1 = 2) (by omega) (by omega) (by omega) B3
    have et2 : bt f.t 2 = b 4 := bt_at (A := 1 * b 2 + 2 * b 3) (C := 1) 2 (by decide) (by decide : pw 2 = 4) (by omega) (by omega) (by omega) B4
    have hu := parC_u16 (row_ok (k := 11) (by decide)) f.d f.r f.t f.imm
    have hsp := sum16 _ hu.1 hu.2
    have hU : U32 (f.imm % 4294967296) := ⟨by omega, by omega⟩
    have hrd : f.r = f.d := by omega
    have z2 : or1 (b 2) 0 = b 2 := or1_b0 B2
    have z3 : or1 (b 3) 0 = b 3 := or1_b0 B3
    have z4 : or1 (b 4) 0 = b 4 := or1_b0 B4
    have z7 : or1 (b 7) 0 = b 7 := or1_b0 B7
    have z8 : or1 (b 8) 0 = b 8 := or1_b0 B8
    have z9 : or1 (b 9) 0 = b 9 := or1_b0 B9
    have q0 : bt (parC (rowC 11) f.d f.r f.t f.imm) 0 = 1 := by
      rw [parC_bt (row_ok (k := 11) (by decide))]
      show or1 (or1 (or1 (or1 (bt 35841 0) (bt (putP 5 f.d) 0)) (bt (putP 5 f.r) 0)) (bt (putP 6 f.t) 0)) (bt (sputC 0 f.imm) 0) = _
      rw [bput_5 f.d _ (by decide), bput_5 f.r _ (by decide), bput_6 f.t _ (by decide), sputC_bt, sput8 _ hU, show bt 35841 0 = 1 by decide]
      simp [pbP, spr, spr0, sprOf, or1_0, or1_1, or1_bb, bt_m32, hrd, ed0, ed1, ed2, et0, et1, et2, z2, z3, z4, z7, z8, z9]
    have q1 : bt (parC (rowC 11) f.d f.r f.t f.imm) 1 = 0 := by
      rw [parC_bt (row_ok (k := 11) (by decide))]
      show or1 (or1 (or1 (or1 (bt 35841 1) (bt (putP 5 f.d) 1)) (bt (putP 5 f.r) 1)) (bt (putP 6 f.t) 1)) (bt (sputC 0 f.imm) 1) = _
      rw [bput_5 f.d _ (by decide), bput_5 f.r _ (by decide), bput_6 f.t _ (by decide), sputC_bt, sput8 _ hU, show bt 35841 1 = 0 by decide]
      simp [pbP, spr, spr0, sprOf, or1_0, or1_1, or1_bb, bt_m32, hrd, ed0, ed1, ed2, et0, et1, et2, z2, z3, z4, z7, z8, z9]
    have q2 : bt (parC (rowC 11) f.d f.r f.t f.imm) 2 = b 2 := by
      rw [parC_bt (row_ok (k := 11) (by decide))]
      show or1 (or1 (or1 (or1 (bt 35841 2) (bt (putP 5 f.d) 2)) (bt (putP 5 f.r) 2)) (bt (putP 6 f.t) 2)) (bt (sputC 0 f.imm) 2) = _
      rw [bput_5 f.d _ (by decide), bput_5 f.r _ (by decide), bput_6 f.t _ (by decide), sputC_bt, sput8 _ hU, show bt 35841 2 = 0 by decide]
      simp [pbP, spr, spr0, sprOf, or1_0, or1_1, or1_bb, bt_m32, hrd, ed0, ed1, ed2, et0, et1, et2, z2, z3, z4, z7, z8, z9]
    have q3 : bt (parC (rowC 11) f.d f.r f.t f.imm) 3 = b 3 := by
      rw [parC_bt (row_ok (k := 11) (by decide))]
      show or1 (or1 (or1 (or1 (bt 35841 3) (bt (putP 5 f.d) 3)) (bt (putP 5 f.r) 3)) (bt (putP 6 f.t) 3)) (bt (sputC 0 f.imm) 3) = _
      rw [bput_5 f.d _ (by decide), bput_5 f.r _ (by decide), bput_6 f.t _ (by decide), sputC_bt, sput8 _ hU, show bt 35841 3 = 0 by decide]
      simp [pbP, spr, spr0, sprOf, or1_0, or1_1, or1_bb, bt_m32, hrd, ed0, ed1, ed2, et0, et1, et2, z2, z3, z4, z7, z8, z9]
    have q4 : bt (parC (rowC 11) f.d f.r f.t f.imm) 4 = b 4 := by
      rw [parC_bt (row_ok (k := 11) (by decide))]
      show or1 (or1 (or1 (or1 (bt 35841 4) (bt (putP 5 f.d) 4)) (bt (putP 5 f.r) 4)) (bt (putP 6 f.t) 4)) (bt (sputC 0 f.imm) 4) = _
      rw [bput_5 f.d _ (by decide), bput_5 f.r _ (by decide), bput_6 f.t _ (by decide), sputC_bt, sput8 _ hU, show bt 35841 4 = 0 by decide]
      simp [pbP, spr, spr0, sprOf, or1_0, or1_1, or1_bb, bt_m32, hrd, ed0, ed1, ed2, et0, et1, et2, z2, z3, z4, z7, z8, z9]
    have q5 : bt (parC (rowC 11) f.d f.r f.t f.imm) 5 = 0 := by
      rw [parC_bt (row_ok (k := 11) (by decide))]
      show or1 (or1 (or1 (or1 (bt 35841 5) (bt (putP 5 f.d) 5)) (bt (putP 5 f.r) 5)) (bt (putP 6 f.t) 5)) (bt (sputC 0 f.imm) 5) = _
      rw [bput_5 f.d _ (by decide), bput_5 f.r _ (by decide), bput_6 f.t _ (by decide), sputC_bt, sput8 _ hU, show bt 35841 5 = 0 by decide]
      simp [pbP, spr, spr0, sprOf, or1_0, or1_1, or1_bb, bt_m32, hrd, ed0, ed1, ed2, et0, et1, et2, z2, z3, z4, z7, z8, z9]
    have q6 : bt (parC (rowC 11) f.d f.r f.t f.imm) 6 = 0 := by
      rw [parC_bt (row_ok (k := 11) (by decide))]
      show or1 (or1 (or1 (or1 (bt 35841 6) (bt (putP 5 f.d) 6)) (bt (putP 5 f.r) 6)) (bt (putP 6 f.t) 6)) (bt (sputC 0 f.imm) 6) = _
      rw [bput_5 f.d _ (by decide), bput_5 f.r _ (by decide), bput_6 f.t _ (by decide), sputC_bt, sput8 _ hU, show bt 35841 6 = 0 by decide]
      simp [pbP, spr, spr0, sprOf, or1_0, or1_1, or1_bb, bt_m32, hrd, ed0, ed1, ed2, et0, et1, et2, z2, z3, z4, z7, z8, z9]
    have q7 : bt (parC (rowC 11) f.d f.r f.t f.imm) 7 = b 7 := by
      rw [parC_bt (row_ok (k := 11) (by decide))]
      show or1 (or1 (or1 (or1 (bt 35841 7) (bt (putP 5 f.d) 7)) (bt (putP 5 f.r) 7)) (bt (putP 6 f.t) 7)) (bt (sputC 0 f.imm) 7) = _
      rw [bput_5 f.d _ (by decide), bput_5 f.r _ (by decide), bput_6 f.t _ (by decide), sputC_bt, sput8 _ hU, show bt 35841 7 = 0 by decide]
      simp [pbP, spr, spr0, sprOf, or1_0, or1_1, or1_bb, bt_m32, hrd, ed0, ed1, ed2, et0, et1, et2, z2, z3, z4, z7, z8, z9]
    have q8 : bt (parC (rowC 11) f.d f.r f.t f.imm) 8 = b 8 := by
      rw [parC_bt (row_ok (k := 11) (by decide))]
      show or1 (or1 (or1 (or1 (bt 35841 8) (bt (putP 5 f.d) 8)) (bt (putP 5 f.r) 8)) (bt (putP 6 f.t) 8)) (bt (sputC 0 f.imm) 8) = _
      rw [bput_5 f.d _ (by decide), bput_5 f.r _ (by decide), bput_6 f.t _ (by decide), sputC_bt, sput8 _ hU, show bt 35841 8 = 0 by decide]
      simp [pbP, spr, spr0, sprOf, or1_0, or1_1, or1_bb, bt_m32, hrd, ed0, ed1, ed2, et0, et1, et2, z2, z3, z4, z7, z8, z9]
    have q9 : bt (parC (rowC 11) f.d f.r f.t f.imm) 9 = b 9 := by
      rw [parC_bt (row_ok (k := 11) (by decide))]
      show or1 (or1 (or1 (or1 (bt 35841 9) (bt (putP 5 f.d) 9)) (bt (putP 5 f.r) 9)) (bt (putP 6 f.t) 9)) (bt (sputC 0 f.imm) 9) = _
      rw [bput_5 f.d _ (by decide), bput_5 f.r _ (by decide), bput_6 f.t _ (by decide), sputC_bt, sput8 _ hU, show bt 35841 9 = 0 by decide]
      simp [pbP, spr, spr0, sprOf, or1_0, or1_1, or1_bb, bt_m32, hrd, ed0, ed1, ed2, et0, et1, et2, z2, z3, z4, z7, z8, z9]
    have q10 : bt (parC (rowC 11) f.d f.r f.t f.imm) 10 = 1 := by
      rw [parC_bt (row_ok (k := 11) (by decide))]
      show or1 (or1 (or1 (or1 (bt 35841 10) (bt (putP 5 f.d) 10)) (bt (putP 5 f.r) 10)) (bt (putP 6 f.t) 10)) (bt (sputC 0 f.imm) 10) = _
      rw [bput_5 f.d _ (by decide), bput_5 f.r _ (by decide), bput_6 f.t _ (by decide), sputC_bt, sput8 _ hU, show bt 35841 10 = 1 by decide]
      simp [pbP, spr, spr0, sprOf, or1_0, or1_1, or1_bb, bt_m32, hrd, ed0, ed1, ed2, et0, et1, et2, z2, z3, z4, z7, z8, z9]
    have q11 : bt (parC (rowC 11) f.d f.r f.t f.imm) 11 = 1 := by
      rw [parC_bt (row_ok (k := 11) (by decide))]
      show or1 (or1 (or1 (or1 (bt 35841 11) (bt (putP 5 f.d) 11)) (bt (putP 5 f.r) 11)) (bt (putP 6 f.t) 11)) (bt (sputC 0 f.imm) 11) = _
      rw [bput_5 f.d _ (by decide), bput_5 f.r _ (by decide), bput_6 f.t _ (by decide), sputC_bt, sput8 _ hU, show bt 35841 11 = 1 by decide]
      simp [pbP, spr, spr0, sprOf, or1_0, or1_1, or1_bb, bt_m32, hrd, ed0, ed1, ed2, et0, et1, et2, z2, z3, z4, z7, z8, z9]
    have q12 : bt (parC (rowC 11) f.d f.r f.t f.imm) 12 = 0 := by
      rw [parC_bt (row_ok (k := 11) (by decide))]
      show or1 (or1 (or1 (or1 (bt 35841 12) (bt (putP 5 f.d) 12)) (bt (putP 5 f.r) 12)) (bt (putP 6 f.t) 12)) (bt (sputC 0 f.imm) 12) = _
      rw [bput_5 f.d _ (by decide), bput_5 f.r _ (by decide), bput_6 f.t _ (by decide), sputC_bt, sput8 _ hU, show bt 35841 12 = 0 by decide]
      simp [pbP, spr, spr0, sprOf, or1_0, or1_1, or1_bb, bt_m32, hrd, ed0, ed1, ed2, et0, et1, et2, z2, z3, z4, z7, z8, z9]
    have q13 : bt (parC (rowC 11) f.d f.r f.t f.imm) 13 = 0 := by
      rw [parC_bt (row_ok (k := 11) (by decide))]
      show or1 (or1 (or1 (or1 (bt 35841 13) (bt (putP 5 f.d) 13)) (bt (putP 5 f.r) 13)) (bt (putP 6 f.t) 13)) (bt (sputC 0 f.imm) 13) = _
      rw [bput_5 f.d _ (by decide), bput_5 f.r _ (by decide), bput_6 f.t _ (by decide), sputC_bt, sput8 _ hU, show bt 35841 13 = 0 by decide]
      simp [pbP, spr, spr0, sprOf, or1_0, or1_1, or1_bb, bt_m32, hrd, ed0, ed1, ed2, et0, et1, et2, z2, z3, z4, z7, z8, z9]
    have q14 : bt (parC (rowC 11) f.d f.r f.t f.imm) 14 = 0 := by
      rw [parC_bt (row_ok (k := 11) (by decide))]
      show or1 (or1 (or1 (or1 (bt 35841 14) (bt (putP 5 f.d) 14)) (bt (putP 5 f.r) 14)) (bt (putP 6 f.t) 14)) (bt (sputC 0 f.imm) 14) = _
      rw [bput_5 f.d _ (by decide), bput_5 f.r _ (by decide), bput_6 f.t _ (by decide), sputC_bt, sput8 _ hU, show bt 35841 14 = 0 by decide]
      simp [pbP, spr, spr0, sprOf, or1_0, or1_1, or1_bb, bt_m32, hrd, ed0, ed1, ed2, et0, et1, et2, z2, z3, z4, z7, z8, z9]
    have q15 : bt (parC (rowC 11) f.d f.r f.t f.imm) 15 = 1 := by
      rw [parC_bt (row_ok (k := 11) (by decide))]
      show or1 (or1 (or1 (or1 (bt 35841 15) (bt (putP 5 f.d) 15)) (bt (putP 5 f.r) 15)) (bt (putP 6 f.t) 15)) (bt (sputC 0 f.imm) 15) = _
      rw [bput_5 f.d _ (by decide), bput_5 f.r _ (by decide), bput_6 f.t _ (by decide), sputC_bt, sput8 _ hU, show bt 35841 15 = 1 by decide]
      simp [pbP, spr, spr0, sprOf, or1_0, or1_1, or1_bb, bt_m32, hrd, ed0, ed1, ed2, et0, et1, et2, z2, z3, z4, z7, z8, z9]
    rw [q0, q1, q2, q3, q4, q5, q6, q7, q8, q9, q10, q11, q12, q13, q14, q15] at hsp
    omega
theorem backC_12 (p : Int) (f : Flds) (h0 : 0 ≤ p) (h1 : p < 65536) (h : instS (shortR 12) p = some f) : parC (rowC 12) f.d f.r f.t f.imm = p := by
  have hs := sum16 p h0 h1
  have hb := bt_bd p
  unfold instS at h
  rw [rd_rdB] at h
  generalize bt p = b at h hs hb
  simp [shortR, shortL, rdB, miss, rstep, badS, makeS, fieldS, eightS, cnt, immS2, immS1, hi, hiTo, hasB] at h
  split at h
  · cases h
  rename_i g hg
  simp only [Option.ite_none_right_eq_some, Option.some.injEq] at hg
  obtain ⟨c0, c1, c2, c3, c4, c5, c6, c7, c8, c9, hg⟩ := hg
  have gd : g.d = 1 * b 7 + 2 * b 8 + 4 * b 9 := by subst hg; simp [pw] <;> omega
  have gr : g.r = 0 := by subst hg; simp [pw] <;> omega
  have gt : g.t = 1 * b 2 + 2 * b 3 + 4 * b 4 := by subst hg; simp [pw] <;> omega
  have gimm : g.imm = 0 := by subst hg; simp [pw] <;> omega
  clear hg
  have B2 := hb 2
  have B3 := hb 3
  have B4 := hb 4
  have B7 := hb 7
  have B8 := hb 8
  have B9 := hb 9
  clear hb
  repeat' split at h
  all_goals first | (cases h; done) | skip
  all_goals
    have h := Option.some.inj h
    have hd := congrArg Flds.d h
    have hr := congrArg Flds.r h
    have ht := congrArg Flds.t h
    have hm := congrArg Flds.imm h
    clear h
    dsimp only at hd hr ht hm
    have ed0 : bt f.d 0 = b 7 := bt_at (A := 0) (C := 1 * b 8 + 2 * b 9 + 4) 0 (by decide) (by decide : pw 0 = 1) (by omega) (by omega) (by omega) B7
    have ed1 : bt f.d 1 = b 8 := bt_at (A := 1 * b 7) (C := 1 * b 9 + 2) 1 (by decide) (by decide : pw 1 = 2) (by omega) (by omega) (by omega) B8
    have ed2 : bt f.d 2 = b 9 := bt_at (A := 1 * b 7 + 2 * b 8) (C := 1) 2 (by decide) (by decide : pw 2 = 4) (by omega) (by omega) (by omega) B9
    have et0 : bt f.t 0 = b 2 := bt_at (A := 0) (C := 1 * b 3 + 2 * b 4 + 4) 0 (by decide) (by decide : pw 0 = 1) (by omega) (by omega) (by omega) B2
    have et1 : bt f.t 1 = b 3 := bt_at (A := 1 * b 2) (C := 1 * b 4 + 2) 1 (by decide) (by decide : pw 1 = 2) (by omega) (by omega) (by omega) B3
    have et2 : bt f.t 2 = b 4 := bt_at (A := 1 * b 2 + 2 * b 3) (C := 1) 2 (by decide) (by decide : pw 2 = 4) (by omega) (by omega) (by omega) B4
    have hu := parC_u16 (row_ok (k := 12) (by decide)) f.d f.r f.t f.imm
    have hsp := sum16 _ hu.1 hu.2
    have hU : U32 (f.imm % 4294967296) := ⟨by omega, by omega⟩
    have hrd : f.r = f.d := by omega
    have z2 : or1 (b 2) 0 = b 2 := or1_b0 B2
    have z3 : or1 (b 3) 0 = b 3 := or1_b0 B3
    have z4 : or1 (b 4) 0 = b 4 := or1_b0 B4
    have z7 : or1 (b 7) 0 = b 7 := or1_b0 B7
    have z8 : or1 (b 8) 0 = b 8 := or1_b0 B8
    have z9 : or1 (b 9) 0 = b 9 := or1_b0 B9
    have q0 : bt (parC (rowC 12) f.d f.r f.t f.imm) 0 = 1 := by
      rw [parC_bt (row_ok (k := 12) (by decide))]
      show or1 (or1 (or1 (or1 (bt 35873 0) (bt (putP 5 f.d) 0)) (bt (putP 5 f.r) 0)) (bt (putP 6 f.t) 0)) (bt (sputC 0 f.imm) 0) = _
      rw [bput_5 f.d _ (by decide), bput_5 f.r _ (by decide), bput_6 f.t _ (by decide), sputC_bt, sput8 _ hU, show bt 35873 0 = 1 by decide]
      simp [pbP, spr, spr0, sprOf, or1_0, or1_1, or1_bb, bt_m32, hrd, ed0, ed1, ed2, et0, et1, et2, z2, z3, z4, z7, z8, z9]
    have q1 : bt (parC (rowC 12) f.d f.r f.t f.imm) 1 = 0 := by
      rw [parC_bt (row_ok (k := 12) (by decide))]
      show or1 (or1 (or1 (or1 (bt 35873 1) (bt (putP 5 f.d) 1)) (bt (putP 5 f.r) 1)) (bt (putP 6 f.t) 1)) (bt (sputC 0 f.imm) 1) = _
      rw [bput_5 f.d _ (by decide), bput_5 f.r _ (by decide), bput_6 f.t _ (by decide), sputC_bt, sput8 _ hU, show bt 35873 1 = 0 by decide]
      simp [pbP, spr, spr0, sprOf, or1_0, or1_1, or1_bb, bt_m32, hrd, ed0, ed1, ed2, et0, et1, et2, z2, z3, z4, z7, z8, z9]
    have q2 : bt (parC (rowC 12) f.d f.r f.t f.imm) 2 = b 2 := by
      rw [parC_bt (row_ok (k := 12) (by decide))]
      show or1 (or1 (or1 (or1 (bt 35873 2) (bt (putP 5 f.d) 2)) (bt (putP 5 f.r) 2)) (bt (putP 6 f.t) 2)) (bt (sputC 0 f.imm) 2) = _
      rw [bput_5 f.d _ (by decide), bput_5 f.r _ (by decide), bput_6 f.t _ (by decide), sputC_bt, sput8 _ hU, show bt 35873 2 = 0 by decide]
      simp [pbP, spr, spr0, sprOf, or1_0, or1_1, or1_bb, bt_m32, hrd, ed0, ed1, ed2, et0, et1, et2, z2, z3, z4, z7, z8, z9]
    have q3 : bt (parC (rowC 12) f.d f.r f.t f.imm) 3 = b 3 := by
      rw [parC_bt (row_ok (k := 12) (by decide))]
      show or1 (or1 (or1 (or1 (bt 35873 3) (bt (putP 5 f.d) 3)) (bt (putP 5 f.r) 3)) (bt (putP 6 f.t) 3)) (bt (sputC 0 f.imm) 3) = _
      rw [bput_5 f.d _ (by decide), bput_5 f.r _ (by decide), bput_6 f.t _ (by decide), sputC_bt, sput8 _ hU, show bt 35873 3 = 0 by decide]
      simp [pbP, spr, spr0, sprOf, or1_0, or1_1, or1_bb, bt_m32, hrd, ed0, ed1, ed2, et0, et1, et2, z2, z3, z4, z7, z8, z9]
    have q4 : bt (parC (rowC 12) f.d f.r f.t f.imm) 4 = b 4 := by
      rw [parC_bt (row_ok (k := 12) (by decide))]
      show or1 (or1 (or1 (or1 (bt 35873 4) (bt (putP 5 f.d) 4)) (bt (putP 5 f.r) 4)) (bt (putP 6 f.t) 4)) (bt (sputC 0 f.imm) 4) = _
      rw [bput_5 f.d _ (by decide), bput_5 f.r _ (by decide), bput_6 f.t _ (by decide), sputC_bt, sput8 _ hU, show bt 35873 4 = 0 by decide]
      simp [pbP, spr, spr0, sprOf, or1_0, or1_1, or1_bb, bt_m32, hrd, ed0, ed1, ed2, et0, et1, et2, z2, z3, z4, z7, z8, z9]
    have q5 : bt (parC (rowC 12) f.d f.r f.t f.imm) 5 = 1 := by
      rw [parC_bt (row_ok (k := 12) (by decide))]
      show or1 (or1 (or1 (or1 (bt 35873 5) (bt (putP 5 f.d) 5)) (bt (putP 5 f.r) 5)) (bt (putP 6 f.t) 5)) (bt (sputC 0 f.imm) 5) = _
      rw [bput_5 f.d _ (by decide), bput_5 f.r _ (by decide), bput_6 f.t _ (by decide), sputC_bt, sput8 _ hU, show bt 35873 5 = 1 by decide]
      simp [pbP, spr, spr0, sprOf, or1_0, or1_1, or1_bb, bt_m32, hrd, ed0, ed1, ed2, et0, et1, et2, z2, z3, z4, z7, z8, z9]
    have q6 : bt (parC (rowC 12) f.d f.r f.t f.imm) 6 = 0 := by
      rw [parC_bt (row_ok (k := 12) (by decide))]
      show or1 (or1 (or1 (or1 (bt 35873 6) (bt (putP 5 f.d) 6)) (bt (putP 5 f.r) 6)) (bt (putP 6 f.t) 6)) (bt (sputC 0 f.imm) 6) = _
      rw [bput_5 f.d _ (by decide), bput_5 f.r _ (by decide), bput_6 f.t _ (by decide), sputC_bt, sput8 _ hU, show bt 35873 6 = 0 by decide]
      simp [pbP, spr, spr0, sprOf, or1_0, or1_1, or1_bb, bt_m32, hrd, ed0, ed1, ed2, et0, et1, et2, z2, z3, z4, z7, z8, z9]
    have q7 : bt (parC (rowC 12) f.d f.r f.t f.imm) 7 = b 7 := by
      rw [parC_bt (row_ok (k := 12) (by decide))]
      show or1 (or1 (or1 (or1 (bt 35873 7) (bt (putP 5 f.d) 7)) (bt (putP 5 f.r) 7)) (bt (putP 6 f.t) 7)) (bt (sputC 0 f.imm) 7) = _
      rw [bput_5 f.d _ (by decide), bput_5 f.r _ (by decide), bput_6 f.t _ (by decide), sputC_bt, sput8 _ hU, show bt 35873 7 = 0 by decide]
      simp [pbP, spr, spr0, sprOf, or1_0, or1_1, or1_bb, bt_m32, hrd, ed0, ed1, ed2, et0, et1, et2, z2, z3, z4, z7, z8, z9]
    have q8 : bt (parC (rowC 12) f.d f.r f.t f.imm) 8 = b 8 := by
      rw [parC_bt (row_ok (k := 12) (by decide))]
      show or1 (or1 (or1 (or1 (bt 35873 8) (bt (putP 5 f.d) 8)) (bt (putP 5 f.r) 8)) (bt (putP 6 f.t) 8)) (bt (sputC 0 f.imm) 8) = _
      rw [bput_5 f.d _ (by decide), bput_5 f.r _ (by decide), bput_6 f.t _ (by decide), sputC_bt, sput8 _ hU, show bt 35873 8 = 0 by decide]
      simp [pbP, spr, spr0, sprOf, or1_0, or1_1, or1_bb, bt_m32, hrd, ed0, ed1, ed2, et0, et1, et2, z2, z3, z4, z7, z8, z9]
    have q9 : bt (parC (rowC 12) f.d f.r f.t f.imm) 9 = b 9 := by
      rw [parC_bt (row_ok (k := 12) (by decide))]
      show or1 (or1 (or1 (or1 (bt 35873 9) (bt (putP 5 f.d) 9)) (bt (putP 5 f.r) 9)) (bt (putP 6 f.t) 9)) (bt (sputC 0 f.imm) 9) = _
      rw [bput_5 f.d _ (by decide), bput_5 f.r _ (by decide), bput_6 f.t _ (by decide), sputC_bt, sput8 _ hU, show bt 35873 9 = 0 by decide]
      simp [pbP, spr, spr0, sprOf, or1_0, or1_1, or1_bb, bt_m32, hrd, ed0, ed1, ed2, et0, et1, et2, z2, z3, z4, z7, z8, z9]
    have q10 : bt (parC (rowC 12) f.d f.r f.t f.imm) 10 = 1 := by
      rw [parC_bt (row_ok (k := 12) (by decide))]
      show or1 (or1 (or1 (or1 (bt 35873 10) (bt (putP 5 f.d) 10)) (bt (putP 5 f.r) 10)) (bt (putP 6 f.t) 10)) (bt (sputC 0 f.imm) 10) = _
      rw [bput_5 f.d _ (by decide), bput_5 f.r _ (by decide), bput_6 f.t _ (by decide), sputC_bt, sput8 _ hU, show bt 35873 10 = 1 by decide]
      simp [pbP, spr, spr0, sprOf, or1_0, or1_1, or1_bb, bt_m32, hrd, ed0, ed1, ed2, et0, et1, et2, z2, z3, z4, z7, z8, z9]
    have q11 : bt (parC (rowC 12) f.d f.r f.t f.imm) 11 = 1 := by
      rw [parC_bt (row_ok (k := 12) (by decide))]
      show or1 (or1 (or1 (or1 (bt 35873 11) (bt (putP 5 f.d) 11)) (bt (putP 5 f.r) 11)) (bt (putP 6 f.t) 11)) (bt (sputC 0 f.imm) 11) = _
      rw [bput_5 f.d _ (by decide), bput_5 f.r _ (by decide), bput_6 f.t _ (by decide), sputC_bt, sput8 _ hU, show bt 35873 11 = 1 by decide]
      simp [pbP, spr, spr0, sprOf, or1_0, or1_1, or1_bb, bt_m32, hrd, ed0, ed1, ed2, et0, et1, et2, z2, z3, z4, z7, z8, z9]
    have q12 : bt (parC (rowC 12) f.d f.r f.t f.imm) 12 = 0 := by
      rw [parC_bt (row_ok (k := 12) (by decide))]
      show or1 (or1 (or1 (or1 (bt 35873 12) (bt (putP 5 f.d) 12)) (bt (putP 5 f.r) 12)) (bt (putP 6 f.t) 12)) (bt (sputC 0 f.imm) 12) = _
      rw [bput_5 f.d _ (by decide), bput_5 f.r _ (by decide), bput_6 f.t _ (by decide), sputC_bt, sput8 _ hU, show bt 35873 12 = 0 by decide]
      simp [pbP, spr, spr0, sprOf, or1_0, or1_1, or1_bb, bt_m32, hrd, ed0, ed1, ed2, et0, et1, et2, z2, z3, z4, z7, z8, z9]
    have q13 : bt (parC (rowC 12) f.d f.r f.t f.imm) 13 = 0 := by
      rw [parC_bt (row_ok (k := 12) (by decide))]
      show or1 (or1 (or1 (or1 (bt 35873 13) (bt (putP 5 f.d) 13)) (bt (putP 5 f.r) 13)) (bt (putP 6 f.t) 13)) (bt (sputC 0 f.imm) 13) = _
      rw [bput_5 f.d _ (by decide), bput_5 f.r _ (by decide), bput_6 f.t _ (by decide), sputC_bt, sput8 _ hU, show bt 35873 13 = 0 by decide]
      simp [pbP, spr, spr0, sprOf, or1_0, or1_1, or1_bb, bt_m32, hrd, ed0, ed1, ed2, et0, et1, et2, z2, z3, z4, z7, z8, z9]
    have q14 : bt (parC (rowC 12) f.d f.r f.t f.imm) 14 = 0 := by
      rw [parC_bt (row_ok (k := 12) (by decide))]
      show or1 (or1 (or1 (or1 (bt 35873 14) (bt (putP 5 f.d) 14)) (bt (putP 5 f.r) 14)) (bt (putP 6 f.t) 14)) (bt (sputC 0 f.imm) 14) = _
      rw [bput_5 f.d _ (by decide), bput_5 f.r _ (by decide), bput_6 f.t _ (by decide), sputC_bt, sput8 _ hU, show bt 35873 14 = 0 by decide]
      simp [pbP, spr, spr0, sprOf, or1_0, or1_1, or1_bb, bt_m32, hrd, ed0, ed1, ed2, et0, et1, et2, z2, z3, z4, z7, z8, z9]
    have q15 : bt (parC (rowC 12) f.d f.r f.t f.imm) 15 = 1 := by
      rw [parC_bt (row_ok (k := 12) (by decide))]
      show or1 (or1 (or1 (or1 (bt 35873 15) (bt (putP 5 f.d) 15)) (bt (putP 5 f.r) 15)) (bt (putP 6 f.t) 15)) (bt (sputC 0 f.imm) 15) = _
      rw [bput_5 f.d _ (by decide), bput_5 f.r _ (by decide), bput_6 f.t _ (by decide), sputC_bt, sput8 _ hU, show bt 35873 15 = 1 by decide]
      simp [pbP, spr, spr0, sprOf, or1_0, or1_1, or1_bb, bt_m32, hrd, ed0, ed1, ed2, et0, et1, et2, z2, z3, z4, z7, z8, z9]
    rw [q0, q1, q2, q3, q4, q5, q6, q7, q8, q9, q10, q11, q12, q13, q14, q15] at hsp
    omega
end Hm
