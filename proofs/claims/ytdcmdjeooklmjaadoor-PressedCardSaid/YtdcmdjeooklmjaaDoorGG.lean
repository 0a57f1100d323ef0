/-
  Y7 Y8 YC YD in one text.
-/
import Derived.Test.YtdcmdjeooklmjaaDoorJE
import Derived.Test.YtdcmdjeooklmjaaDoorJF
set_option linter.unusedVariables false
set_option linter.unusedSimpArgs false
/-
  Mathematics of short instructions (made by gen_Y5.py): what a landed row writes of what it reads is the parcel. Nothing of the dump is imported.
-/
namespace Hm
theorem backC_13 (p : Int) (f : Flds) (h0 : 0 ≤ p) (h1 : p < 65536) (h : instS (shortR 13) p = some f) : parC (rowC 13) f.d f.r f.t f.imm = p := by
  have hs := sum16 p h0 h1
  have hb := bt_bd p
  unfold instS at h
  rw [rd_rdB] at h
  generalize bt p = b at h hs hb
  simp [shortR, shortL, rdB, miss, rstep, badS, makeS, fieldS, eightS, cnt, immS2, immS1, hi, hiTo, hasB] at h
  split at h
  · cases h
  rename_i g hg
  simp only [Option.ite_none_right_eq_some, Option.some.injEq] at hg
  obtain ⟨c0, c1, c2, c3, c4, c5, c6, c7, c8, c9, hg⟩ := hg
  have gd : g.d = 1 * b 7 + 2 * b 8 + 4 * b 9 := by subst hg; simp [pw] <;> omega
  have gr : g.r = 0 := by subst hg; simp [pw] <;> omega
  have gt : g.t = 1 * b 2 + 2 * b 3 + 4 * b 4 := by subst hg; simp [pw] <;> omega
  have gimm : g.imm = 0 := by subst hg; simp [pw] <;> omega
  clear hg
  have B2 := hb 2
  have B3 := hb 3
  have B4 := hb 4
  have B7 := hb 7
  have B8 := hb 8
  have B9 := hb 9
  clear hb
  repeat' split at h
  all_goals first | (cases h; done) | skip
  all_goals
    have h := Option.some.inj h
    have hd := congrArg Flds.d h
    have hr := congrArg Flds.r h
    have ht := congrArg Flds.t h
    have hm := congrArg Flds.imm h
    clear h
    dsimp only at hd hr ht hm
    have ed0 : bt f.d 0 = b 7 := bt_at (A := 0) (C := 1 * b 8 + 2 * b 9 + 4) 0 (by decide) (by decide : pw 0 = 1) (by omega) (by omega) (by omega) B7
    have ed1 : bt f.d 1 = b 8 := bt_at (A := 1 * b 7) (C := 1 * b 9 + 2) 1 (by decide) (by decide : pw 1 = 2) (by omega) (by omega) (by omega) B8
    have ed2 : bt f.d 2 = b 9 := bt_at (A := 1 * b 7 + 2 * b 8) (C := 1) 2 (by decide) (by decide : pw 2 = 4) (by omega) (by omega) (by omega) B9
    have et0 : bt f.t 0 = b 2 := bt_at (A := 0) (C := 1 * b 3 + 2 * b 4 + 4) 0 (by decide) (by decide : pw 0 = 1) (by omega) (by omega) (by omega) B2
    have et1 : bt f.t 1 = b 3 := bt_at (A := 1 * b 2) (C := 1 * b 4 + 2) 1 (by decide) (by decide : pw 1 = 2) (by omega) (by omega) (by omega) B3
    have et2 : bt f.t 2 = b 4 := bt_at (A := 1 * b 2 + 2 * b 3) (C := 1) 2 (by decide) (by decide : pw 2 = 4) (by omega) (by omega) (by omega) B4
    have hu := parC_u16 (row_ok (k := 13) (by decide)) f.d f.r f.t f.imm
    have hsp := sum16 _ hu.1 hu.2
    have hU : U32 (f.imm % 4294967296) := ⟨by omega, by omega⟩
    have hrd : f.r = f.d := by omega
    have z2 : or1 (b 2) 0 = b 2 := or1_b0 B2
    have z3 : or1 (b 3) 0 = b 3 := or1_b0 B3
    have z4 : or1 (b 4) 0 = b 4 := or1_b0 B4
    have z7 : or1 (b 7) 0 = b 7 := or1_b0 B7
    have z8 : or1 (b 8) 0 = b 8 := or1_b0 B8
    have z9 : or1 (b 9) 0 = b 9 := or1_b0 B9
    have q0 : bt (parC (rowC 13) f.d f.r f.t f.imm) 0 = 1 := by
      rw [parC_bt (row_ok (k := 13) (by decide))]
      show or1 (or1 (or1 (or1 (bt 35905 0) (bt (putP 5 f.d) 0)) (bt (putP 5 f.r) 0)) (bt (putP 6 f.t) 0)) (bt (sputC 0 f.imm) 0) = _
      rw [bput_5 f.d _ (by decide), bput_5 f.r _ (by decide), bput_6 f.t _ (by decide), sputC_bt, sput8 _ hU, show bt 35905 0 = 1 by decide]
      simp [pbP, spr, spr0, sprOf, or1_0, or1_1, or1_bb, bt_m32, hrd, ed0, ed1, ed2, et0, et1, et2, z2, z3, z4, z7, z8, z9]
    have q1 : bt (parC (rowC 13) f.d f.r f.t f.imm) 1 = 0 := by
      rw [parC_bt (row_ok (k := 13) (by decide))]
      show or1 (or1 (or1 (or1 (bt 35905 1) (bt (putP 5 f.d) 1)) (bt (putP 5 f.r) 1)) (bt (putP 6 f.t) 1)) (bt (sputC 0 f.imm) 1) = _
      rw [bput_5 f.d _ (by decide), bput_5 f.r _ (by decide), bput_6 f.t _ (by decide), sputC_bt, sput8 _ hU, show bt 35905 1 = 0 by decide]
      simp [pbP, spr, spr0, sprOf, or1_0, or1_1, or1_bb, bt_m32, hrd, ed0, ed1, ed2, et0, et1, et2, z2, z3, z4, z7, z8, z9]
    have q2 : bt (parC (rowC 13) f.d f.r f.t f.imm) 2 = b 2 := by
      rw [parC_bt (row_ok (k := 13) (by decide))]
      show or1 (or1 (or1 (or1 (bt 35905 2) (bt (putP 5 f.d) 2)) (bt (putP 5 f.r) 2)) (bt (putP 6 f.t) 2)) (bt (sputC 0 f.imm) 2) = _
      rw [bput_5 f.d _ (by decide), bput_5 f.r _ (by decide), bput_6 f.t _ (by decide), sputC_bt, sput8 _ hU, show bt 35905 2 = 0 by decide]
      simp [pbP, spr, spr0, sprOf, or1_0, or1_1, or1_bb, bt_m32, hrd, ed0, ed1, ed2, et0, et1, et2, z2, z3, z4, z7, z8, z9]
    have q3 : bt (parC (rowC 13) f.d f.r f.t f.imm) 3 = b 3 := by
      rw [parC_bt (row_ok (k := 13) (by decide))]
      show or1 (or1 (or1 (or1 (bt 35905 3) (bt (putP 5 f.d) 3)) (bt (putP 5 f.r) 3)) (bt (putP 6 f.t) 3)) (bt (sputC 0 f.imm) 3) = _
      rw [bput_5 f.d _ (by decide), bput_5 f.r _ (by decide), bput_6 f.t _ (by decide), sputC_bt, sput8 _ hU, show bt 35905 3 = 0 by decide]
      simp [pbP, spr, spr0, sprOf, or1_0, or1_1, or1_bb, bt_m32, hrd, ed0, ed1, ed2, et0, et1, et2, z2, z3, z4, z7, z8, z9]
    have q4 : bt (parC (rowC 13) f.d f.r f.t f.imm) 4 = b 4 := by
      rw [parC_bt (row_ok (k := 13) (by decide))]
      show or1 (or1 (or1 (or1 (bt 35905 4) (bt (putP 5 f.d) 4)) (bt (putP 5 f.r) 4)) (bt (putP 6 f.t) 4)) (bt (sputC 0 f.imm) 4) = _
      rw [bput_5 f.d _ (by decide), bput_5 f.r _ (by decide), bput_6 f.t _ (by decide), sputC_bt, sput8 _ hU, show bt 35905 4 = 0 by decide]
      simp [pbP, spr, spr0, sprOf, or1_0, or1_1, or1_bb, bt_m32, hrd, ed0, ed1, ed2, et0, et1, et2, z2, z3, z4, z7, z8, z9]
    have q5 : bt (parC (rowC 13) f.d f.r f.t f.imm) 5 = 0 := by
      rw [parC_bt (row_ok (k := 13) (by decide))]
      show or1 (or1 (or1 (or1 (bt 35905 5) (bt (putP 5 f.d) 5)) (bt (putP 5 f.r) 5)) (bt (putP 6 f.t) 5)) (bt (sputC 0 f.imm) 5) = _
      rw [bput_5 f.d _ (by decide), bput_5 f.r _ (by decide), bput_6 f.t _ (by decide), sputC_bt, sput8 _ hU, show bt 35905 5 = 0 by decide]
      simp [pbP, spr, spr0, sprOf, or1_0, or1_1, or1_bb, bt_m32, hrd, ed0, ed1, ed2, et0, et1, et2, z2, z3, z4, z7, z8, z9]
    have q6 : bt (parC (rowC 13) f.d f.r f.t f.imm) 6 = 1 := by
      rw [parC_bt (row_ok (k := 13) (by decide))]
      show or1 (or1 (or1 (or1 (bt 35905 6) (bt (putP 5 f.d) 6)) (bt (putP 5 f.r) 6)) (bt (putP 6 f.t) 6)) (bt (sputC 0 f.imm) 6) = _
      rw [bput_5 f.d _ (by decide), bput_5 f.r _ (by decide), bput_6 f.t _ (by decide), sputC_bt, sput8 _ hU, show bt 35905 6 = 1 by decide]
      simp [pbP, spr, spr0, sprOf, or1_0, or1_1, or1_bb, bt_m32, hrd, ed0, ed1, ed2, et0, et1, et2, z2, z3, z4, z7, z8, z9]
    have q7 : bt (parC (rowC 13) f.d f.r f.t f.imm) 7 = b 7 := by
      rw [parC_bt (row_ok (k := 13) (by decide))]
      show or1 (or1 (or1 (or1 (bt 35905 7) (bt (putP 5 f.d) 7)) (bt (putP 5 f.r) 7)) (bt (putP 6 f.t) 7)) (bt (sputC 0 f.imm) 7) = _
      rw [bput_5 f.d _ (by decide), bput_5 f.r _ (by decide), bput_6 f.t _ (by decide), sputC_bt, sput8 _ hU, show bt 35905 7 = 0 by decide]
      simp [pbP, spr, spr0, sprOf, or1_0, or1_1, or1_bb, bt_m32, hrd, ed0, ed1, ed2, et0, et1, et2, z2, z3, z4, z7, z8, z9]
    have q8 : bt (parC (rowC 13) f.d f.r f.t f.imm) 8 = b 8 := by
      rw [parC_bt (row_ok (k := 13) (by decide))]
      show or1 (or1 (or1 (or1 (bt 35905 8) (bt (putP 5 f.d) 8)) (bt (putP 5 f.r) 8)) (bt (putP 6 f.t) 8)) (bt (sputC 0 f.imm) 8) = _
      rw [bput_5 f.d _ (by decide), bput_5 f.r _ (by decide), bput_6 f.t _ (by decide), sputC_bt, sput8 _ hU, show bt 35905 8 = 0 by decide]
      simp [pbP, spr, spr0, sprOf, or1_0, or1_1, or1_bb, bt_m32, hrd, ed0, ed1, ed2, et0, et1, et2, z2, z3, z4, z7, z8, z9]
    have q9 : bt (parC (rowC 13) f.d f.r f.t f.imm) 9 = b 9 := by
      rw [parC_bt (row_ok (k := 13) (by decide))]
      show or1 (or1 (or1 (or1 (bt 35905 9) (bt (putP 5 f.d) 9)) (bt (putP 5 f.r) 9)) (bt (putP 6 f.t) 9)) (bt (sputC 0 f.imm) 9) = _
      rw [bput_5 f.d _ (by decide), bput_5 f.r _ (by decide), bput_6 f.t _ (by decide), sputC_bt, sput8 _ hU, show bt 35905 9 = 0 by decide]
      simp [pbP, spr, spr0, sprOf, or1_0, or1_1, or1_bb, bt_m32, hrd, ed0, ed1, ed2, et0, et1, et2, z2, z3, z4, z7, z8, z9]
    have q10 : bt (parC (rowC 13) f.d f.r f.t f.imm) 10 = 1 := by
      rw [parC_bt (row_ok (k := 13) (by decide))]
      show or1 (or1 (or1 (or1 (bt 35905 10) (bt (putP 5 f.d) 10)) (bt (putP 5 f.r) 10)) (bt (putP 6 f.t) 10)) (bt (sputC 0 f.imm) 10) = _
      rw [bput_5 f.d _ (by decide), bput_5 f.r _ (by decide), bput_6 f.t _ (by decide), sputC_bt, sput8 _ hU, show bt 35905 10 = 1 by decide]
      simp [pbP, spr, spr0, sprOf, or1_0, or1_1, or1_bb, bt_m32, hrd, ed0, ed1, ed2, et0, et1, et2, z2, z3, z4, z7, z8, z9]
    have q11 : bt (parC (rowC 13) f.d f.r f.t f.imm) 11 = 1 := by
      rw [parC_bt (row_ok (k := 13) (by decide))]
      show or1 (or1 (or1 (or1 (bt 35905 11) (bt (putP 5 f.d) 11)) (bt (putP 5 f.r) 11)) (bt (putP 6 f.t) 11)) (bt (sputC 0 f.imm) 11) = _
      rw [bput_5 f.d _ (by decide), bput_5 f.r _ (by decide), bput_6 f.t _ (by decide), sputC_bt, sput8 _ hU, show bt 35905 11 = 1 by decide]
      simp [pbP, spr, spr0, sprOf, or1_0, or1_1, or1_bb, bt_m32, hrd, ed0, ed1, ed2, et0, et1, et2, z2, z3, z4, z7, z8, z9]
    have q12 : bt (parC (rowC 13) f.d f.r f.t f.imm) 12 = 0 := by
      rw [parC_bt (row_ok (k := 13) (by decide))]
      show or1 (or1 (or1 (or1 (bt 35905 12) (bt (putP 5 f.d) 12)) (bt (putP 5 f.r) 12)) (bt (putP 6 f.t) 12)) (bt (sputC 0 f.imm) 12) = _
      rw [bput_5 f.d _ (by decide), bput_5 f.r _ (by decide), bput_6 f.t _ (by decide), sputC_bt, sput8 _ hU, show bt 35905 12 = 0 by decide]
      simp [pbP, spr, spr0, sprOf, or1_0, or1_1, or1_bb, bt_m32, hrd, ed0, ed1, ed2, et0, et1, et2, z2, z3, z4, z7, z8, z9]
    have q13 : bt (parC (rowC 13) f.d f.r f.t f.imm) 13 = 0 := by
      rw [parC_bt (row_ok (k := 13) (by decide))]
      show or1 (or1 (or1 (or1 (bt 35905 13) (bt (putP 5 f.d) 13)) (bt (putP 5 f.r) 13)) (bt (putP 6 f.t) 13)) (bt (sputC 0 f.imm) 13) = _
      rw [bput_5 f.d _ (by decide), bput_5 f.r _ (by decide), bput_6 f.t _ (by decide), sputC_bt, sput8 _ hU, show bt 35905 13 = 0 by decide]
      simp [pbP, spr, spr0, sprOf, or1_0, or1_1, or1_bb, bt_m32, hrd, ed0, ed1, ed2, et0, et1, et2, z2, z3, z4, z7, z8, z9]
    have q14 : bt (parC (rowC 13) f.d f.r f.t f.imm) 14 = 0 := by
      rw [parC_bt (row_ok (k := 13) (by decide))]
      show or1 (or1 (or1 (or1 (bt 35905 14) (bt (putP 5 f.d) 14)) (bt (putP 5 f.r) 14)) (bt (putP 6 f.t) 14)) (bt (sputC 0 f.imm) 14) = _
      rw [bput_5 f.d _ (by decide), bput_5 f.r _ (by decide), bput_6 f.t _ (by decide), sputC_bt, sput8 _ hU, show bt 35905 14 = 0 by decide]
      simp [pbP, spr, spr0, sprOf, or1_0, or1_1, or1_bb, bt_m32, hrd, ed0, ed1, ed2, et0, et1, et2, z2, z3, z4, z7, z8, z9]
    have q15 : bt (parC (rowC 13) f.d f.r f.t f.imm) 15 = 1 := by
      rw [parC_bt (row_ok (k := 13) (by decide))]
      show or1 (or1 (or1 (or1 (bt 35905 15) (bt (putP 5 f.d) 15)) (bt (putP 5 f.r) 15)) (bt (putP 6 f.t) 15)) (bt (sputC 0 f.imm) 15) = _
      rw [bput_5 f.d _ (by decide), bput_5 f.r _ (by decide), bput_6 f.t _ (by decide), sputC_bt, sput8 _ hU, show bt 35905 15 = 1 by decide]
      simp [pbP, spr, spr0, sprOf, or1_0, or1_1, or1_bb, bt_m32, hrd, ed0, ed1, ed2, et0, et1, et2, z2, z3, z4, z7, z8, z9]
    rw [q0, q1, q2, q3, q4, q5, q6, q7, q8, q9, q10, q11, q12, q13, q14, q15] at hsp
    omega
theorem backC_14 (p : Int) (f : Flds) (h0 : 0 ≤ p) (h1 : p < 65536) (h : instS (shortR 14) p = some f) : parC (rowC 14) f.d f.r f.t f.imm = p := by
  have hs := sum16 p h0 h1
  have hb := bt_bd p
  unfold instS at h
  rw [rd_rdB] at h
  generalize bt p = b at h hs hb
  simp [shortR, shortL, rdB, miss, rstep, badS, makeS, fieldS, eightS, cnt, immS2, immS1, hi, hiTo, hasB] at h
  split at h
  · cases h
  rename_i g hg
  simp only [Option.ite_none_right_eq_some, Option.some.injEq] at hg
  obtain ⟨c0, c1, c2, c3, c4, c5, c6, c7, c8, c9, hg⟩ := hg
  have gd : g.d = 1 * b 7 + 2 * b 8 + 4 * b 9 := by subst hg; simp [pw] <;> omega
  have gr : g.r = 0 := by subst hg; simp [pw] <;> omega
  have gt : g.t = 1 * b 2 + 2 * b 3 + 4 * b 4 := by subst hg; simp [pw] <;> omega
  have gimm : g.imm = 0 := by subst hg; simp [pw] <;> omega
  clear hg
  have B2 := hb 2
  have B3 := hb 3
  have B4 := hb 4
  have B7 := hb 7
  have B8 := hb 8
  have B9 := hb 9
  clear hb
  repeat' split at h
  all_goals first | (cases h; done) | skip
  all_goals
    have h := Option.some.inj h
    have hd := congrArg Flds.d h
    have hr := congrArg Flds.r h
    have ht := congrArg Flds.t h
    have hm := congrArg Flds.imm h
    clear h
    dsimp only at hd hr ht hm
    have ed0 : bt f.d 0 = b 7 := bt_at (A := 0) (C := 1 * b 8 + 2 * b 9 + 4) 0 (by decide) (by decide : pw 0 = 1) (by omega) (by omega) (by omega) B7
    have ed1 : bt f.d 1 = b 8 := bt_at (A := 1 * b 7) (C := 1 * b 9 + 2) 1 (by decide) (by decide : pw 1 = 2) (by omega) (by omega) (by omega) B8
    have ed2 : bt f.d 2 = b 9 := bt_at (A := 1 * b 7 + 2 * b 8) (C := 1) 2 (by decide) (by decide : pw 2 = 4) (by omega) (by omega) (by omega) B9
    have et0 : bt f.t 0 = b 2 := bt_at (A := 0) (C := 1 * b 3 + 2 * b 4 + 4) 0 (by decide) (by decide : pw 0 = 1) (by omega) (by omega) (by omega) B2
    have et1 : bt f.t 1 = b 3 := bt_at (A := 1 * b 2) (C := 1 * b 4 + 2) 1 (by decide) (by decide : pw 1 = 2) (by omega) (by omega) (by omega) B3
    have et2 : bt f.t 2 = b 4 := bt_at (A := 1 * b 2 + 2 * b 3) (C := 1) 2 (by decide) (by decide : pw 2 = 4) (by omega) (by omega) (by omega) B4
    have hu := parC_u16 (row_ok (k := 14) (by decide)) f.d f.r f.t f.imm
    have hsp := sum16 _ hu.1 hu.2
    have hU : U32 (f.imm % 4294967296) := ⟨by omega, by omega⟩
    have hrd : f.r = f.d := by omega
    have z2 : or1 (b 2) 0 = b 2 := or1_b0 B2
    have z3 : or1 (b 3) 0 = b 3 := or1_b0 B3
    have z4 : or1 (b 4) 0 = b 4 := or1_b0 B4
    have z7 : or1 (b 7) 0 = b 7 := or1_b0 B7
    have z8 : or1 (b 8) 0 = b 8 := or1_b0 B8
    have z9 : or1 (b 9) 0 = b 9 := or1_b0 B9
    have q0 : bt (parC (rowC 14) f.d f.r f.t f.imm) 0 = 1 := by
      rw [parC_bt (row_ok (k := 14) (by decide))]
      show or1 (or1 (or1 (or1 (bt 35937 0) (bt (putP 5 f.d) 0)) (bt (putP 5 f.r) 0)) (bt (putP 6 f.t) 0)) (bt (sputC 0 f.imm) 0) = _
      rw [bput_5 f.d _ (by decide), bput_5 f.r _ (by decide), bput_6 f.t _ (by decide), sputC_bt, sput8 _ hU, show bt 35937 0 = 1 by decide]
      simp [pbP, spr, spr0, sprOf, or1_0, or1_1, or1_bb, bt_m32, hrd, ed0, ed1, ed2, et0, et1, et2, z2, z3, z4, z7, z8, z9]
    have q1 : bt (parC (rowC 14) f.d f.r f.t f.imm) 1 = 0 := by
      rw [parC_bt (row_ok (k := 14) (by decide))]
      show or1 (or1 (or1 (or1 (bt 35937 1) (bt (putP 5 f.d) 1)) (bt (putP 5 f.r) 1)) (bt (putP 6 f.t) 1)) (bt (sputC 0 f.imm) 1) = _
      rw [bput_5 f.d _ (by decide), bput_5 f.r _ (by decide), bput_6 f.t _ (by decide), sputC_bt, sput8 _ hU, show bt 35937 1 = 0 by decide]
      simp [pbP, spr, spr0, sprOf, or1_0, or1_1, or1_bb, bt_m32, hrd, ed0, ed1, ed2, et0, et1, et2, z2, z3, z4, z7, z8, z9]
    have q2 : bt (parC (rowC 14) f.d f.r f.t f.imm) 2 = b 2 := by
      rw [parC_bt (row_ok (k := 14) (by decide))]
      show or1 (or1 (or1 (or1 (bt 35937 2) (bt (putP 5 f.d) 2)) (bt (putP 5 f.r) 2)) (bt (putP 6 f.t) 2)) (bt (sputC 0 f.imm) 2) = _
      rw [bput_5 f.d _ (by decide), bput_5 f.r _ (by decide), bput_6 f.t _ (by decide), sputC_bt, sput8 _ hU, show bt 35937 2 = 0 by decide]
      simp [pbP, spr, spr0, sprOf, or1_0, or1_1, or1_bb, bt_m32, hrd, ed0, ed1, ed2, et0, et1, et2, z2, z3, z4, z7, z8, z9]
    have q3 : bt (parC (rowC 14) f.d f.r f.t f.imm) 3 = b 3 := by
      rw [parC_bt (row_ok (k := 14) (by decide))]
      show or1 (or1 (or1 (or1 (bt 35937 3) (bt (putP 5 f.d) 3)) (bt (putP 5 f.r) 3)) (bt (putP 6 f.t) 3)) (bt (sputC 0 f.imm) 3) = _
      rw [bput_5 f.d _ (by decide), bput_5 f.r _ (by decide), bput_6 f.t _ (by decide), sputC_bt, sput8 _ hU, show bt 35937 3 = 0 by decide]
      simp [pbP, spr, spr0, sprOf, or1_0, or1_1, or1_bb, bt_m32, hrd, ed0, ed1, ed2, et0, et1, et2, z2, z3, z4, z7, z8, z9]
    have q4 : bt (parC (rowC 14) f.d f.r f.t f.imm) 4 = b 4 := by
      rw [parC_bt (row_ok (k := 14) (by decide))]
      show or1 (or1 (or1 (or1 (bt 35937 4) (bt (putP 5 f.d) 4)) (bt (putP 5 f.r) 4)) (bt (putP 6 f.t) 4)) (bt (sputC 0 f.imm) 4) = _
      rw [bput_5 f.d _ (by decide), bput_5 f.r _ (by decide), bput_6 f.t _ (by decide), sputC_bt, sput8 _ hU, show bt 35937 4 = 0 by decide]
      simp [pbP, spr, spr0, sprOf, or1_0, or1_1, or1_bb, bt_m32, hrd, ed0, ed1, ed2, et0, et1, et2, z2, z3, z4, z7, z8, z9]
    have q5 : bt (parC (rowC 14) f.d f.r f.t f.imm) 5 = 1 := by
      rw [parC_bt (row_ok (k := 14) (by decide))]
      show or1 (or1 (or1 (or1 (bt 35937 5) (bt (putP 5 f.d) 5)) (bt (putP 5 f.r) 5)) (bt (putP 6 f.t) 5)) (bt (sputC 0 f.imm) 5) = _
      rw [bput_5 f.d _ (by decide), bput_5 f.r _ (by decide), bput_6 f.t _ (by decide), sputC_bt, sput8 _ hU, show bt 35937 5 = 1 by decide]
      simp [pbP, spr, spr0, sprOf, or1_0, or1_1, or1_bb, bt_m32, hrd, ed0, ed1, ed2, et0, et1, et2, z2, z3, z4, z7, z8, z9]
    have q6 : bt (parC (rowC 14) f.d f.r f.t f.imm) 6 = 1 := by
      rw [parC_bt (row_ok (k := 14) (by decide))]
      show or1 (or1 (or1 (or1 (bt 35937 6) (bt (putP 5 f.d) 6)) (bt (putP 5 f.r) 6)) (bt (putP 6 f.t) 6)) (bt (sputC 0 f.imm) 6) = _
      rw [bput_5 f.d _ (by decide), bput_5 f.r _ (by decide), bput_6 f.t _ (by decide), sputC_bt, sput8 _ hU, show bt 35937 6 = 1 by decide]
      simp [pbP, spr, spr0, sprOf, or1_0, or1_1, or1_bb, bt_m32, hrd, ed0, ed1, ed2, et0, et1, et2, z2, z3, z4, z7, z8, z9]
    have q7 : bt (parC (rowC 14) f.d f.r f.t f.imm) 7 = b 7 := by
      rw [parC_bt (row_ok (k := 14) (by decide))]
      show or1 (or1 (or1 (or1 (bt 35937 7) (bt (putP 5 f.d) 7)) (bt (putP 5 f.r) 7)) (bt (putP 6 f.t) 7)) (bt (sputC 0 f.imm) 7) = _
      rw [bput_5 f.d _ (by decide), bput_5 f.r _ (by decide), bput_6 f.t _ (by decide), sputC_bt, sput8 _ hU, show bt 35937 7 = 0 by decide]
      simp [pbP, spr, spr0, sprOf, or1_0, or1_1, or1_bb, bt_m32, hrd, ed0, ed1, ed2, et0, et1, et2, z2, z3, z4, z7, z8, z9]
    have q8 : bt (parC (rowC 14) f.d f.r f.t f.imm) 8 = b 8 := by
      rw [parC_bt (row_ok (k := 14) (by decide))]
      show or1 (or1 (or1 (or1 (bt 35937 8) (bt (putP 5 f.d) 8)) (bt (putP 5 f.r) 8)) (bt (putP 6 f.t) 8)) (bt (sputC 0 f.imm) 8) = _
      rw [bput_5 f.d _ (by decide), bput_5 f.r _ (by decide), bput_6 f.t _ (by decide), sputC_bt, sput8 _ hU, show bt 35937 8 = 0 by decide]
      simp [pbP, spr, spr0, sprOf, or1_0, or1_1, or1_bb, bt_m32, hrd, ed0, ed1, ed2, et0, et1, et2, z2, z3, z4, z7, z8, z9]
    have q9 : bt (parC (rowC 14) f.d f.r f.t f.imm) 9 = b 9 := by
      rw [parC_bt (row_ok (k := 14) (by decide))]
      show or1 (or1 (or1 (or1 (bt 35937 9) (bt (putP 5 f.d) 9)) (bt (putP 5 f.r) 9)) (bt (putP 6 f.t) 9)) (bt (sputC 0 f.imm) 9) = _
      rw [bput_5 f.d _ (by decide), bput_5 f.r _ (by decide), bput_6 f.t _ (by decide), sputC_bt, sput8 _ hU, show bt 35937 9 = 0 by decide]
      simp [pbP, spr, spr0, sprOf, or1_0, or1_1, or1_bb, bt_m32, hrd, ed0, ed1, ed2, et0, et1, et2, z2, z3, z4, z7, z8, z9]
    have q10 : bt (parC (rowC 14) f.d f.r f.t f.imm) 10 = 1 := by
      rw [parC_bt (row_ok (k := 14) (by decide))]
      show or1 (or1 (or1 (or1 (bt 35937 10) (bt (putP 5 f.d) 10)) (bt (putP 5 f.r) 10)) (bt (putP 6 f.t) 10)) (bt (sputC 0 f.imm) 10) = _
      rw [bput_5 f.d _ (by decide), bput_5 f.r _ (by decide), bput_6 f.t _ (by decide), sputC_bt, sput8 _ hU, show bt 35937 10 = 1 by decide]
      simp [pbP, spr, spr0, sprOf, or1_0, or1_1, or1_bb, bt_m32, hrd, ed0, ed1, ed2, et0, et1, et2, z2, z3, z4, z7, z8, z9]
    have q11 : bt (parC (rowC 14) f.d f.r f.t f.imm) 11 = 1 := by
      rw [parC_bt (row_ok (k := 14) (by decide))]
      show or1 (or1 (or1 (or1 (bt 35937 11) (bt (putP 5 f.d) 11)) (bt (putP 5 f.r) 11)) (bt (putP 6 f.t) 11)) (bt (sputC 0 f.imm) 11) = _
      rw [bput_5 f.d _ (by decide), bput_5 f.r _ (by decide), bput_6 f.t _ (by decide), sputC_bt, sput8 _ hU, show bt 35937 11 = 1 by decide]
      simp [pbP, spr, spr0, sprOf, or1_0, or1_1, or1_bb, bt_m32, hrd, ed0, ed1, ed2, et0, et1, et2, z2, z3, z4, z7, z8, z9]
    have q12 : bt (parC (rowC 14) f.d f.r f.t f.imm) 12 = 0 := by
      rw [parC_bt (row_ok (k := 14) (by decide))]
      show or1 (or1 (or1 (or1 (bt 35937 12) (bt (putP 5 f.d) 12)) (bt (putP 5 f.r) 12)) (bt (putP 6 f.t) 12)) (bt (sputC 0 f.imm) 12) = _
      rw [bput_5 f.d _ (by decide), bput_5 f.r _ (by decide), bput_6 f.t _ (by decide), sputC_bt, sput8 _ hU, show bt 35937 12 = 0 by decide]
      simp [pbP, spr, spr0, sprOf, or1_0, or1_1, or1_bb, bt_m32, hrd, ed0, ed1, ed2, et0, et1, et2, z2, z3, z4, z7, z8, z9]
    have q13 : bt (parC (rowC 14) f.d f.r f.t f.imm) 13 = 0 := by
      rw [parC_bt (row_ok (k := 14) (by decide))]
      show or1 (or1 (or1 (or1 (bt 35937 13) (bt (putP 5 f.d) 13)) (bt (putP 5 f.r) 13)) (bt (putP 6 f.t) 13)) (bt (sputC 0 f.imm) 13) = _
      rw [bput_5 f.d _ (by decide), bput_5 f.r _ (by decide), bput_6 f.t _ (by decide), sputC_bt, sput8 _ hU, show bt 35937 13 = 0 by decide]
      simp [pbP, spr, spr0, sprOf, or1_0, or1_1, or1_bb, bt_m32, hrd, ed0, ed1, ed2, et0, et1, et2, z2, z3, z4, z7, z8, z9]
    have q14 : bt (parC (rowC 14) f.d f.r f.t f.imm) 14 = 0 := by
      rw [parC_bt (row_ok (k := 14) (by decide))]
      show or1 (or1 (or1 (or1 (bt 35937 14) (bt (putP 5 f.d) 14)) (bt (putP 5 f.r) 14)) (bt (putP 6 f.t) 14)) (bt (sputC 0 f.imm) 14) = _
      rw [bput_5 f.d _ (by decide), bput_5 f.r _ (by decide), bput_6 f.t _ (by decide), sputC_bt, sput8 _ hU, show bt 35937 14 = 0 by decide]
      simp [pbP, spr, spr0, sprOf, or1_0, or1_1, or1_bb, bt_m32, hrd, ed0, ed1, ed2, et0, et1, et2, z2, z3, z4, z7, z8, z9]
    have q15 : bt (parC (rowC 14) f.d f.r f.t f.imm) 15 = 1 := by
      rw [parC_bt (row_ok (k := 14) (by decide))]
      show or1 (or1 (or1 (or1 (bt 35937 15) (bt (putP 5 f.d) 15)) (bt (putP 5 f.r) 15)) (bt (putP 6 f.t) 15)) (bt (sputC 0 f.imm) 15) = _
      rw [bput_5 f.d _ (by decide), bput_5 f.r _ (by decide), bput_6 f.t _ (by decide), sputC_bt, sput8 _ hU, show bt 35937 15 = 1 by decide]
      simp [pbP, spr, spr0, sprOf, or1_0, or1_1, or1_bb, bt_m32, hrd, ed0, ed1, ed2, et0, et1, et2, z2, z3, z4, z7, z8, z9]
    rw [q0, q1, q2, q3, q4, q5, q6, q7, q8, q9, q10, q11, q12, q13, q14, q15] at hsp
    omega
theorem backC_15 (p : Int) (f : Flds) (h0 : 0 ≤ p) (h1 : p < 65536) (h : instS (shortR 15) p = some f) : parC (rowC 15) f.d f.r f.t f.imm = p := by
  have hs := sum16 p h0 h1
  have hb := bt_bd p
  unfold instS at h
  rw [rd_rdB] at h
  generalize bt p = b at h hs hb
  simp [shortR, shortL, rdB, miss, rstep, badS, makeS, fieldS, eightS, cnt, immS2, immS1, hi, hiTo, hasB] at h
  split at h
  · cases h
  rename_i g hg
  simp only [Option.ite_none_right_eq_some, Option.some.injEq] at hg
  obtain ⟨c0, c1, c2, c3, c4, hg⟩ := hg
  have gd : g.d = 0 := by subst hg; simp [pw] <;> omega
  have gr : g.r = 0 := by subst hg; simp [pw] <;> omega
  have gt : g.t = 0 := by subst hg; simp [pw] <;> omega
  have gimm : g.imm = 2 * b 3 + 4 * b 4 + 8 * b 5 + 16 * b 11 + 32 * b 2 + 64 * b 7 + 128 * b 6 + 256 * b 9 + 512 * b 10 + 1024 * b 8 + 2048 * b 12 := by subst hg; simp [pw] <;> omega
  clear hg
  have B2 := hb 2
  have B3 := hb 3
  have B4 := hb 4
  have B5 := hb 5
  have B6 := hb 6
  have B7 := hb 7
  have B8 := hb 8
  have B9 := hb 9
  have B10 := hb 10
  have B11 := hb 11
  have B12 := hb 12
  clear hb
  have it : bt g.imm 11 = b 12 := by exact bt_at (A := 2 * b 3 + 4 * b 4 + 8 * b 5 + 16 * b 11 + 32 * b 2 + 64 * b 7 + 128 * b 6 + 256 * b 9 + 512 * b 10 + 1024 * b 8) (C := 0) 11 (by decide) (by decide : pw 11 = 2048) (by omega) (by omega) (by omega) B12
  have hsg : sgn g.imm 11 = g.imm - 4096 * b 12 := by rw [sgn_lin, it]; simp [pw]
  repeat' split at h
  all_goals first | (cases h; done) | skip
  all_goals
    have h := Option.some.inj h
    have hd := congrArg Flds.d h
    have hr := congrArg Flds.r h
    have ht := congrArg Flds.t h
    have hm := congrArg Flds.imm h
    clear h
    dsimp only at hd hr ht hm
    have eimm1 : bt f.imm 1 = b 3 := bt_at (A := 0) (C := 1 * b 4 + 2 * b 5 + 4 * b 11 + 8 * b 2 + 16 * b 7 + 32 * b 6 + 64 * b 9 + 128 * b 10 + 256 * b 8 + 512 * b 12 + -1024 * b 12) 1 (by decide) (by decide : pw 1 = 2) (by omega) (by omega) (by omega) B3
    have eimm2 : bt f.imm 2 = b 4 := bt_at (A := 2 * b 3) (C := 1 * b 5 + 2 * b 11 + 4 * b 2 + 8 * b 7 + 16 * b 6 + 32 * b 9 + 64 * b 10 + 128 * b 8 + 256 * b 12 + -512 * b 12) 2 (by decide) (by decide : pw 2 = 4) (by omega) (by omega) (by omega) B4
    have eimm3 : bt f.imm 3 = b 5 := bt_at (A := 2 * b 3 + 4 * b 4) (C := 1 * b 11 + 2 * b 2 + 4 * b 7 + 8 * b 6 + 16 * b 9 + 32 * b 10 + 64 * b 8 + 128 * b 12 + -256 * b 12) 3 (by decide) (by decide : pw 3 = 8) (by omega) (by omega) (by omega) B5
    have eimm4 : bt f.imm 4 = b 11 := bt_at (A := 2 * b 3 + 4 * b 4 + 8 * b 5) (C := 1 * b 2 + 2 * b 7 + 4 * b 6 + 8 * b 9 + 16 * b 10 + 32 * b 8 + 64 * b 12 + -128 * b 12) 4 (by decide) (by decide : pw 4 = 16) (by omega) (by omega) (by omega) B11
    have eimm5 : bt f.imm 5 = b 2 := bt_at (A := 2 * b 3 + 4 * b 4 + 8 * b 5 + 16 * b 11) (C := 1 * b 7 + 2 * b 6 + 4 * b 9 + 8 * b 10 + 16 * b 8 + 32 * b 12 + -64 * b 12) 5 (by decide) (by decide : pw 5 = 32) (by omega) (by omega) (by omega) B2
    have eimm6 : bt f.imm 6 = b 7 := bt_at (A := 2 * b 3 + 4 * b 4 + 8 * b 5 + 16 * b 11 + 32 * b 2) (C := 1 * b 6 + 2 * b 9 + 4 * b 10 + 8 * b 8 + 16 * b 12 + -32 * b 12) 6 (by decide) (by decide : pw 6 = 64) (by omega) (by omega) (by omega) B7
    have eimm7 : bt f.imm 7 = b 6 := bt_at (A := 2 * b 3 + 4 * b 4 + 8 * b 5 + 16 * b 11 + 32 * b 2 + 64 * b 7) (C := 1 * b 9 + 2 * b 10 + 4 * b 8 + 8 * b 12 + -16 * b 12) 7 (by decide) (by decide : pw 7 = 128) (by omega) (by omega) (by omega) B6
    have eimm8 : bt f.imm 8 = b 9 := bt_at (A := 2 * b 3 + 4 * b 4 + 8 * b 5 + 16 * b 11 + 32 * b 2 + 64 * b 7 + 128 * b 6) (C := 1 * b 10 + 2 * b 8 + 4 * b 12 + -8 * b 12) 8 (by decide) (by decide : pw 8 = 256) (by omega) (by omega) (by omega) B9
    have eimm9 : bt f.imm 9 = b 10 := bt_at (A := 2 * b 3 + 4 * b 4 + 8 * b 5 + 16 * b 11 + 32 * b 2 + 64 * b 7 + 128 * b 6 + 256 * b 9) (C := 1 * b 8 + 2 * b 12 + -4 * b 12) 9 (by decide) (by decide : pw 9 = 512) (by omega) (by omega) (by omega) B10
    have eimm10 : bt f.imm 10 = b 8 := bt_at (A := 2 * b 3 + 4 * b 4 + 8 * b 5 + 16 * b 11 + 32 * b 2 + 64 * b 7 + 128 * b 6 + 256 * b 9 + 512 * b 10) (C := 1 * b 12 + -2 * b 12) 10 (by decide) (by decide : pw 10 = 1024) (by omega) (by omega) (by omega) B8
    have eimm11 : bt f.imm 11 = b 12 := bt_at (A := 2 * b 3 + 4 * b 4 + 8 * b 5 + 16 * b 11 + 32 * b 2 + 64 * b 7 + 128 * b 6 + 256 * b 9 + 512 * b 10 + 1024 * b 8) (C := -1 * b 12) 11 (by decide) (by decide : pw 11 = 2048) (by omega) (by omega) (by omega) B12
    have hu := parC_u16 (row_ok (k := 15) (by decide)) f.d f.r f.t f.imm
    have hsp := sum16 _ hu.1 hu.2
    have hU : U32 (f.imm % 4294967296) := ⟨by omega, by omega⟩
    have z2 : or1 (b 2) 0 = b 2 := or1_b0 B2
    have z3 : or1 (b 3) 0 = b 3 := or1_b0 B3
    have z4 : or1 (b 4) 0 = b 4 := or1_b0 B4
    have z5 : or1 (b 5) 0 = b 5 := or1_b0 B5
    have z6 : or1 (b 6) 0 = b 6 := or1_b0 B6
    have z7 : or1 (b 7) 0 = b 7 := or1_b0 B7
    have z8 : or1 (b 8) 0 = b 8 := or1_b0 B8
    have z9 : or1 (b 9) 0 = b 9 := or1_b0 B9
    have z10 : or1 (b 10) 0 = b 10 := or1_b0 B10
    have z11 : or1 (b 11) 0 = b 11 := or1_b0 B11
    have z12 : or1 (b 12) 0 = b 12 := or1_b0 B12
    have q0 : bt (parC (rowC 15) f.d f.r f.t f.imm) 0 = 1 := by
      rw [parC_bt (row_ok (k := 15) (by decide))]
      show or1 (or1 (or1 (or1 (bt 40961 0) (bt (putP 0 f.d) 0)) (bt (putP 0 f.r) 0)) (bt (putP 0 f.t) 0)) (bt (sputC 9 f.imm) 0) = _
      rw [bput_0 f.d _ (by decide), bput_0 f.r _ (by decide), bput_0 f.t _ (by decide), sputC_bt, sput8 _ hU, show bt 40961 0 = 1 by decide]
      simp [pbP, spr, spr9, sprOf, or1_0, or1_1, or1_bb, bt_m32, eimm1, eimm2, eimm3, eimm4, eimm5, eimm6, eimm7, eimm8, eimm9, eimm10, eimm11, z2, z3, z4, z5, z6, z7, z8, z9, z10, z11, z12]
    have q1 : bt (parC (rowC 15) f.d f.r f.t f.imm) 1 = 0 := by
      rw [parC_bt (row_ok (k := 15) (by decide))]
      show or1 (or1 (or1 (or1 (bt 40961 1) (bt (putP 0 f.d) 1)) (bt (putP 0 f.r) 1)) (bt (putP 0 f.t) 1)) (bt (sputC 9 f.imm) 1) = _
      rw [bput_0 f.d _ (by decide), bput_0 f.r _ (by decide), bput_0 f.t _ (by decide), sputC_bt, sput8 _ hU, show bt 40961 1 = 0 by decide]
      simp [pbP, spr, spr9, sprOf, or1_0, or1_1, or1_bb, bt_m32, eimm1, eimm2, eimm3, eimm4, eimm5, eimm6, eimm7, eimm8, eimm9, eimm10, eimm11, z2, z3, z4, z5, z6, z7, z8, z9, z10, z11, z12]
    have q2 : bt (parC (rowC 15) f.d f.r f.t f.imm) 2 = b 2 := by
      rw [parC_bt (row_ok (k := 15) (by decide))]
      show or1 (or1 (or1 (or1 (bt 40961 2) (bt (putP 0 f.d) 2)) (bt (putP 0 f.r) 2)) (bt (putP 0 f.t) 2)) (bt (sputC 9 f.imm) 2) = _
      rw [bput_0 f.d _ (by decide), bput_0 f.r _ (by decide), bput_0 f.t _ (by decide), sputC_bt, sput8 _ hU, show bt 40961 2 = 0 by decide]
      simp [pbP, spr, spr9, sprOf, or1_0, or1_1, or1_bb, bt_m32, eimm1, eimm2, eimm3, eimm4, eimm5, eimm6, eimm7, eimm8, eimm9, eimm10, eimm11, z2, z3, z4, z5, z6, z7, z8, z9, z10, z11, z12]
    have q3 : bt (parC (rowC 15) f.d f.r f.t f.imm) 3 = b 3 := by
      rw [parC_bt (row_ok (k := 15) (by decide))]
      show or1 (or1 (or1 (or1 (bt 40961 3) (bt (putP 0 f.d) 3)) (bt (putP 0 f.r) 3)) (bt (putP 0 f.t) 3)) (bt (sputC 9 f.imm) 3) = _
      rw [bput_0 f.d _ (by decide), bput_0 f.r _ (by decide), bput_0 f.t _ (by decide), sputC_bt, sput8 _ hU, show bt 40961 3 = 0 by decide]
      simp [pbP, spr, spr9, sprOf, or1_0, or1_1, or1_bb, bt_m32, eimm1, eimm2, eimm3, eimm4, eimm5, eimm6, eimm7, eimm8, eimm9, eimm10, eimm11, z2, z3, z4, z5, z6, z7, z8, z9, z10, z11, z12]
    have q4 : bt (parC (rowC 15) f.d f.r f.t f.imm) 4 = b 4 := by
      rw [parC_bt (row_ok (k := 15) (by decide))]
      show or1 (or1 (or1 (or1 (bt 40961 4) (bt (putP 0 f.d) 4)) (bt (putP 0 f.r) 4)) (bt (putP 0 f.t) 4)) (bt (sputC 9 f.imm) 4) = _
      rw [bput_0 f.d _ (by decide), bput_0 f.r _ (by decide), bput_0 f.t _ (by decide), sputC_bt, sput8 _ hU, show bt 40961 4 = 0 by decide]
      simp [pbP, spr, spr9, sprOf, or1_0, or1_1, or1_bb, bt_m32, eimm1, eimm2, eimm3, eimm4, eimm5, eimm6, eimm7, eimm8, eimm9, eimm10, eimm11, z2, z3, z4, z5, z6, z7, z8, z9, z10, z11, z12]
    have q5 : bt (parC (rowC 15) f.d f.r f.t f.imm) 5 = b 5 := by
      rw [parC_bt (row_ok (k := 15) (by decide))]
      show or1 (or1 (or1 (or1 (bt 40961 5) (bt (putP 0 f.d) 5)) (bt (putP 0 f.r) 5)) (bt (putP 0 f.t) 5)) (bt (sputC 9 f.imm) 5) = _
      rw [bput_0 f.d _ (by decide), bput_0 f.r _ (by decide), bput_0 f.t _ (by decide), sputC_bt, sput8 _ hU, show bt 40961 5 = 0 by decide]
      simp [pbP, spr, spr9, sprOf, or1_0, or1_1, or1_bb, bt_m32, eimm1, eimm2, eimm3, eimm4, eimm5, eimm6, eimm7, eimm8, eimm9, eimm10, eimm11, z2, z3, z4, z5, z6, z7, z8, z9, z10, z11, z12]
    have q6 : bt (parC (rowC 15) f.d f.r f.t f.imm) 6 = b 6 := by
      rw [parC_bt (row_ok (k := 15) (by decide))]
      show or1 (or1 (or1 (or1 (bt 40961 6) (bt (putP 0 f.d) 6)) (bt (putP 0 f.r) 6)) (bt (putP 0 f.t) 6)) (bt (sputC 9 f.imm) 6) = _
      rw [bput_0 f.d _ (by decide), bput_0 f.r _ (by decide), bput_0 f.t _ (by decide), sputC_bt, sput8 _ hU, show bt 40961 6 = 0 by decide]
      simp [pbP, spr, spr9, sprOf, or1_0, or1_1, or1_bb, bt_m32, eimm1, eimm2, eimm3, eimm4, eimm5, eimm6, eimm7, eimm8, eimm9, eimm10, eimm11, z2, z3, z4, z5, z6, z7, z8, z9, z10, z11, z12]
    have q7 : bt (parC (rowC 15) f.d f.r f.t f.imm) 7 = b 7 := by
      rw [parC_bt (row_ok (k := 15) (by decide))]
      show or1 (or1 (or1 (or1 (bt 40961 7) (bt (putP 0 f.d) 7)) (bt (putP 0 f.r) 7)) (bt (putP 0 f.t) 7)) (bt (sputC 9 f.imm) 7) = _
      rw [bput_0 f.d _ (by decide), bput_0 f.r _ (by decide), bput_0 f.t _ (by decide), sputC_bt, sput8 _ hU, show bt 40961 7 = 0 by decide]
      simp [pbP, spr, spr9, sprOf, or1_0, or1_1, or1_bb, bt_m32, eimm1, eimm2, eimm3, eimm4, eimm5, eimm6, eimm7, eimm8, eimm9, eimm10, eimm11, z2, z3, z4, z5, z6, z7, z8, z9, z10, z11, z12]
    have q8 : bt (parC (rowC 15) f.d f.r f.t f.imm) 8 = b 8 := by
      rw [parC_bt (row_ok (k := 15) (by decide))]
      show or1 (or1 (or1 (or1 (bt 40961 8) (bt (putP 0 f.d) 8)) (bt (putP 0 f.r) 8)) (bt (putP 0 f.t) 8)) (bt (sputC 9 f.imm) 8) = _
      rw [bput_0 f.d _ (by decide), bput_0 f.r _ (by decide), bput_0 f.t _ (by decide), sputC_bt, sput8 _ hU, show bt 40961 8 = 0 by decide]
      simp [pbP, spr, spr9, sprOf, or1_0, or1_1, or1_bb, bt_m32, eimm1, eimm2, eimm3, eimm4, eimm5, eimm6, eimm7, eimm8, eimm9, eimm10, eimm11, z2, z3, z4, z5, z6, z7, z8, z9, z10, z11, z12]
    have q9 : bt (parC (rowC 15) f.d f.r f.t f.imm) 9 = b 9 := by
      rw [parC_bt (row_ok (k := 15) (by decide))]
      show or1 (or1 (or1 (or1 (bt 40961 9) (bt (putP 0 f.d) 9)) (bt (putP 0 f.r) 9)) (bt (putP 0 f.t) 9)) (bt (sputC 9 f.imm) 9) = _
      rw [bput_0 f.d _ (by decide), bput_0 f.r _ (by decide), bput_0 f.t _ (by decide), sputC_bt, sput8 _ hU, show bt 40961 9 = 0 by decide]
      simp [pbP, spr, spr9, sprOf, or1_0, or1_1, or1_bb, bt_m32, eimm1, eimm2, eimm3, eimm4, eimm5, eimm6, eimm7, eimm8, eimm9, eimm10, eimm11, z2, z3, z4, z5, z6, z7, z8, z9, z10, z11, z12]
    have q10 : bt (parC (rowC 15) f.d f.r f.t f.imm) 10 = b 10 := by
      rw [parC_bt (row_ok (k := 15) (by decide))]
      show or1 (or1 (or1 (or1 (bt 40961 10) (bt (putP 0 f.d) 10)) (bt (putP 0 f.r) 10)) (bt (putP 0 f.t) 10)) (bt (sputC 9 f.imm) 10) = _
      rw [bput_0 f.d _ (by decide), bput_0 f.r _ (by decide), bput_0 f.t _ (by decide), sputC_bt, sput8 _ hU, show bt 40961 10 = 0 by decide]
      simp [pbP, spr, spr9, sprOf, or1_0, or1_1, or1_bb, bt_m32, eimm1, eimm2, eimm3, eimm4, eimm5, eimm6, eimm7, eimm8, eimm9, eimm10, eimm11, z2, z3, z4, z5, z6, z7, z8, z9, z10, z11, z12]
    have q11 : bt (parC (rowC 15) f.d f.r f.t f.imm) 11 = b 11 := by
      rw [parC_bt (row_ok (k := 15) (by decide))]
      show or1 (or1 (or1 (or1 (bt 40961 11) (bt (putP 0 f.d) 11)) (bt (putP 0 f.r) 11)) (bt (putP 0 f.t) 11)) (bt (sputC 9 f.imm) 11) = _
      rw [bput_0 f.d _ (by decide), bput_0 f.r _ (by decide), bput_0 f.t _ (by decide), sputC_bt, sput8 _ hU, show bt 40961 11 = 0 by decide]
      simp [pbP, spr, spr9, sprOf, or1_0, or1_1, or1_bb, bt_m32, eimm1, eimm2, eimm3, eimm4, eimm5, eimm6, eimm7, eimm8, eimm9, eimm10, eimm11, z2, z3, z4, z5, z6, z7, z8, z9, z10, z11, z12]
    have q12 : bt (parC (rowC 15) f.d f.r f.t f.imm) 12 = b 12 := by
      rw [parC_bt (row_ok (k := 15) (by decide))]
      show or1 (or1 (or1 (or1 (bt 40961 12) (bt (putP 0 f.d) 12)) (bt (putP 0 f.r) 12)) (bt (putP 0 f.t) 12)) (bt (sputC 9 f.imm) 12) = _
      rw [bput_0 f.d _ (by decide), bput_0 f.r _ (by decide), bput_0 f.t _ (by decide), sputC_bt, sput8 _ hU, show bt 40961 12 = 0 by decide]
      simp [pbP, spr, spr9, sprOf, or1_0, or1_1, or1_bb, bt_m32, eimm1, eimm2, eimm3, eimm4, eimm5, eimm6, eimm7, eimm8, eimm9, eimm10, eimm11, z2, z3, z4, z5, z6, z7, z8, z9, z10, z11, z12]
    have q13 : bt (parC (rowC 15) f.d f.r f.t f.imm) 13 = 1 := by
      rw [parC_bt (row_ok (k := 15) (by decide))]
      show or1 (or1 (or1 (or1 (bt 40961 13) (bt (putP 0 f.d) 13)) (bt (putP 0 f.r) 13)) (bt (putP 0 f.t) 13)) (bt (sputC 9 f.imm) 13) = _
      rw [bput_0 f.d _ (by decide), bput_0 f.r _ (by decide), bput_0 f.t _ (by decide), sputC_bt, sput8 _ hU, show bt 40961 13 = 1 by decide]
      simp [pbP, spr, spr9, sprOf, or1_0, or1_1, or1_bb, bt_m32, eimm1, eimm2, eimm3, eimm4, eimm5, eimm6, eimm7, eimm8, eimm9, eimm10, eimm11, z2, z3, z4, z5, z6, z7, z8, z9, z10, z11, z12]
    have q14 : bt (parC (rowC 15) f.d f.r f.t f.imm) 14 = 0 := by
      rw [parC_bt (row_ok (k := 15) (by decide))]
      show or1 (or1 (or1 (or1 (bt 40961 14) (bt (putP 0 f.d) 14)) (bt (putP 0 f.r) 14)) (bt (putP 0 f.t) 14)) (bt (sputC 9 f.imm) 14) = _
      rw [bput_0 f.d _ (by decide), bput_0 f.r _ (by decide), bput_0 f.t _ (by decide), sputC_bt, sput8 _ hU, show bt 40961 14 = 0 by decide]
      simp [pbP, spr, spr9, sprOf, or1_0, or1_1, or1_bb, bt_m32, eimm1, eimm2, eimm3, eimm4, eimm5, eimm6, eimm7, eimm8, eimm9, eimm10, eimm11, z2, z3, z4, z5, z6, z7, z8, z9, z10, z11, z12]
    have q15 : bt (parC (rowC 15) f.d f.r f.t f.imm) 15 = 1 := by
      rw [parC_bt (row_ok (k := 15) (by decide))]
      show or1 (or1 (or1 (or1 (bt 40961 15) (bt (putP 0 f.d) 15)) (bt (putP 0 f.r) 15)) (bt (putP 0 f.t) 15)) (bt (sputC 9 f.imm) 15) = _
      rw [bput_0 f.d _ (by decide), bput_0 f.r _ (by decide), bput_0 f.t _ (by decide), sputC_bt, sput8 _ hU, show bt 40961 15 = 1 by decide]
      simp [pbP, spr, spr9, sprOf, or1_0, or1_1, or1_bb, bt_m32, eimm1, eimm2, eimm3, eimm4, eimm5, eimm6, eimm7, eimm8, eimm9, eimm10, eimm11, z2, z3, z4, z5, z6, z7, z8, z9, z10, z11, z12]
    rw [q0, q1, q2, q3, q4, q5, q6, q7, q8, q9, q10, q11, q12, q13, q14, q15] at hsp
    omega
theorem backC_16 (p : Int) (f : Flds) (h0 : 0 ≤ p) (h1 : p < 65536) (h : instS (shortR 16) p = some f) : parC (rowC 16) f.d f.r f.t f.imm = p := by
  have hs := sum16 p h0 h1
  have hb := bt_bd p
  unfold instS at h
  rw [rd_rdB] at h
  generalize bt p = b at h hs hb
  simp [shortR, shortL, rdB, miss, rstep, badS, makeS, fieldS, eightS, cnt, immS2, immS1, hi, hiTo, hasB] at h
  split at h
  · cases h
  rename_i g hg
  simp only [Option.ite_none_right_eq_some, Option.some.injEq] at hg
  obtain ⟨c0, c1, c2, c3, c4, hg⟩ := hg
  have gd : g.d = 0 := by subst hg; simp [pw] <;> omega
  have gr : g.r = 1 * b 7 + 2 * b 8 + 4 * b 9 := by subst hg; simp [pw] <;> omega
  have gt : g.t = 0 := by subst hg; simp [pw] <;> omega
  have gimm : g.imm = 2 * b 3 + 4 * b 4 + 8 * b 10 + 16 * b 11 + 32 * b 2 + 64 * b 5 + 128 * b 6 + 256 * b 12 := by subst hg; simp [pw] <;> omega
  clear hg
  have B2 := hb 2
  have B3 := hb 3
  have B4 := hb 4
  have B5 := hb 5
  have B6 := hb 6
  have B7 := hb 7
  have B8 := hb 8
  have B9 := hb 9
  have B10 := hb 10
  have B11 := hb 11
  have B12 := hb 12
  clear hb
  have it : bt g.imm 8 = b 12 := by exact bt_at (A := 2 * b 3 + 4 * b 4 + 8 * b 10 + 16 * b 11 + 32 * b 2 + 64 * b 5 + 128 * b 6) (C := 0) 8 (by decide) (by decide : pw 8 = 256) (by omega) (by omega) (by omega) B12
  have hsg : sgn g.imm 8 = g.imm - 512 * b 12 := by rw [sgn_lin, it]; simp [pw]
  repeat' split at h
  all_goals first | (cases h; done) | skip
  all_goals
    have h := Option.some.inj h
    have hd := congrArg Flds.d h
    have hr := congrArg Flds.r h
    have ht := congrArg Flds.t h
    have hm := congrArg Flds.imm h
    clear h
    dsimp only at hd hr ht hm
    have er0 : bt f.r 0 = b 7 := bt_at (A := 0) (C := 1 * b 8 + 2 * b 9 + 4) 0 (by decide) (by decide : pw 0 = 1) (by omega) (by omega) (by omega) B7
    have er1 : bt f.r 1 = b 8 := bt_at (A := 1 * b 7) (C := 1 * b 9 + 2) 1 (by decide) (by decide : pw 1 = 2) (by omega) (by omega) (by omega) B8
    have er2 : bt f.r 2 = b 9 := bt_at (A := 1 * b 7 + 2 * b 8) (C := 1) 2 (by decide) (by decide : pw 2 = 4) (by omega) (by omega) (by omega) B9
    have eimm1 : bt f.imm 1 = b 3 := bt_at (A := 0) (C := 1 * b 4 + 2 * b 10 + 4 * b 11 + 8 * b 2 + 16 * b 5 + 32 * b 6 + 64 * b 12 + -128 * b 12) 1 (by decide) (by decide : pw 1 = 2) (by omega) (by omega) (by omega) B3
    have eimm2 : bt f.imm 2 = b 4 := bt_at (A := 2 * b 3) (C := 1 * b 10 + 2 * b 11 + 4 * b 2 + 8 * b 5 + 16 * b 6 + 32 * b 12 + -64 * b 12) 2 (by decide) (by decide : pw 2 = 4) (by omega) (by omega) (by omega) B4
    have eimm3 : bt f.imm 3 = b 10 := bt_at (A := 2 * b 3 + 4 * b 4) (C := 1 * b 11 + 2 * b 2 + 4 * b 5 + 8 * b 6 + 16 * b 12 + -32 * b 12) 3 (by decide) (by decide : pw 3 = 8) (by omega) (by omega) (by omega) B10
    have eimm4 : bt f.imm 4 = b 11 := bt_at (A := 2 * b 3 + 4 * b 4 + 8 * b 10) (C := 1 * b 2 + 2 * b 5 + 4 * b 6 + 8 * b 12 + -16 * b 12) 4 (by decide) (by decide : pw 4 = 16) (by omega) (by omega) (by omega) B11
    have eimm5 : bt f.imm 5 = b 2 := bt_at (A := 2 * b 3 + 4 * b 4 + 8 * b 10 + 16 * b 11) (C := 1 * b 5 + 2 * b 6 + 4 * b 12 + -8 * b 12) 5 (by decide) (by decide : pw 5 = 32) (by omega) (by omega) (by omega) B2
    have eimm6 : bt f.imm 6 = b 5 := bt_at (A := 2 * b 3 + 4 * b 4 + 8 * b 10 + 16 * b 11 + 32 * b 2) (C := 1 * b 6 + 2 * b 12 + -4 * b 12) 6 (by decide) (by decide : pw 6 = 64) (by omega) (by omega) (by omega) B5
    have eimm7 : bt f.imm 7 = b 6 := bt_at (A := 2 * b 3 + 4 * b 4 + 8 * b 10 + 16 * b 11 + 32 * b 2 + 64 * b 5) (C := 1 * b 12 + -2 * b 12) 7 (by decide) (by decide : pw 7 = 128) (by omega) (by omega) (by omega) B6
    have eimm8 : bt f.imm 8 = b 12 := bt_at (A := 2 * b 3 + 4 * b 4 + 8 * b 10 + 16 * b 11 + 32 * b 2 + 64 * b 5 + 128 * b 6) (C := -1 * b 12) 8 (by decide) (by decide : pw 8 = 256) (by omega) (by omega) (by omega) B12
    have hu := parC_u16 (row_ok (k := 16) (by decide)) f.d f.r f.t f.imm
    have hsp := sum16 _ hu.1 hu.2
    have hU : U32 (f.imm % 4294967296) := ⟨by omega, by omega⟩
    have z2 : or1 (b 2) 0 = b 2 := or1_b0 B2
    have z3 : or1 (b 3) 0 = b 3 := or1_b0 B3
    have z4 : or1 (b 4) 0 = b 4 := or1_b0 B4
    have z5 : or1 (b 5) 0 = b 5 := or1_b0 B5
    have z6 : or1 (b 6) 0 = b 6 := or1_b0 B6
    have z7 : or1 (b 7) 0 = b 7 := or1_b0 B7
    have z8 : or1 (b 8) 0 = b 8 := or1_b0 B8
    have z9 : or1 (b 9) 0 = b 9 := or1_b0 B9
    have z10 : or1 (b 10) 0 = b 10 := or1_b0 B10
    have z11 : or1 (b 11) 0 = b 11 := or1_b0 B11
    have z12 : or1 (b 12) 0 = b 12 := or1_b0 B12
    have q0 : bt (parC (rowC 16) f.d f.r f.t f.imm) 0 = 1 := by
      rw [parC_bt (row_ok (k := 16) (by decide))]
      show or1 (or1 (or1 (or1 (bt 49153 0) (bt (putP 0 f.d) 0)) (bt (putP 5 f.r) 0)) (bt (putP 0 f.t) 0)) (bt (sputC 8 f.imm) 0) = _
      rw [bput_0 f.d _ (by decide), bput_5 f.r _ (by decide), bput_0 f.t _ (by decide), sputC_bt, sput8 _ hU, show bt 49153 0 = 1 by decide]
      simp [pbP, spr, spr8, sprOf, or1_0, or1_1, or1_bb, bt_m32, er0, er1, er2, eimm1, eimm2, eimm3, eimm4, eimm5, eimm6, eimm7, eimm8, z2, z3, z4, z5, z6, z7, z8, z9, z10, z11, z12]
    have q1 : bt (parC (rowC 16) f.d f.r f.t f.imm) 1 = 0 := by
      rw [parC_bt (row_ok (k := 16) (by decide))]
      show or1 (or1 (or1 (or1 (bt 49153 1) (bt (putP 0 f.d) 1)) (bt (putP 5 f.r) 1)) (bt (putP 0 f.t) 1)) (bt (sputC 8 f.imm) 1) = _
      rw [bput_0 f.d _ (by decide), bput_5 f.r _ (by decide), bput_0 f.t _ (by decide), sputC_bt, sput8 _ hU, show bt 49153 1 = 0 by decide]
      simp [pbP, spr, spr8, sprOf, or1_0, or1_1, or1_bb, bt_m32, er0, er1, er2, eimm1, eimm2, eimm3, eimm4, eimm5, eimm6, eimm7, eimm8, z2, z3, z4, z5, z6, z7, z8, z9, z10, z11, z12]
    have q2 : bt (parC (rowC 16) f.d f.r f.t f.imm) 2 = b 2 := by
      rw [parC_bt (row_ok (k := 16) (by decide))]
      show or1 (or1 (or1 (or1 (bt 49153 2) (bt (putP 0 f.d) 2)) (bt (putP 5 f.r) 2)) (bt (putP 0 f.t) 2)) (bt (sputC 8 f.imm) 2) = _
      rw [bput_0 f.d _ (by decide), bput_5 f.r _ (by decide), bput_0 f.t _ (by decide), sputC_bt, sput8 _ hU, show bt 49153 2 = 0 by decide]
      simp [pbP, spr, spr8, sprOf, or1_0, or1_1, or1_bb, bt_m32, er0, er1, er2, eimm1, eimm2, eimm3, eimm4, eimm5, eimm6, eimm7, eimm8, z2, z3, z4, z5, z6, z7, z8, z9, z10, z11, z12]
    have q3 : bt (parC (rowC 16) f.d f.r f.t f.imm) 3 = b 3 := by
      rw [parC_bt (row_ok (k := 16) (by decide))]
      show or1 (or1 (or1 (or1 (bt 49153 3) (bt (putP 0 f.d) 3)) (bt (putP 5 f.r) 3)) (bt (putP 0 f.t) 3)) (bt (sputC 8 f.imm) 3) = _
      rw [bput_0 f.d _ (by decide), bput_5 f.r _ (by decide), bput_0 f.t _ (by decide), sputC_bt, sput8 _ hU, show bt 49153 3 = 0 by decide]
      simp [pbP, spr, spr8, sprOf, or1_0, or1_1, or1_bb, bt_m32, er0, er1, er2, eimm1, eimm2, eimm3, eimm4, eimm5, eimm6, eimm7, eimm8, z2, z3, z4, z5, z6, z7, z8, z9, z10, z11, z12]
    have q4 : bt (parC (rowC 16) f.d f.r f.t f.imm) 4 = b 4 := by
      rw [parC_bt (row_ok (k := 16) (by decide))]
      show or1 (or1 (or1 (or1 (bt 49153 4) (bt (putP 0 f.d) 4)) (bt (putP 5 f.r) 4)) (bt (putP 0 f.t) 4)) (bt (sputC 8 f.imm) 4) = _
      rw [bput_0 f.d _ (by decide), bput_5 f.r _ (by decide), bput_0 f.t _ (by decide), sputC_bt, sput8 _ hU, show bt 49153 4 = 0 by decide]
      simp [pbP, spr, spr8, sprOf, or1_0, or1_1, or1_bb, bt_m32, er0, er1, er2, eimm1, eimm2, eimm3, eimm4, eimm5, eimm6, eimm7, eimm8, z2, z3, z4, z5, z6, z7, z8, z9, z10, z11, z12]
    have q5 : bt (parC (rowC 16) f.d f.r f.t f.imm) 5 = b 5 := by
      rw [parC_bt (row_ok (k := 16) (by decide))]
      show or1 (or1 (or1 (or1 (bt 49153 5) (bt (putP 0 f.d) 5)) (bt (putP 5 f.r) 5)) (bt (putP 0 f.t) 5)) (bt (sputC 8 f.imm) 5) = _
      rw [bput_0 f.d _ (by decide), bput_5 f.r _ (by decide), bput_0 f.t _ (by decide), sputC_bt, sput8 _ hU, show bt 49153 5 = 0 by decide]
      simp [pbP, spr, spr8, sprOf, or1_0, or1_1, or1_bb, bt_m32, er0, er1, er2, eimm1, eimm2, eimm3, eimm4, eimm5, eimm6, eimm7, eimm8, z2, z3, z4, z5, z6, z7, z8, z9, z10, z11, z12]
    have q6 : bt (parC (rowC 16) f.d f.r f.t f.imm) 6 = b 6 := by
      rw [parC_bt (row_ok (k := 16) (by decide))]
      show or1 (or1 (or1 (or1 (bt 49153 6) (bt (putP 0 f.d) 6)) (bt (putP 5 f.r) 6)) (bt (putP 0 f.t) 6)) (bt (sputC 8 f.imm) 6) = _
      rw [bput_0 f.d _ (by decide), bput_5 f.r _ (by decide), bput_0 f.t _ (by decide), sputC_bt, sput8 _ hU, show bt 49153 6 = 0 by decide]
      simp [pbP, spr, spr8, sprOf, or1_0, or1_1, or1_bb, bt_m32, er0, er1, er2, eimm1, eimm2, eimm3, eimm4, eimm5, eimm6, eimm7, eimm8, z2, z3, z4, z5, z6, z7, z8, z9, z10, z11, z12]
    have q7 : bt (parC (rowC 16) f.d f.r f.t f.imm) 7 = b 7 := by
      rw [parC_bt (row_ok (k := 16) (by decide))]
      show or1 (or1 (or1 (or1 (bt 49153 7) (bt (putP 0 f.d) 7)) (bt (putP 5 f.r) 7)) (bt (putP 0 f.t) 7)) (bt (sputC 8 f.imm) 7) = _
      rw [bput_0 f.d _ (by decide), bput_5 f.r _ (by decide), bput_0 f.t _ (by decide), sputC_bt, sput8 _ hU, show bt 49153 7 = 0 by decide]
      simp [pbP, spr, spr8, sprOf, or1_0, or1_1, or1_bb, bt_m32, er0, er1, er2, eimm1, eimm2, eimm3, eimm4, eimm5, eimm6, eimm7, eimm8, z2, z3, z4, z5, z6, z7, z8, z9, z10, z11, z12]
    have q8 : bt (parC (rowC 16) f.d f.r f.t f.imm) 8 = b 8 := by
      rw [parC_bt (row_ok (k := 16) (by decide))]
      show or1 (or1 (or1 (or1 (bt 49153 8) (bt (putP 0 f.d) 8)) (bt (putP 5 f.r) 8)) (bt (putP 0 f.t) 8)) (bt (sputC 8 f.imm) 8) = _
      rw [bput_0 f.d _ (by decide), bput_5 f.r _ (by decide), bput_0 f.t _ (by decide), sputC_bt, sput8 _ hU, show bt 49153 8 = 0 by decide]
      simp [pbP, spr, spr8, sprOf, or1_0, or1_1, or1_bb, bt_m32, er0, er1, er2, eimm1, eimm2, eimm3, eimm4, eimm5, eimm6, eimm7, eimm8, z2, z3, z4, z5, z6, z7, z8, z9, z10, z11, z12]
    have q9 : bt (parC (rowC 16) f.d f.r f.t f.imm) 9 = b 9 := by
      rw [parC_bt (row_ok (k := 16) (by decide))]
      show or1 (or1 (or1 (or1 (bt 49153 9) (bt (putP 0 f.d) 9)) (bt (putP 5 f.r) 9)) (bt (putP 0 f.t) 9)) (bt (sputC 8 f.imm) 9) = _
      rw [bput_0 f.d _ (by decide), bput_5 f.r _ (by decide), bput_0 f.t _ (by decide), sputC_bt, sput8 _ hU, show bt 49153 9 = 0 by decide]
      simp [pbP, spr, spr8, sprOf, or1_0, or1_1, or1_bb, bt_m32, er0, er1, er2, eimm1, eimm2, eimm3, eimm4, eimm5, eimm6, eimm7, eimm8, z2, z3, z4, z5, z6, z7, z8, z9, z10, z11, z12]
    have q10 : bt (parC (rowC 16) f.d f.r f.t f.imm) 10 = b 10 := by
      rw [parC_bt (row_ok (k := 16) (by decide))]
      show or1 (or1 (or1 (or1 (bt 49153 10) (bt (putP 0 f.d) 10)) (bt (putP 5 f.r) 10)) (bt (putP 0 f.t) 10)) (bt (sputC 8 f.imm) 10) = _
      rw [bput_0 f.d _ (by decide), bput_5 f.r _ (by decide), bput_0 f.t _ (by decide), sputC_bt, sput8 _ hU, show bt 49153 10 = 0 by decide]
      simp [pbP, spr, spr8, sprOf, or1_0, or1_1, or1_bb, bt_m32, er0, er1, er2, eimm1, eimm2, eimm3, eimm4, eimm5, eimm6, eimm7, eimm8, z2, z3, z4, z5, z6, z7, z8, z9, z10, z11, z12]
    have q11 : bt (parC (rowC 16) f.d f.r f.t f.imm) 11 = b 11 := by
      rw [parC_bt (row_ok (k := 16) (by decide))]
      show or1 (or1 (or1 (or1 (bt 49153 11) (bt (putP 0 f.d) 11)) (bt (putP 5 f.r) 11)) (bt (putP 0 f.t) 11)) (bt (sputC 8 f.imm) 11) = _
      rw [bput_0 f.d _ (by decide), bput_5 f.r _ (by decide), bput_0 f.t _ (by decide), sputC_bt, sput8 _ hU, show bt 49153 11 = 0 by decide]
      simp [pbP, spr, spr8, sprOf, or1_0, or1_1, or1_bb, bt_m32, er0, er1, er2, eimm1, eimm2, eimm3, eimm4, eimm5, eimm6, eimm7, eimm8, z2, z3, z4, z5, z6, z7, z8, z9, z10, z11, z12]
    have q12 : bt (parC (rowC 16) f.d f.r f.t f.imm) 12 = b 12 := by
      rw [parC_bt (row_ok (k := 16) (by decide))]
      show or1 (or1 (or1 (or1 (bt 49153 12) (bt (putP 0 f.d) 12)) (bt (putP 5 f.r) 12)) (bt (putP 0 f.t) 12)) (bt (sputC 8 f.imm) 12) = _
      rw [bput_0 f.d _ (by decide), bput_5 f.r _ (by decide), bput_0 f.t _ (by decide), sputC_bt, sput8 _ hU, show bt 49153 12 = 0 by decide]
      simp [pbP, spr, spr8, sprOf, or1_0, or1_1, or1_bb, bt_m32, er0, er1, er2, eimm1, eimm2, eimm3, eimm4, eimm5, eimm6, eimm7, eimm8, z2, z3, z4, z5, z6, z7, z8, z9, z10, z11, z12]
    have q13 : bt (parC (rowC 16) f.d f.r f.t f.imm) 13 = 0 := by
      rw [parC_bt (row_ok (k := 16) (by decide))]
      show or1 (or1 (or1 (or1 (bt 49153 13) (bt (putP 0 f.d) 13)) (bt (putP 5 f.r) 13)) (bt (putP 0 f.t) 13)) (bt (sputC 8 f.imm) 13) = _
      rw [bput_0 f.d _ (by decide), bput_5 f.r _ (by decide), bput_0 f.t _ (by decide), sputC_bt, sput8 _ hU, show bt 49153 13 = 0 by decide]
      simp [pbP, spr, spr8, sprOf, or1_0, or1_1, or1_bb, bt_m32, er0, er1, er2, eimm1, eimm2, eimm3, eimm4, eimm5, eimm6, eimm7, eimm8, z2, z3, z4, z5, z6, z7, z8, z9, z10, z11, z12]
    have q14 : bt (parC (rowC 16) f.d f.r f.t f.imm) 14 = 1 := by
      rw [parC_bt (row_ok (k := 16) (by decide))]
      show or1 (or1 (or1 (or1 (bt 49153 14) (bt (putP 0 f.d) 14)) (bt (putP 5 f.r) 14)) (bt (putP 0 f.t) 14)) (bt (sputC 8 f.imm) 14) = _
      rw [bput_0 f.d _ (by decide), bput_5 f.r _ (by decide), bput_0 f.t _ (by decide), sputC_bt, sput8 _ hU, show bt 49153 14 = 1 by decide]
      simp [pbP, spr, spr8, sprOf, or1_0, or1_1, or1_bb, bt_m32, er0, er1, er2, eimm1, eimm2, eimm3, eimm4, eimm5, eimm6, eimm7, eimm8, z2, z3, z4, z5, z6, z7, z8, z9, z10, z11, z12]
    have q15 : bt (parC (rowC 16) f.d f.r f.t f.imm) 15 = 1 := by
      rw [parC_bt (row_ok (k := 16) (by decide))]
      show or1 (or1 (or1 (or1 (bt 49153 15) (bt (putP 0 f.d) 15)) (bt (putP 5 f.r) 15)) (bt (putP 0 f.t) 15)) (bt (sputC 8 f.imm) 15) = _
      rw [bput_0 f.d _ (by decide), bput_5 f.r _ (by decide), bput_0 f.t _ (by decide), sputC_bt, sput8 _ hU, show bt 49153 15 = 1 by decide]
      simp [pbP, spr, spr8, sprOf, or1_0, or1_1, or1_bb, bt_m32, er0, er1, er2, eimm1, eimm2, eimm3, eimm4, eimm5, eimm6, eimm7, eimm8, z2, z3, z4, z5, z6, z7, z8, z9, z10, z11, z12]
    rw [q0, q1, q2, q3, q4, q5, q6, q7, q8, q9, q10, q11, q12, q13, q14, q15] at hsp
    omega
theorem backC_17 (p : Int) (f : Flds) (h0 : 0 ≤ p) (h1 : p < 65536) (h : instS (shortR 17) p = some f) : parC (rowC 17) f.d f.r f.t f.imm = p := by
  have hs := sum16 p h0 h1
  have hb := bt_bd p
  unfold instS at h
  rw [rd_rdB] at h
  generalize bt p = b at h hs hb
  simp [shortR, shortL, rdB, miss, rstep, badS, makeS, fieldS, eightS, cnt, immS2, immS1, hi, hiTo, hasB] at h
  split at h
  · cases h
  rename_i g hg
  simp only [Option.ite_none_right_eq_some, Option.some.injEq] at hg
  obtain ⟨c0, c1, c2, c3, c4, hg⟩ := hg
  have gd : g.d = 0 := by subst hg; simp [pw] <;> omega
  have gr : g.r = 1 * b 7 + 2 * b 8 + 4 * b 9 := by subst hg; simp [pw] <;> omega
  have gt : g.t = 0 := by subst hg; simp [pw] <;> omega
  have gimm : g.imm = 2 * b 3 + 4 * b 4 + 8 * b 10 + 16 * b 11 + 32 * b 2 + 64 * b 5 + 128 * b 6 + 256 * b 12 := by subst hg; simp [pw] <;> omega
  clear hg
  have B2 := hb 2
  have B3 := hb 3
  have B4 := hb 4
  have B5 := hb 5
  have B6 := hb 6
  have B7 := hb 7
  have B8 := hb 8
  have B9 := hb 9
  have B10 := hb 10
  have B11 := hb 11
  have B12 := hb 12
  clear hb
  have it : bt g.imm 8 = b 12 := by exact bt_at (A := 2 * b 3 + 4 * b 4 + 8 * b 10 + 16 * b 11 + 32 * b 2 + 64 * b 5 + 128 * b 6) (C := 0) 8 (by decide) (by decide : pw 8 = 256) (by omega) (by omega) (by omega) B12
  have hsg : sgn g.imm 8 = g.imm - 512 * b 12 := by rw [sgn_lin, it]; simp [pw]
  repeat' split at h
  all_goals first | (cases h; done) | skip
  all_goals
    have h := Option.some.inj h
    have hd := congrArg Flds.d h
    have hr := congrArg Flds.r h
    have ht := congrArg Flds.t h
    have hm := congrArg Flds.imm h
    clear h
    dsimp only at hd hr ht hm
    have er0 : bt f.r 0 = b 7 := bt_at (A := 0) (C := 1 * b 8 + 2 * b 9 + 4) 0 (by decide) (by decide : pw 0 = 1) (by omega) (by omega) (by omega) B7
    have er1 : bt f.r 1 = b 8 := bt_at (A := 1 * b 7) (C := 1 * b 9 + 2) 1 (by decide) (by decide : pw 1 = 2) (by omega) (by omega) (by omega) B8
    have er2 : bt f.r 2 = b 9 := bt_at (A := 1 * b 7 + 2 * b 8) (C := 1) 2 (by decide) (by decide : pw 2 = 4) (by omega) (by omega) (by omega) B9
    have eimm1 : bt f.imm 1 = b 3 := bt_at (A := 0) (C := 1 * b 4 + 2 * b 10 + 4 * b 11 + 8 * b 2 + 16 * b 5 + 32 * b 6 + 64 * b 12 + -128 * b 12) 1 (by decide) (by decide : pw 1 = 2) (by omega) (by omega) (by omega) B3
    have eimm2 : bt f.imm 2 = b 4 := bt_at (A := 2 * b 3) (C := 1 * b 10 + 2 * b 11 + 4 * b 2 + 8 * b 5 + 16 * b 6 + 32 * b 12 + -64 * b 12) 2 (by decide) (by decide : pw 2 = 4) (by omega) (by omega) (by omega) B4
    have eimm3 : bt f.imm 3 = b 10 := bt_at (A := 2 * b 3 + 4 * b 4) (C := 1 * b 11 + 2 * b 2 + 4 * b 5 + 8 * b 6 + 16 * b 12 + -32 * b 12) 3 (by decide) (by decide : pw 3 = 8) (by omega) (by omega) (by omega) B10
    have eimm4 : bt f.imm 4 = b 11 := bt_at (A := 2 * b 3 + 4 * b 4 + 8 * b 10) (C := 1 * b 2 + 2 * b 5 + 4 * b 6 + 8 * b 12 + -16 * b 12) 4 (by decide) (by decide : pw 4 = 16) (by omega) (by omega) (by omega) B11
    have eimm5 : bt f.imm 5 = b 2 := bt_at (A := 2 * b 3 + 4 * b 4 + 8 * b 10 + 16 * b 11) (C := 1 * b 5 + 2 * b 6 + 4 * b 12 + -8 * b 12) 5 (by decide) (by decide : pw 5 = 32) (by omega) (by omega) (by omega) B2
    have eimm6 : bt f.imm 6 = b 5 := bt_at (A := 2 * b 3 + 4 * b 4 + 8 * b 10 + 16 * b 11 + 32 * b 2) (C := 1 * b 6 + 2 * b 12 + -4 * b 12) 6 (by decide) (by decide : pw 6 = 64) (by omega) (by omega) (by omega) B5
    have eimm7 : bt f.imm 7 = b 6 := bt_at (A := 2 * b 3 + 4 * b 4 + 8 * b 10 + 16 * b 11 + 32 * b 2 + 64 * b 5) (C := 1 * b 12 + -2 * b 12) 7 (by decide) (by decide : pw 7 = 128) (by omega) (by omega) (by omega) B6
    have eimm8 : bt f.imm 8 = b 12 := bt_at (A := 2 * b 3 + 4 * b 4 + 8 * b 10 + 16 * b 11 + 32 * b 2 + 64 * b 5 + 128 * b 6) (C := -1 * b 12) 8 (by decide) (by decide : pw 8 = 256) (by omega) (by omega) (by omega) B12
    have hu := parC_u16 (row_ok (k := 17) (by decide)) f.d f.r f.t f.imm
    have hsp := sum16 _ hu.1 hu.2
    have hU : U32 (f.imm % 4294967296) := ⟨by omega, by omega⟩
    have z2 : or1 (b 2) 0 = b 2 := or1_b0 B2
    have z3 : or1 (b 3) 0 = b 3 := or1_b0 B3
    have z4 : or1 (b 4) 0 = b 4 := or1_b0 B4
    have z5 : or1 (b 5) 0 = b 5 := or1_b0 B5
    have z6 : or1 (b 6) 0 = b 6 := or1_b0 B6
    have z7 : or1 (b 7) 0 = b 7 := or1_b0 B7
    have z8 : or1 (b 8) 0 = b 8 := or1_b0 B8
    have z9 : or1 (b 9) 0 = b 9 := or1_b0 B9
    have z10 : or1 (b 10) 0 = b 10 := or1_b0 B10
    have z11 : or1 (b 11) 0 = b 11 := or1_b0 B11
    have z12 : or1 (b 12) 0 = b 12 := or1_b0 B12
    have q0 : bt (parC (rowC 17) f.d f.r f.t f.imm) 0 = 1 := by
      rw [parC_bt (row_ok (k := 17) (by decide))]
      show or1 (or1 (or1 (or1 (bt 57345 0) (bt (putP 0 f.d) 0)) (bt (putP 5 f.r) 0)) (bt (putP 0 f.t) 0)) (bt (sputC 8 f.imm) 0) = _
      rw [bput_0 f.d _ (by decide), bput_5 f.r _ (by decide), bput_0 f.t _ (by decide), sputC_bt, sput8 _ hU, show bt 57345 0 = 1 by decide]
      simp [pbP, spr, spr8, sprOf, or1_0, or1_1, or1_bb, bt_m32, er0, er1, er2, eimm1, eimm2, eimm3, eimm4, eimm5, eimm6, eimm7, eimm8, z2, z3, z4, z5, z6, z7, z8, z9, z10, z11, z12]
    have q1 : bt (parC (rowC 17) f.d f.r f.t f.imm) 1 = 0 := by
      rw [parC_bt (row_ok (k := 17) (by decide))]
      show or1 (or1 (or1 (or1 (bt 57345 1) (bt (putP 0 f.d) 1)) (bt (putP 5 f.r) 1)) (bt (putP 0 f.t) 1)) (bt (sputC 8 f.imm) 1) = _
      rw [bput_0 f.d _ (by decide), bput_5 f.r _ (by decide), bput_0 f.t _ (by decide), sputC_bt, sput8 _ hU, show bt 57345 1 = 0 by decide]
      simp [pbP, spr, spr8, sprOf, or1_0, or1_1, or1_bb, bt_m32, er0, er1, er2, eimm1, eimm2, eimm3, eimm4, eimm5, eimm6, eimm7, eimm8, z2, z3, z4, z5, z6, z7, z8, z9, z10, z11, z12]
    have q2 : bt (parC (rowC 17) f.d f.r f.t f.imm) 2 = b 2 := by
      rw [parC_bt (row_ok (k := 17) (by decide))]
      show or1 (or1 (or1 (or1 (bt 57345 2) (bt (putP 0 f.d) 2)) (bt (putP 5 f.r) 2)) (bt (putP 0 f.t) 2)) (bt (sputC 8 f.imm) 2) = _
      rw [bput_0 f.d _ (by decide), bput_5 f.r _ (by decide), bput_0 f.t _ (by decide), sputC_bt, sput8 _ hU, show bt 57345 2 = 0 by decide]
      simp [pbP, spr, spr8, sprOf, or1_0, or1_1, or1_bb, bt_m32, er0, er1, er2, eimm1, eimm2, eimm3, eimm4, eimm5, eimm6, eimm7, eimm8, z2, z3, z4, z5, z6, z7, z8, z9, z10, z11, z12]
    have q3 : bt (parC (rowC 17) f.d f.r f.t f.imm) 3 = b 3 := by
      rw [parC_bt (row_ok (k := 17) (by decide))]
      show or1 (or1 (or1 (or1 (bt 57345 3) (bt (putP 0 f.d) 3)) (bt (putP 5 f.r) 3)) (bt (putP 0 f.t) 3)) (bt (sputC 8 f.imm) 3) = _
      rw [bput_0 f.d _ (by decide), bput_5 f.r _ (by decide), bput_0 f.t _ (by decide), sputC_bt, sput8 _ hU, show bt 57345 3 = 0 by decide]
      simp [pbP, spr, spr8, sprOf, or1_0, or1_1, or1_bb, bt_m32, er0, er1, er2, eimm1, eimm2, eimm3, eimm4, eimm5, eimm6, eimm7, eimm8, z2, z3, z4, z5, z6, z7, z8, z9, z10, z11, z12]
    have q4 : bt (parC (rowC 17) f.d f.r f.t f.imm) 4 = b 4 := by
      rw [parC_bt (row_ok (k := 17) (by decide))]
      show or1 (or1 (or1 (or1 (bt 57345 4) (bt (putP 0 f.d) 4)) (bt (putP 5 f.r) 4)) (bt (putP 0 f.t) 4)) (bt (sputC 8 f.imm) 4) = _
      rw [bput_0 f.d _ (by decide), bput_5 f.r _ (by decide), bput_0 f.t _ (by decide), sputC_bt, sput8 _ hU, show bt 57345 4 = 0 by decide]
      simp [pbP, spr, spr8, sprOf, or1_0, or1_1, or1_bb, bt_m32, er0, er1, er2, eimm1, eimm2, eimm3, eimm4, eimm5, eimm6, eimm7, eimm8, z2, z3, z4, z5, z6, z7, z8, z9, z10, z11, z12]
    have q5 : bt (parC (rowC 17) f.d f.r f.t f.imm) 5 = b 5 := by
      rw [parC_bt (row_ok (k := 17) (by decide))]
      show or1 (or1 (or1 (or1 (bt 57345 5) (bt (putP 0 f.d) 5)) (bt (putP 5 f.r) 5)) (bt (putP 0 f.t) 5)) (bt (sputC 8 f.imm) 5) = _
      rw [bput_0 f.d _ (by decide), bput_5 f.r _ (by decide), bput_0 f.t _ (by decide), sputC_bt, sput8 _ hU, show bt 57345 5 = 0 by decide]
      simp [pbP, spr, spr8, sprOf, or1_0, or1_1, or1_bb, bt_m32, er0, er1, er2, eimm1, eimm2, eimm3, eimm4, eimm5, eimm6, eimm7, eimm8, z2, z3, z4, z5, z6, z7, z8, z9, z10, z11, z12]
    have q6 : bt (parC (rowC 17) f.d f.r f.t f.imm) 6 = b 6 := by
      rw [parC_bt (row_ok (k := 17) (by decide))]
      show or1 (or1 (or1 (or1 (bt 57345 6) (bt (putP 0 f.d) 6)) (bt (putP 5 f.r) 6)) (bt (putP 0 f.t) 6)) (bt (sputC 8 f.imm) 6) = _
      rw [bput_0 f.d _ (by decide), bput_5 f.r _ (by decide), bput_0 f.t _ (by decide), sputC_bt, sput8 _ hU, show bt 57345 6 = 0 by decide]
      simp [pbP, spr, spr8, sprOf, or1_0, or1_1, or1_bb, bt_m32, er0, er1, er2, eimm1, eimm2, eimm3, eimm4, eimm5, eimm6, eimm7, eimm8, z2, z3, z4, z5, z6, z7, z8, z9, z10, z11, z12]
    have q7 : bt (parC (rowC 17) f.d f.r f.t f.imm) 7 = b 7 := by
      rw [parC_bt (row_ok (k := 17) (by decide))]
      show or1 (or1 (or1 (or1 (bt 57345 7) (bt (putP 0 f.d) 7)) (bt (putP 5 f.r) 7)) (bt (putP 0 f.t) 7)) (bt (sputC 8 f.imm) 7) = _
      rw [bput_0 f.d _ (by decide), bput_5 f.r _ (by decide), bput_0 f.t _ (by decide), sputC_bt, sput8 _ hU, show bt 57345 7 = 0 by decide]
      simp [pbP, spr, spr8, sprOf, or1_0, or1_1, or1_bb, bt_m32, er0, er1, er2, eimm1, eimm2, eimm3, eimm4, eimm5, eimm6, eimm7, eimm8, z2, z3, z4, z5, z6, z7, z8, z9, z10, z11, z12]
    have q8 : bt (parC (rowC 17) f.d f.r f.t f.imm) 8 = b 8 := by
      rw [parC_bt (row_ok (k := 17) (by decide))]
      show or1 (or1 (or1 (or1 (bt 57345 8) (bt (putP 0 f.d) 8)) (bt (putP 5 f.r) 8)) (bt (putP 0 f.t) 8)) (bt (sputC 8 f.imm) 8) = _
      rw [bput_0 f.d _ (by decide), bput_5 f.r _ (by decide), bput_0 f.t _ (by decide), sputC_bt, sput8 _ hU, show bt 57345 8 = 0 by decide]
      simp [pbP, spr, spr8, sprOf, or1_0, or1_1, or1_bb, bt_m32, er0, er1, er2, eimm1, eimm2, eimm3, eimm4, eimm5, eimm6, eimm7, eimm8, z2, z3, z4, z5, z6, z7, z8, z9, z10, z11, z12]
    have q9 : bt (parC (rowC 17) f.d f.r f.t f.imm) 9 = b 9 := by
      rw [parC_bt (row_ok (k := 17) (by decide))]
      show or1 (or1 (or1 (or1 (bt 57345 9) (bt (putP 0 f.d) 9)) (bt (putP 5 f.r) 9)) (bt (putP 0 f.t) 9)) (bt (sputC 8 f.imm) 9) = _
      rw [bput_0 f.d _ (by decide), bput_5 f.r _ (by decide), bput_0 f.t _ (by decide), sputC_bt, sput8 _ hU, show bt 57345 9 = 0 by decide]
      simp [pbP, spr, spr8, sprOf, or1_0, or1_1, or1_bb, bt_m32, er0, er1, er2, eimm1, eimm2, eimm3, eimm4, eimm5, eimm6, eimm7, eimm8, z2, z3, z4, z5, z6, z7, z8, z9, z10, z11, z12]
    have q10 : bt (parC (rowC 17) f.d f.r f.t f.imm) 10 = b 10 := by
      rw [parC_bt (row_ok (k := 17) (by decide))]
      show or1 (or1 (or1 (or1 (bt 57345 10) (bt (putP 0 f.d) 10)) (bt (putP 5 f.r) 10)) (bt (putP 0 f.t) 10)) (bt (sputC 8 f.imm) 10) = _
      rw [bput_0 f.d _ (by decide), bput_5 f.r _ (by decide), bput_0 f.t _ (by decide), sputC_bt, sput8 _ hU, show bt 57345 10 = 0 by decide]
      simp [pbP, spr, spr8, sprOf, or1_0, or1_1, or1_bb, bt_m32, er0, er1, er2, eimm1, eimm2, eimm3, eimm4, eimm5, eimm6, eimm7, eimm8, z2, z3, z4, z5, z6, z7, z8, z9, z10, z11, z12]
    have q11 : bt (parC (rowC 17) f.d f.r f.t f.imm) 11 = b 11 := by
      rw [parC_bt (row_ok (k := 17) (by decide))]
      show or1 (or1 (or1 (or1 (bt 57345 11) (bt (putP 0 f.d) 11)) (bt (putP 5 f.r) 11)) (bt (putP 0 f.t) 11)) (bt (sputC 8 f.imm) 11) = _
      rw [bput_0 f.d _ (by decide), bput_5 f.r _ (by decide), bput_0 f.t _ (by decide), sputC_bt, sput8 _ hU, show bt 57345 11 = 0 by decide]
      simp [pbP, spr, spr8, sprOf, or1_0, or1_1, or1_bb, bt_m32, er0, er1, er2, eimm1, eimm2, eimm3, eimm4, eimm5, eimm6, eimm7, eimm8, z2, z3, z4, z5, z6, z7, z8, z9, z10, z11, z12]
    have q12 : bt (parC (rowC 17) f.d f.r f.t f.imm) 12 = b 12 := by
      rw [parC_bt (row_ok (k := 17) (by decide))]
      show or1 (or1 (or1 (or1 (bt 57345 12) (bt (putP 0 f.d) 12)) (bt (putP 5 f.r) 12)) (bt (putP 0 f.t) 12)) (bt (sputC 8 f.imm) 12) = _
      rw [bput_0 f.d _ (by decide), bput_5 f.r _ (by decide), bput_0 f.t _ (by decide), sputC_bt, sput8 _ hU, show bt 57345 12 = 0 by decide]
      simp [pbP, spr, spr8, sprOf, or1_0, or1_1, or1_bb, bt_m32, er0, er1, er2, eimm1, eimm2, eimm3, eimm4, eimm5, eimm6, eimm7, eimm8, z2, z3, z4, z5, z6, z7, z8, z9, z10, z11, z12]
    have q13 : bt (parC (rowC 17) f.d f.r f.t f.imm) 13 = 1 := by
      rw [parC_bt (row_ok (k := 17) (by decide))]
      show or1 (or1 (or1 (or1 (bt 57345 13) (bt (putP 0 f.d) 13)) (bt (putP 5 f.r) 13)) (bt (putP 0 f.t) 13)) (bt (sputC 8 f.imm) 13) = _
      rw [bput_0 f.d _ (by decide), bput_5 f.r _ (by decide), bput_0 f.t _ (by decide), sputC_bt, sput8 _ hU, show bt 57345 13 = 1 by decide]
      simp [pbP, spr, spr8, sprOf, or1_0, or1_1, or1_bb, bt_m32, er0, er1, er2, eimm1, eimm2, eimm3, eimm4, eimm5, eimm6, eimm7, eimm8, z2, z3, z4, z5, z6, z7, z8, z9, z10, z11, z12]
    have q14 : bt (parC (rowC 17) f.d f.r f.t f.imm) 14 = 1 := by
      rw [parC_bt (row_ok (k := 17) (by decide))]
      show or1 (or1 (or1 (or1 (bt 57345 14) (bt (putP 0 f.d) 14)) (bt (putP 5 f.r) 14)) (bt (putP 0 f.t) 14)) (bt (sputC 8 f.imm) 14) = _
      rw [bput_0 f.d _ (by decide), bput_5 f.r _ (by decide), bput_0 f.t _ (by decide), sputC_bt, sput8 _ hU, show bt 57345 14 = 1 by decide]
      simp [pbP, spr, spr8, sprOf, or1_0, or1_1, or1_bb, bt_m32, er0, er1, er2, eimm1, eimm2, eimm3, eimm4, eimm5, eimm6, eimm7, eimm8, z2, z3, z4, z5, z6, z7, z8, z9, z10, z11, z12]
    have q15 : bt (parC (rowC 17) f.d f.r f.t f.imm) 15 = 1 := by
      rw [parC_bt (row_ok (k := 17) (by decide))]
      show or1 (or1 (or1 (or1 (bt 57345 15) (bt (putP 0 f.d) 15)) (bt (putP 5 f.r) 15)) (bt (putP 0 f.t) 15)) (bt (sputC 8 f.imm) 15) = _
      rw [bput_0 f.d _ (by decide), bput_5 f.r _ (by decide), bput_0 f.t _ (by decide), sputC_bt, sput8 _ hU, show bt 57345 15 = 1 by decide]
      simp [pbP, spr, spr8, sprOf, or1_0, or1_1, or1_bb, bt_m32, er0, er1, er2, eimm1, eimm2, eimm3, eimm4, eimm5, eimm6, eimm7, eimm8, z2, z3, z4, z5, z6, z7, z8, z9, z10, z11, z12]
    rw [q0, q1, q2, q3, q4, q5, q6, q7, q8, q9, q10, q11, q12, q13, q14, q15] at hsp
    omega
theorem backC_18 (p : Int) (f : Flds) (h0 : 0 ≤ p) (h1 : p < 65536) (h : instS (shortR 18) p = some f) : parC (rowC 18) f.d f.r f.t f.imm = p := by
  have hs := sum16 p h0 h1
  have hb := bt_bd p
  unfold instS at h
  rw [rd_rdB] at h
  generalize bt p = b at h hs hb
  simp [shortR, shortL, rdB, miss, rstep, badS, makeS, fieldS, eightS, cnt, immS2, immS1, hi, hiTo, hasB] at h
  split at h
  · cases h
  rename_i g hg
  simp only [Option.ite_none_right_eq_some, Option.some.injEq] at hg
  obtain ⟨c0, c1, c2, c3, c4, c5, hg⟩ := hg
  have gd : g.d = 1 * b 7 + 2 * b 8 + 4 * b 9 + 8 * b 10 + 16 * b 11 := by subst hg; simp [pw] <;> omega
  have gr : g.r = 0 := by subst hg; simp [pw] <;> omega
  have gt : g.t = 0 := by subst hg; simp [pw] <;> omega
  have gimm : g.imm = 1 * b 2 + 2 * b 3 + 4 * b 4 + 8 * b 5 + 16 * b 6 := by subst hg; simp [pw] <;> omega
  clear hg
  have B2 := hb 2
  have B3 := hb 3
  have B4 := hb 4
  have B5 := hb 5
  have B6 := hb 6
  have B7 := hb 7
  have B8 := hb 8
  have B9 := hb 9
  have B10 := hb 10
  have B11 := hb 11
  clear hb
  repeat' split at h
  all_goals first | (cases h; done) | skip
  all_goals
    have h := Option.some.inj h
    have hd := congrArg Flds.d h
    have hr := congrArg Flds.r h
    have ht := congrArg Flds.t h
    have hm := congrArg Flds.imm h
    clear h
    dsimp only at hd hr ht hm
    have ed0 : bt f.d 0 = b 7 := bt_at (A := 0) (C := 1 * b 8 + 2 * b 9 + 4 * b 10 + 8 * b 11) 0 (by decide) (by decide : pw 0 = 1) (by omega) (by omega) (by omega) B7
    have ed1 : bt f.d 1 = b 8 := bt_at (A := 1 * b 7) (C := 1 * b 9 + 2 * b 10 + 4 * b 11) 1 (by decide) (by decide : pw 1 = 2) (by omega) (by omega) (by omega) B8
    have ed2 : bt f.d 2 = b 9 := bt_at (A := 1 * b 7 + 2 * b 8) (C := 1 * b 10 + 2 * b 11) 2 (by decide) (by decide : pw 2 = 4) (by omega) (by omega) (by omega) B9
    have ed3 : bt f.d 3 = b 10 := bt_at (A := 1 * b 7 + 2 * b 8 + 4 * b 9) (C := 1 * b 11) 3 (by decide) (by decide : pw 3 = 8) (by omega) (by omega) (by omega) B10
    have ed4 : bt f.d 4 = b 11 := bt_at (A := 1 * b 7 + 2 * b 8 + 4 * b 9 + 8 * b 10) (C := 0) 4 (by decide) (by decide : pw 4 = 16) (by omega) (by omega) (by omega) B11
    have eimm0 : bt f.imm 0 = b 2 := bt_at (A := 0) (C := 1 * b 3 + 2 * b 4 + 4 * b 5 + 8 * b 6) 0 (by decide) (by decide : pw 0 = 1) (by omega) (by omega) (by omega) B2
    have eimm1 : bt f.imm 1 = b 3 := bt_at (A := 1 * b 2) (C := 1 * b 4 + 2 * b 5 + 4 * b 6) 1 (by decide) (by decide : pw 1 = 2) (by omega) (by omega) (by omega) B3
    have eimm2 : bt f.imm 2 = b 4 := bt_at (A := 1 * b 2 + 2 * b 3) (C := 1 * b 5 + 2 * b 6) 2 (by decide) (by decide : pw 2 = 4) (by omega) (by omega) (by omega) B4
    have eimm3 : bt f.imm 3 = b 5 := bt_at (A := 1 * b 2 + 2 * b 3 + 4 * b 4) (C := 1 * b 6) 3 (by decide) (by decide : pw 3 = 8) (by omega) (by omega) (by omega) B5
    have eimm4 : bt f.imm 4 = b 6 := bt_at (A := 1 * b 2 + 2 * b 3 + 4 * b 4 + 8 * b 5) (C := 0) 4 (by decide) (by decide : pw 4 = 16) (by omega) (by omega) (by omega) B6
    have hu := parC_u16 (row_ok (k := 18) (by decide)) f.d f.r f.t f.imm
    have hsp := sum16 _ hu.1 hu.2
    have hU : U32 (f.imm % 4294967296) := ⟨by omega, by omega⟩
    have hrd : f.r = f.d := by omega
    have z2 : or1 (b 2) 0 = b 2 := or1_b0 B2
    have z3 : or1 (b 3) 0 = b 3 := or1_b0 B3
    have z4 : or1 (b 4) 0 = b 4 := or1_b0 B4
    have z5 : or1 (b 5) 0 = b 5 := or1_b0 B5
    have z6 : or1 (b 6) 0 = b 6 := or1_b0 B6
    have z7 : or1 (b 7) 0 = b 7 := or1_b0 B7
    have z8 : or1 (b 8) 0 = b 8 := or1_b0 B8
    have z9 : or1 (b 9) 0 = b 9 := or1_b0 B9
    have z10 : or1 (b 10) 0 = b 10 := or1_b0 B10
    have z11 : or1 (b 11) 0 = b 11 := or1_b0 B11
    have q0 : bt (parC (rowC 18) f.d f.r f.t f.imm) 0 = 0 := by
      rw [parC_bt (row_ok (k := 18) (by decide))]
      show or1 (or1 (or1 (or1 (bt 2 0) (bt (putP 3 f.d) 0)) (bt (putP 3 f.r) 0)) (bt (putP 0 f.t) 0)) (bt (sputC 1 f.imm) 0) = _
      rw [bput_3 f.d _ (by decide), bput_3 f.r _ (by decide), bput_0 f.t _ (by decide), sputC_bt, sput8 _ hU, show bt 2 0 = 0 by decide]
      simp [pbP, spr, spr1, sprOf, or1_0, or1_1, or1_bb, bt_m32, hrd, ed0, ed1, ed2, ed3, ed4, eimm0, eimm1, eimm2, eimm3, eimm4, z2, z3, z4, z5, z6, z7, z8, z9, z10, z11]
    have q1 : bt (parC (rowC 18) f.d f.r f.t f.imm) 1 = 1 := by
      rw [parC_bt (row_ok (k := 18) (by decide))]
      show or1 (or1 (or1 (or1 (bt 2 1) (bt (putP 3 f.d) 1)) (bt (putP 3 f.r) 1)) (bt (putP 0 f.t) 1)) (bt (sputC 1 f.imm) 1) = _
      rw [bput_3 f.d _ (by decide), bput_3 f.r _ (by decide), bput_0 f.t _ (by decide), sputC_bt, sput8 _ hU, show bt 2 1 = 1 by decide]
      simp [pbP, spr, spr1, sprOf, or1_0, or1_1, or1_bb, bt_m32, hrd, ed0, ed1, ed2, ed3, ed4, eimm0, eimm1, eimm2, eimm3, eimm4, z2, z3, z4, z5, z6, z7, z8, z9, z10, z11]
    have q2 : bt (parC (rowC 18) f.d f.r f.t f.imm) 2 = b 2 := by
      rw [parC_bt (row_ok (k := 18) (by decide))]
      show or1 (or1 (or1 (or1 (bt 2 2) (bt (putP 3 f.d) 2)) (bt (putP 3 f.r) 2)) (bt (putP 0 f.t) 2)) (bt (sputC 1 f.imm) 2) = _
      rw [bput_3 f.d _ (by decide), bput_3 f.r _ (by decide), bput_0 f.t _ (by decide), sputC_bt, sput8 _ hU, show bt 2 2 = 0 by decide]
      simp [pbP, spr, spr1, sprOf, or1_0, or1_1, or1_bb, bt_m32, hrd, ed0, ed1, ed2, ed3, ed4, eimm0, eimm1, eimm2, eimm3, eimm4, z2, z3, z4, z5, z6, z7, z8, z9, z10, z11]
    have q3 : bt (parC (rowC 18) f.d f.r f.t f.imm) 3 = b 3 := by
      rw [parC_bt (row_ok (k := 18) (by decide))]
      show or1 (or1 (or1 (or1 (bt 2 3) (bt (putP 3 f.d) 3)) (bt (putP 3 f.r) 3)) (bt (putP 0 f.t) 3)) (bt (sputC 1 f.imm) 3) = _
      rw [bput_3 f.d _ (by decide), bput_3 f.r _ (by decide), bput_0 f.t _ (by decide), sputC_bt, sput8 _ hU, show bt 2 3 = 0 by decide]
      simp [pbP, spr, spr1, sprOf, or1_0, or1_1, or1_bb, bt_m32, hrd, ed0, ed1, ed2, ed3, ed4, eimm0, eimm1, eimm2, eimm3, eimm4, z2, z3, z4, z5, z6, z7, z8, z9, z10, z11]
    have q4 : bt (parC (rowC 18) f.d f.r f.t f.imm) 4 = b 4 := by
      rw [parC_bt (row_ok (k := 18) (by decide))]
      show or1 (or1 (or1 (or1 (bt 2 4) (bt (putP 3 f.d) 4)) (bt (putP 3 f.r) 4)) (bt (putP 0 f.t) 4)) (bt (sputC 1 f.imm) 4) = _
      rw [bput_3 f.d _ (by decide), bput_3 f.r _ (by decide), bput_0 f.t _ (by decide), sputC_bt, sput8 _ hU, show bt 2 4 = 0 by decide]
      simp [pbP, spr, spr1, sprOf, or1_0, or1_1, or1_bb, bt_m32, hrd, ed0, ed1, ed2, ed3, ed4, eimm0, eimm1, eimm2, eimm3, eimm4, z2, z3, z4, z5, z6, z7, z8, z9, z10, z11]
    have q5 : bt (parC (rowC 18) f.d f.r f.t f.imm) 5 = b 5 := by
      rw [parC_bt (row_ok (k := 18) (by decide))]
      show or1 (or1 (or1 (or1 (bt 2 5) (bt (putP 3 f.d) 5)) (bt (putP 3 f.r) 5)) (bt (putP 0 f.t) 5)) (bt (sputC 1 f.imm) 5) = _
      rw [bput_3 f.d _ (by decide), bput_3 f.r _ (by decide), bput_0 f.t _ (by decide), sputC_bt, sput8 _ hU, show bt 2 5 = 0 by decide]
      simp [pbP, spr, spr1, sprOf, or1_0, or1_1, or1_bb, bt_m32, hrd, ed0, ed1, ed2, ed3, ed4, eimm0, eimm1, eimm2, eimm3, eimm4, z2, z3, z4, z5, z6, z7, z8, z9, z10, z11]
    have q6 : bt (parC (rowC 18) f.d f.r f.t f.imm) 6 = b 6 := by
      rw [parC_bt (row_ok (k := 18) (by decide))]
      show or1 (or1 (or1 (or1 (bt 2 6) (bt (putP 3 f.d) 6)) (bt (putP 3 f.r) 6)) (bt (putP 0 f.t) 6)) (bt (sputC 1 f.imm) 6) = _
      rw [bput_3 f.d _ (by decide), bput_3 f.r _ (by decide), bput_0 f.t _ (by decide), sputC_bt, sput8 _ hU, show bt 2 6 = 0 by decide]
      simp [pbP, spr, spr1, sprOf, or1_0, or1_1, or1_bb, bt_m32, hrd, ed0, ed1, ed2, ed3, ed4, eimm0, eimm1, eimm2, eimm3, eimm4, z2, z3, z4, z5, z6, z7, z8, z9, z10, z11]
    have q7 : bt (parC (rowC 18) f.d f.r f.t f.imm) 7 = b 7 := by
      rw [parC_bt (row_ok (k := 18) (by decide))]
      show or1 (or1 (or1 (or1 (bt 2 7) (bt (putP 3 f.d) 7)) (bt (putP 3 f.r) 7)) (bt (putP 0 f.t) 7)) (bt (sputC 1 f.imm) 7) = _
      rw [bput_3 f.d _ (by decide), bput_3 f.r _ (by decide), bput_0 f.t _ (by decide), sputC_bt, sput8 _ hU, show bt 2 7 = 0 by decide]
      simp [pbP, spr, spr1, sprOf, or1_0, or1_1, or1_bb, bt_m32, hrd, ed0, ed1, ed2, ed3, ed4, eimm0, eimm1, eimm2, eimm3, eimm4, z2, z3, z4, z5, z6, z7, z8, z9, z10, z11]
    have q8 : bt (parC (rowC 18) f.d f.r f.t f.imm) 8 = b 8 := by
      rw [parC_bt (row_ok (k := 18) (by decide))]
      show or1 (or1 (or1 (or1 (bt 2 8) (bt (putP 3 f.d) 8)) (bt (putP 3 f.r) 8)) (bt (putP 0 f.t) 8)) (bt (sputC 1 f.imm) 8) = _
      rw [bput_3 f.d _ (by decide), bput_3 f.r _ (by decide), bput_0 f.t _ (by decide), sputC_bt, sput8 _ hU, show bt 2 8 = 0 by decide]
      simp [pbP, spr, spr1, sprOf, or1_0, or1_1, or1_bb, bt_m32, hrd, ed0, ed1, ed2, ed3, ed4, eimm0, eimm1, eimm2, eimm3, eimm4, z2, z3, z4, z5, z6, z7, z8, z9, z10, z11]
    have q9 : bt (parC (rowC 18) f.d f.r f.t f.imm) 9 = b 9 := by
      rw [parC_bt (row_ok (k := 18) (by decide))]
      show or1 (or1 (or1 (or1 (bt 2 9) (bt (putP 3 f.d) 9)) (bt (putP 3 f.r) 9)) (bt (putP 0 f.t) 9)) (bt (sputC 1 f.imm) 9) = _
      rw [bput_3 f.d _ (by decide), bput_3 f.r _ (by decide), bput_0 f.t _ (by decide), sputC_bt, sput8 _ hU, show bt 2 9 = 0 by decide]
      simp [pbP, spr, spr1, sprOf, or1_0, or1_1, or1_bb, bt_m32, hrd, ed0, ed1, ed2, ed3, ed4, eimm0, eimm1, eimm2, eimm3, eimm4, z2, z3, z4, z5, z6, z7, z8, z9, z10, z11]
    have q10 : bt (parC (rowC 18) f.d f.r f.t f.imm) 10 = b 10 := by
      rw [parC_bt (row_ok (k := 18) (by decide))]
      show or1 (or1 (or1 (or1 (bt 2 10) (bt (putP 3 f.d) 10)) (bt (putP 3 f.r) 10)) (bt (putP 0 f.t) 10)) (bt (sputC 1 f.imm) 10) = _
      rw [bput_3 f.d _ (by decide), bput_3 f.r _ (by decide), bput_0 f.t _ (by decide), sputC_bt, sput8 _ hU, show bt 2 10 = 0 by decide]
      simp [pbP, spr, spr1, sprOf, or1_0, or1_1, or1_bb, bt_m32, hrd, ed0, ed1, ed2, ed3, ed4, eimm0, eimm1, eimm2, eimm3, eimm4, z2, z3, z4, z5, z6, z7, z8, z9, z10, z11]
    have q11 : bt (parC (rowC 18) f.d f.r f.t f.imm) 11 = b 11 := by
      rw [parC_bt (row_ok (k := 18) (by decide))]
      show or1 (or1 (or1 (or1 (bt 2 11) (bt (putP 3 f.d) 11)) (bt (putP 3 f.r) 11)) (bt (putP 0 f.t) 11)) (bt (sputC 1 f.imm) 11) = _
      rw [bput_3 f.d _ (by decide), bput_3 f.r _ (by decide), bput_0 f.t _ (by decide), sputC_bt, sput8 _ hU, show bt 2 11 = 0 by decide]
      simp [pbP, spr, spr1, sprOf, or1_0, or1_1, or1_bb, bt_m32, hrd, ed0, ed1, ed2, ed3, ed4, eimm0, eimm1, eimm2, eimm3, eimm4, z2, z3, z4, z5, z6, z7, z8, z9, z10, z11]
    have q12 : bt (parC (rowC 18) f.d f.r f.t f.imm) 12 = 0 := by
      rw [parC_bt (row_ok (k := 18) (by decide))]
      show or1 (or1 (or1 (or1 (bt 2 12) (bt (putP 3 f.d) 12)) (bt (putP 3 f.r) 12)) (bt (putP 0 f.t) 12)) (bt (sputC 1 f.imm) 12) = _
      rw [bput_3 f.d _ (by decide), bput_3 f.r _ (by decide), bput_0 f.t _ (by decide), sputC_bt, sput8 _ hU, show bt 2 12 = 0 by decide]
      simp [pbP, spr, spr1, sprOf, or1_0, or1_1, or1_bb, bt_m32, hrd, ed0, ed1, ed2, ed3, ed4, eimm0, eimm1, eimm2, eimm3, eimm4, z2, z3, z4, z5, z6, z7, z8, z9, z10, z11]
    have q13 : bt (parC (rowC 18) f.d f.r f.t f.imm) 13 = 0 := by
      rw [parC_bt (row_ok (k := 18) (by decide))]
      show or1 (or1 (or1 (or1 (bt 2 13) (bt (putP 3 f.d) 13)) (bt (putP 3 f.r) 13)) (bt (putP 0 f.t) 13)) (bt (sputC 1 f.imm) 13) = _
      rw [bput_3 f.d _ (by decide), bput_3 f.r _ (by decide), bput_0 f.t _ (by decide), sputC_bt, sput8 _ hU, show bt 2 13 = 0 by decide]
      simp [pbP, spr, spr1, sprOf, or1_0, or1_1, or1_bb, bt_m32, hrd, ed0, ed1, ed2, ed3, ed4, eimm0, eimm1, eimm2, eimm3, eimm4, z2, z3, z4, z5, z6, z7, z8, z9, z10, z11]
    have q14 : bt (parC (rowC 18) f.d f.r f.t f.imm) 14 = 0 := by
      rw [parC_bt (row_ok (k := 18) (by decide))]
      show or1 (or1 (or1 (or1 (bt 2 14) (bt (putP 3 f.d) 14)) (bt (putP 3 f.r) 14)) (bt (putP 0 f.t) 14)) (bt (sputC 1 f.imm) 14) = _
      rw [bput_3 f.d _ (by decide), bput_3 f.r _ (by decide), bput_0 f.t _ (by decide), sputC_bt, sput8 _ hU, show bt 2 14 = 0 by decide]
      simp [pbP, spr, spr1, sprOf, or1_0, or1_1, or1_bb, bt_m32, hrd, ed0, ed1, ed2, ed3, ed4, eimm0, eimm1, eimm2, eimm3, eimm4, z2, z3, z4, z5, z6, z7, z8, z9, z10, z11]
    have q15 : bt (parC (rowC 18) f.d f.r f.t f.imm) 15 = 0 := by
      rw [parC_bt (row_ok (k := 18) (by decide))]
      show or1 (or1 (or1 (or1 (bt 2 15) (bt (putP 3 f.d) 15)) (bt (putP 3 f.r) 15)) (bt (putP 0 f.t) 15)) (bt (sputC 1 f.imm) 15) = _
      rw [bput_3 f.d _ (by decide), bput_3 f.r _ (by decide), bput_0 f.t _ (by decide), sputC_bt, sput8 _ hU, show bt 2 15 = 0 by decide]
      simp [pbP, spr, spr1, sprOf, or1_0, or1_1, or1_bb, bt_m32, hrd, ed0, ed1, ed2, ed3, ed4, eimm0, eimm1, eimm2, eimm3, eimm4, z2, z3, z4, z5, z6, z7, z8, z9, z10, z11]
    rw [q0, q1, q2, q3, q4, q5, q6, q7, q8, q9, q10, q11, q12, q13, q14, q15] at hsp
    omega
end Hm

/-
  Mathematics of short instructions (made by gen_Y5.py): what a landed row writes of what it reads is the parcel. Nothing of the dump is imported.
-/
namespace Hm
theorem backC_19 (p : Int) (f : Flds) (h0 : 0 ≤ p) (h1 : p < 65536) (h : instS (shortR 19) p = some f) : parC (rowC 19) f.d f.r f.t f.imm = p := by
  have hs := sum16 p h0 h1
  have hb := bt_bd p
  unfold instS at h
  rw [rd_rdB] at h
  generalize bt p = b at h hs hb
  simp [shortR, shortL, rdB, miss, rstep, badS, makeS, fieldS, eightS, cnt, immS2, immS1, hi, hiTo, hasB] at h
  split at h
  · cases h
  rename_i g hg
  simp only [Option.ite_none_right_eq_some, Option.some.injEq] at hg
  obtain ⟨c0, c1, c2, c3, c4, hg⟩ := hg
  have gd : g.d = 1 * b 7 + 2 * b 8 + 4 * b 9 + 8 * b 10 + 16 * b 11 := by subst hg; simp [pw] <;> omega
  have gr : g.r = 0 := by subst hg; simp [pw] <;> omega
  have gt : g.t = 0 := by subst hg; simp [pw] <;> omega
  have gimm : g.imm = 4 * b 4 + 8 * b 5 + 16 * b 6 + 32 * b 12 + 64 * b 2 + 128 * b 3 := by subst hg; simp [pw] <;> omega
  clear hg
  have B2 := hb 2
  have B3 := hb 3
  have B4 := hb 4
  have B5 := hb 5
  have B6 := hb 6
  have B7 := hb 7
  have B8 := hb 8
  have B9 := hb 9
  have B10 := hb 10
  have B11 := hb 11
  have B12 := hb 12
  clear hb
  repeat' split at h
  all_goals first | (cases h; done) | skip
  all_goals
    have h := Option.some.inj h
    have hd := congrArg Flds.d h
    have hr := congrArg Flds.r h
    have ht := congrArg Flds.t h
    have hm := congrArg Flds.imm h
    clear h
    dsimp only at hd hr ht hm
    have ed0 : bt f.d 0 = b 7 := bt_at (A := 0) (C := 1 * b 8 + 2 * b 9 + 4 * b 10 + 8 * b 11) 0 (by decide) (by decide : pw 0 = 1) (by omega) (by omega) (by omega) B7
    have ed1 : bt f.d 1 = b 8 := bt_at (A := 1 * b 7) (C := 1 * b 9 + 2 * b 10 + 4 * b 11) 1 (by decide) (by decide : pw 1 = 2) (by omega) (by omega) (by omega) B8
    have ed2 : bt f.d 2 = b 9 := bt_at (A := 1 * b 7 + 2 * b 8) (C := 1 * b 10 + 2 * b 11) 2 (by decide) (by decide : pw 2 = 4) (by omega) (by omega) (by omega) B9
    have ed3 : bt f.d 3 = b 10 := bt_at (A := 1 * b 7 + 2 * b 8 + 4 * b 9) (C := 1 * b 11) 3 (by decide) (by decide : pw 3 = 8) (by omega) (by omega) (by omega) B10
    have ed4 : bt f.d 4 = b 11 := bt_at (A := 1 * b 7 + 2 * b 8 + 4 * b 9 + 8 * b 10) (C := 0) 4 (by decide) (by decide : pw 4 = 16) (by omega) (by omega) (by omega) B11
    have eimm2 : bt f.imm 2 = b 4 := bt_at (A := 0) (C := 1 * b 5 + 2 * b 6 + 4 * b 12 + 8 * b 2 + 16 * b 3) 2 (by decide) (by decide : pw 2 = 4) (by omega) (by omega) (by omega) B4
    have eimm3 : bt f.imm 3 = b 5 := bt_at (A := 4 * b 4) (C := 1 * b 6 + 2 * b 12 + 4 * b 2 + 8 * b 3) 3 (by decide) (by decide : pw 3 = 8) (by omega) (by omega) (by omega) B5
    have eimm4 : bt f.imm 4 = b 6 := bt_at (A := 4 * b 4 + 8 * b 5) (C := 1 * b 12 + 2 * b 2 + 4 * b 3) 4 (by decide) (by decide : pw 4 = 16) (by omega) (by omega) (by omega) B6
    have eimm5 : bt f.imm 5 = b 12 := bt_at (A := 4 * b 4 + 8 * b 5 + 16 * b 6) (C := 1 * b 2 + 2 * b 3) 5 (by decide) (by decide : pw 5 = 32) (by omega) (by omega) (by omega) B12
    have eimm6 : bt f.imm 6 = b 2 := bt_at (A := 4 * b 4 + 8 * b 5 + 16 * b 6 + 32 * b 12) (C := 1 * b 3) 6 (by decide) (by decide : pw 6 = 64) (by omega) (by omega) (by omega) B2
    have eimm7 : bt f.imm 7 = b 3 := bt_at (A := 4 * b 4 + 8 * b 5 + 16 * b 6 + 32 * b 12 + 64 * b 2) (C := 0) 7 (by decide) (by decide : pw 7 = 128) (by omega) (by omega) (by omega) B3
    have hu := parC_u16 (row_ok (k := 19) (by decide)) f.d f.r f.t f.imm
    have hsp := sum16 _ hu.1 hu.2
    have hU : U32 (f.imm % 4294967296) := ⟨by omega, by omega⟩
    have z2 : or1 (b 2) 0 = b 2 := or1_b0 B2
    have z3 : or1 (b 3) 0 = b 3 := or1_b0 B3
    have z4 : or1 (b 4) 0 = b 4 := or1_b0 B4
    have z5 : or1 (b 5) 0 = b 5 := or1_b0 B5
    have z6 : or1 (b 6) 0 = b 6 := or1_b0 B6
    have z7 : or1 (b 7) 0 = b 7 := or1_b0 B7
    have z8 : or1 (b 8) 0 = b 8 := or1_b0 B8
    have z9 : or1 (b 9) 0 = b 9 := or1_b0 B9
    have z10 : or1 (b 10) 0 = b 10 := or1_b0 B10
    have z11 : or1 (b 11) 0 = b 11 := or1_b0 B11
    have z12 : or1 (b 12) 0 = b 12 := or1_b0 B12
    have q0 : bt (parC (rowC 19) f.d f.r f.t f.imm) 0 = 0 := by
      rw [parC_bt (row_ok (k := 19) (by decide))]
      show or1 (or1 (or1 (or1 (bt 16386 0) (bt (putP 3 f.d) 0)) (bt (putP 2 f.r) 0)) (bt (putP 0 f.t) 0)) (bt (sputC 5 f.imm) 0) = _
      rw [bput_3 f.d _ (by decide), bput_2 f.r _ (by decide), bput_0 f.t _ (by decide), sputC_bt, sput8 _ hU, show bt 16386 0 = 0 by decide]
      simp [pbP, spr, spr5, sprOf, or1_0, or1_1, or1_bb, bt_m32, ed0, ed1, ed2, ed3, ed4, eimm2, eimm3, eimm4, eimm5, eimm6, eimm7, z2, z3, z4, z5, z6, z7, z8, z9, z10, z11, z12]
    have q1 : bt (parC (rowC 19) f.d f.r f.t f.imm) 1 = 1 := by
      rw [parC_bt (row_ok (k := 19) (by decide))]
      show or1 (or1 (or1 (or1 (bt 16386 1) (bt (putP 3 f.d) 1)) (bt (putP 2 f.r) 1)) (bt (putP 0 f.t) 1)) (bt (sputC 5 f.imm) 1) = _
      rw [bput_3 f.d _ (by decide), bput_2 f.r _ (by decide), bput_0 f.t _ (by decide), sputC_bt, sput8 _ hU, show bt 16386 1 = 1 by decide]
      simp [pbP, spr, spr5, sprOf, or1_0, or1_1, or1_bb, bt_m32, ed0, ed1, ed2, ed3, ed4, eimm2, eimm3, eimm4, eimm5, eimm6, eimm7, z2, z3, z4, z5, z6, z7, z8, z9, z10, z11, z12]
    have q2 : bt (parC (rowC 19) f.d f.r f.t f.imm) 2 = b 2 := by
      rw [parC_bt (row_ok (k := 19) (by decide))]
      show or1 (or1 (or1 (or1 (bt 16386 2) (bt (putP 3 f.d) 2)) (bt (putP 2 f.r) 2)) (bt (putP 0 f.t) 2)) (bt (sputC 5 f.imm) 2) = _
      rw [bput_3 f.d _ (by decide), bput_2 f.r _ (by decide), bput_0 f.t _ (by decide), sputC_bt, sput8 _ hU, show bt 16386 2 = 0 by decide]
      simp [pbP, spr, spr5, sprOf, or1_0, or1_1, or1_bb, bt_m32, ed0, ed1, ed2, ed3, ed4, eimm2, eimm3, eimm4, eimm5, eimm6, eimm7, z2, z3, z4, z5, z6, z7, z8, z9, z10, z11, z12]
    have q3 : bt (parC (rowC 19) f.d f.r f.t f.imm) 3 = b 3 := by
      rw [parC_bt (row_ok (k := 19) (by decide))]
      show or1 (or1 (or1 (or1 (bt 16386 3) (bt (putP 3 f.d) 3)) (bt (putP 2 f.r) 3)) (bt (putP 0 f.t) 3)) (bt (sputC 5 f.imm) 3) = _
      rw [bput_3 f.d _ (by decide), bput_2 f.r _ (by decide), bput_0 f.t _ (by decide), sputC_bt, sput8 _ hU, show bt 16386 3 = 0 by decide]
      simp [pbP, spr, spr5, sprOf, or1_0, or1_1, or1_bb, bt_m32, ed0, ed1, ed2, ed3, ed4, eimm2, eimm3, eimm4, eimm5, eimm6, eimm7, z2, z3, z4, z5, z6, z7, z8, z9, z10, z11, z12]
    have q4 : bt (parC (rowC 19) f.d f.r f.t f.imm) 4 = b 4 := by
      rw [parC_bt (row_ok (k := 19) (by decide))]
      show or1 (or1 (or1 (or1 (bt 16386 4) (bt (putP 3 f.d) 4)) (bt (putP 2 f.r) 4)) (bt (putP 0 f.t) 4)) (bt (sputC 5 f.imm) 4) = _
      rw [bput_3 f.d _ (by decide), bput_2 f.r _ (by decide), bput_0 f.t _ (by decide), sputC_bt, sput8 _ hU, show bt 16386 4 = 0 by decide]
      simp [pbP, spr, spr5, sprOf, or1_0, or1_1, or1_bb, bt_m32, ed0, ed1, ed2, ed3, ed4, eimm2, eimm3, eimm4, eimm5, eimm6, eimm7, z2, z3, z4, z5, z6, z7, z8, z9, z10, z11, z12]
    have q5 : bt (parC (rowC 19) f.d f.r f.t f.imm) 5 = b 5 := by
      rw [parC_bt (row_ok (k := 19) (by decide))]
      show or1 (or1 (or1 (or1 (bt 16386 5) (bt (putP 3 f.d) 5)) (bt (putP 2 f.r) 5)) (bt (putP 0 f.t) 5)) (bt (sputC 5 f.imm) 5) = _
      rw [bput_3 f.d _ (by decide), bput_2 f.r _ (by decide), bput_0 f.t _ (by decide), sputC_bt, sput8 _ hU, show bt 16386 5 = 0 by decide]
      simp [pbP, spr, spr5, sprOf, or1_0, or1_1, or1_bb, bt_m32, ed0, ed1, ed2, ed3, ed4, eimm2, eimm3, eimm4, eimm5, eimm6, eimm7, z2, z3, z4, z5, z6, z7, z8, z9, z10, z11, z12]
    have q6 : bt (parC (rowC 19) f.d f.r f.t f.imm) 6 = b 6 := by
      rw [parC_bt (row_ok (k := 19) (by decide))]
      show or1 (or1 (or1 (or1 (bt 16386 6) (bt (putP 3 f.d) 6)) (bt (putP 2 f.r) 6)) (bt (putP 0 f.t) 6)) (bt (sputC 5 f.imm) 6) = _
      rw [bput_3 f.d _ (by decide), bput_2 f.r _ (by decide), bput_0 f.t _ (by decide), sputC_bt, sput8 _ hU, show bt 16386 6 = 0 by decide]
      simp [pbP, spr, spr5, sprOf, or1_0, or1_1, or1_bb, bt_m32, ed0, ed1, ed2, ed3, ed4, eimm2, eimm3, eimm4, eimm5, eimm6, eimm7, z2, z3, z4, z5, z6, z7, z8, z9, z10, z11, z12]
    have q7 : bt (parC (rowC 19) f.d f.r f.t f.imm) 7 = b 7 := by
      rw [parC_bt (row_ok (k := 19) (by decide))]
      show or1 (or1 (or1 (or1 (bt 16386 7) (bt (putP 3 f.d) 7)) (bt (putP 2 f.r) 7)) (bt (putP 0 f.t) 7)) (bt (sputC 5 f.imm) 7) = _
      rw [bput_3 f.d _ (by decide), bput_2 f.r _ (by decide), bput_0 f.t _ (by decide), sputC_bt, sput8 _ hU, show bt 16386 7 = 0 by decide]
      simp [pbP, spr, spr5, sprOf, or1_0, or1_1, or1_bb, bt_m32, ed0, ed1, ed2, ed3, ed4, eimm2, eimm3, eimm4, eimm5, eimm6, eimm7, z2, z3, z4, z5, z6, z7, z8, z9, z10, z11, z12]
    have q8 : bt (parC (rowC 19) f.d f.r f.t f.imm) 8 = b 8 := by
      rw [parC_bt (row_ok (k := 19) (by decide))]
      show or1 (or1 (or1 (or1 (bt 16386 8) (bt (putP 3 f.d) 8)) (bt (putP 2 f.r) 8)) (bt (putP 0 f.t) 8)) (bt (sputC 5 f.imm) 8) = _
      rw [bput_3 f.d _ (by decide), bput_2 f.r _ (by decide), bput_0 f.t _ (by decide), sputC_bt, sput8 _ hU, show bt 16386 8 = 0 by decide]
      simp [pbP, spr, spr5, sprOf, or1_0, or1_1, or1_bb, bt_m32, ed0, ed1, ed2, ed3, ed4, eimm2, eimm3, eimm4, eimm5, eimm6, eimm7, z2, z3, z4, z5, z6, z7, z8, z9, z10, z11, z12]
    have q9 : bt (parC (rowC 19) f.d f.r f.t f.imm) 9 = b 9 := by
      rw [parC_bt (row_ok (k := 19) (by decide))]
      show or1 (or1 (or1 (or1 (bt 16386 9) (bt (putP 3 f.d) 9)) (bt (putP 2 f.r) 9)) (bt (putP 0 f.t) 9)) (bt (sputC 5 f.imm) 9) = _
      rw [bput_3 f.d _ (by decide), bput_2 f.r _ (by decide), bput_0 f.t _ (by decide), sputC_bt, sput8 _ hU, show bt 16386 9 = 0 by decide]
      simp [pbP, spr, spr5, sprOf, or1_0, or1_1, or1_bb, bt_m32, ed0, ed1, ed2, ed3, ed4, eimm2, eimm3, eimm4, eimm5, eimm6, eimm7, z2, z3, z4, z5, z6, z7, z8, z9, z10, z11, z12]
    have q10 : bt (parC (rowC 19) f.d f.r f.t f.imm) 10 = b 10 := by
      rw [parC_bt (row_ok (k := 19) (by decide))]
      show or1 (or1 (or1 (or1 (bt 16386 10) (bt (putP 3 f.d) 10)) (bt (putP 2 f.r) 10)) (bt (putP 0 f.t) 10)) (bt (sputC 5 f.imm) 10) = _
      rw [bput_3 f.d _ (by decide), bput_2 f.r _ (by decide), bput_0 f.t _ (by decide), sputC_bt, sput8 _ hU, show bt 16386 10 = 0 by decide]
      simp [pbP, spr, spr5, sprOf, or1_0, or1_1, or1_bb, bt_m32, ed0, ed1, ed2, ed3, ed4, eimm2, eimm3, eimm4, eimm5, eimm6, eimm7, z2, z3, z4, z5, z6, z7, z8, z9, z10, z11, z12]
    have q11 : bt (parC (rowC 19) f.d f.r f.t f.imm) 11 = b 11 := by
      rw [parC_bt (row_ok (k := 19) (by decide))]
      show or1 (or1 (or1 (or1 (bt 16386 11) (bt (putP 3 f.d) 11)) (bt (putP 2 f.r) 11)) (bt (putP 0 f.t) 11)) (bt (sputC 5 f.imm) 11) = _
      rw [bput_3 f.d _ (by decide), bput_2 f.r _ (by decide), bput_0 f.t _ (by decide), sputC_bt, sput8 _ hU, show bt 16386 11 = 0 by decide]
      simp [pbP, spr, spr5, sprOf, or1_0, or1_1, or1_bb, bt_m32, ed0, ed1, ed2, ed3, ed4, eimm2, eimm3, eimm4, eimm5, eimm6, eimm7, z2, z3, z4, z5, z6, z7, z8, z9, z10, z11, z12]
    have q12 : bt (parC (rowC 19) f.d f.r f.t f.imm) 12 = b 12 := by
      rw [parC_bt (row_ok (k := 19) (by decide))]
      show or1 (or1 (or1 (or1 (bt 16386 12) (bt (putP 3 f.d) 12)) (bt (putP 2 f.r) 12)) (bt (putP 0 f.t) 12)) (bt (sputC 5 f.imm) 12) = _
      rw [bput_3 f.d _ (by decide), bput_2 f.r _ (by decide), bput_0 f.t _ (by decide), sputC_bt, sput8 _ hU, show bt 16386 12 = 0 by decide]
      simp [pbP, spr, spr5, sprOf, or1_0, or1_1, or1_bb, bt_m32, ed0, ed1, ed2, ed3, ed4, eimm2, eimm3, eimm4, eimm5, eimm6, eimm7, z2, z3, z4, z5, z6, z7, z8, z9, z10, z11, z12]
    have q13 : bt (parC (rowC 19) f.d f.r f.t f.imm) 13 = 0 := by
      rw [parC_bt (row_ok (k := 19) (by decide))]
      show or1 (or1 (or1 (or1 (bt 16386 13) (bt (putP 3 f.d) 13)) (bt (putP 2 f.r) 13)) (bt (putP 0 f.t) 13)) (bt (sputC 5 f.imm) 13) = _
      rw [bput_3 f.d _ (by decide), bput_2 f.r _ (by decide), bput_0 f.t _ (by decide), sputC_bt, sput8 _ hU, show bt 16386 13 = 0 by decide]
      simp [pbP, spr, spr5, sprOf, or1_0, or1_1, or1_bb, bt_m32, ed0, ed1, ed2, ed3, ed4, eimm2, eimm3, eimm4, eimm5, eimm6, eimm7, z2, z3, z4, z5, z6, z7, z8, z9, z10, z11, z12]
    have q14 : bt (parC (rowC 19) f.d f.r f.t f.imm) 14 = 1 := by
      rw [parC_bt (row_ok (k := 19) (by decide))]
      show or1 (or1 (or1 (or1 (bt 16386 14) (bt (putP 3 f.d) 14)) (bt (putP 2 f.r) 14)) (bt (putP 0 f.t) 14)) (bt (sputC 5 f.imm) 14) = _
      rw [bput_3 f.d _ (by decide), bput_2 f.r _ (by decide), bput_0 f.t _ (by decide), sputC_bt, sput8 _ hU, show bt 16386 14 = 1 by decide]
      simp [pbP, spr, spr5, sprOf, or1_0, or1_1, or1_bb, bt_m32, ed0, ed1, ed2, ed3, ed4, eimm2, eimm3, eimm4, eimm5, eimm6, eimm7, z2, z3, z4, z5, z6, z7, z8, z9, z10, z11, z12]
    have q15 : bt (parC (rowC 19) f.d f.r f.t f.imm) 15 = 0 := by
      rw [parC_bt (row_ok (k := 19) (by decide))]
      show or1 (or1 (or1 (or1 (bt 16386 15) (bt (putP 3 f.d) 15)) (bt (putP 2 f.r) 15)) (bt (putP 0 f.t) 15)) (bt (sputC 5 f.imm) 15) = _
      rw [bput_3 f.d _ (by decide), bput_2 f.r _ (by decide), bput_0 f.t _ (by decide), sputC_bt, sput8 _ hU, show bt 16386 15 = 0 by decide]
      simp [pbP, spr, spr5, sprOf, or1_0, or1_1, or1_bb, bt_m32, ed0, ed1, ed2, ed3, ed4, eimm2, eimm3, eimm4, eimm5, eimm6, eimm7, z2, z3, z4, z5, z6, z7, z8, z9, z10, z11, z12]
    rw [q0, q1, q2, q3, q4, q5, q6, q7, q8, q9, q10, q11, q12, q13, q14, q15] at hsp
    omega
theorem backC_20 (p : Int) (f : Flds) (h0 : 0 ≤ p) (h1 : p < 65536) (h : instS (shortR 20) p = some f) : parC (rowC 20) f.d f.r f.t f.imm = p := by
  have hs := sum16 p h0 h1
  have hb := bt_bd p
  unfold instS at h
  rw [rd_rdB] at h
  generalize bt p = b at h hs hb
  simp [shortR, shortL, rdB, miss, rstep, badS, makeS, fieldS, eightS, cnt, immS2, immS1, hi, hiTo, hasB] at h
  split at h
  · cases h
  rename_i g hg
  simp only [Option.ite_none_right_eq_some, Option.some.injEq] at hg
  obtain ⟨c0, c1, c2, c3, c4, c5, c6, c7, c8, c9, c10, hg⟩ := hg
  have gd : g.d = 0 := by subst hg; simp [pw] <;> omega
  have gr : g.r = 1 * b 7 + 2 * b 8 + 4 * b 9 + 8 * b 10 + 16 * b 11 := by subst hg; simp [pw] <;> omega
  have gt : g.t = 0 := by subst hg; simp [pw] <;> omega
  have gimm : g.imm = 0 := by subst hg; simp [pw] <;> omega
  clear hg
  have B7 := hb 7
  have B8 := hb 8
  have B9 := hb 9
  have B10 := hb 10
  have B11 := hb 11
  clear hb
  repeat' split at h
  all_goals first | (cases h; done) | skip
  all_goals
    have h := Option.some.inj h
    have hd := congrArg Flds.d h
    have hr := congrArg Flds.r h
    have ht := congrArg Flds.t h
    have hm := congrArg Flds.imm h
    clear h
    dsimp only at hd hr ht hm
    have er0 : bt f.r 0 = b 7 := bt_at (A := 0) (C := 1 * b 8 + 2 * b 9 + 4 * b 10 + 8 * b 11) 0 (by decide) (by decide : pw 0 = 1) (by omega) (by omega) (by omega) B7
    have er1 : bt f.r 1 = b 8 := bt_at (A := 1 * b 7) (C := 1 * b 9 + 2 * b 10 + 4 * b 11) 1 (by decide) (by decide : pw 1 = 2) (by omega) (by omega) (by omega) B8
    have er2 : bt f.r 2 = b 9 := bt_at (A := 1 * b 7 + 2 * b 8) (C := 1 * b 10 + 2 * b 11) 2 (by decide) (by decide : pw 2 = 4) (by omega) (by omega) (by omega) B9
    have er3 : bt f.r 3 = b 10 := bt_at (A := 1 * b 7 + 2 * b 8 + 4 * b 9) (C := 1 * b 11) 3 (by decide) (by decide : pw 3 = 8) (by omega) (by omega) (by omega) B10
    have er4 : bt f.r 4 = b 11 := bt_at (A := 1 * b 7 + 2 * b 8 + 4 * b 9 + 8 * b 10) (C := 0) 4 (by decide) (by decide : pw 4 = 16) (by omega) (by omega) (by omega) B11
    have hu := parC_u16 (row_ok (k := 20) (by decide)) f.d f.r f.t f.imm
    have hsp := sum16 _ hu.1 hu.2
    have hU : U32 (f.imm % 4294967296) := ⟨by omega, by omega⟩
    have z7 : or1 (b 7) 0 = b 7 := or1_b0 B7
    have z8 : or1 (b 8) 0 = b 8 := or1_b0 B8
    have z9 : or1 (b 9) 0 = b 9 := or1_b0 B9
    have z10 : or1 (b 10) 0 = b 10 := or1_b0 B10
    have z11 : or1 (b 11) 0 = b 11 := or1_b0 B11
    have q0 : bt (parC (rowC 20) f.d f.r f.t f.imm) 0 = 0 := by
      rw [parC_bt (row_ok (k := 20) (by decide))]
      show or1 (or1 (or1 (or1 (bt 32770 0) (bt (putP 0 f.d) 0)) (bt (putP 3 f.r) 0)) (bt (putP 0 f.t) 0)) (bt (sputC 0 f.imm) 0) = _
      rw [bput_0 f.d _ (by decide), bput_3 f.r _ (by decide), bput_0 f.t _ (by decide), sputC_bt, sput8 _ hU, show bt 32770 0 = 0 by decide]
      simp [pbP, spr, spr0, sprOf, or1_0, or1_1, or1_bb, bt_m32, er0, er1, er2, er3, er4, z7, z8, z9, z10, z11]
    have q1 : bt (parC (rowC 20) f.d f.r f.t f.imm) 1 = 1 := by
      rw [parC_bt (row_ok (k := 20) (by decide))]
      show or1 (or1 (or1 (or1 (bt 32770 1) (bt (putP 0 f.d) 1)) (bt (putP 3 f.r) 1)) (bt (putP 0 f.t) 1)) (bt (sputC 0 f.imm) 1) = _
      rw [bput_0 f.d _ (by decide), bput_3 f.r _ (by decide), bput_0 f.t _ (by decide), sputC_bt, sput8 _ hU, show bt 32770 1 = 1 by decide]
      simp [pbP, spr, spr0, sprOf, or1_0, or1_1, or1_bb, bt_m32, er0, er1, er2, er3, er4, z7, z8, z9, z10, z11]
    have q2 : bt (parC (rowC 20) f.d f.r f.t f.imm) 2 = 0 := by
      rw [parC_bt (row_ok (k := 20) (by decide))]
      show or1 (or1 (or1 (or1 (bt 32770 2) (bt (putP 0 f.d) 2)) (bt (putP 3 f.r) 2)) (bt (putP 0 f.t) 2)) (bt (sputC 0 f.imm) 2) = _
      rw [bput_0 f.d _ (by decide), bput_3 f.r _ (by decide), bput_0 f.t _ (by decide), sputC_bt, sput8 _ hU, show bt 32770 2 = 0 by decide]
      simp [pbP, spr, spr0, sprOf, or1_0, or1_1, or1_bb, bt_m32, er0, er1, er2, er3, er4, z7, z8, z9, z10, z11]
    have q3 : bt (parC (rowC 20) f.d f.r f.t f.imm) 3 = 0 := by
      rw [parC_bt (row_ok (k := 20) (by decide))]
      show or1 (or1 (or1 (or1 (bt 32770 3) (bt (putP 0 f.d) 3)) (bt (putP 3 f.r) 3)) (bt (putP 0 f.t) 3)) (bt (sputC 0 f.imm) 3) = _
      rw [bput_0 f.d _ (by decide), bput_3 f.r _ (by decide), bput_0 f.t _ (by decide), sputC_bt, sput8 _ hU, show bt 32770 3 = 0 by decide]
      simp [pbP, spr, spr0, sprOf, or1_0, or1_1, or1_bb, bt_m32, er0, er1, er2, er3, er4, z7, z8, z9, z10, z11]
    have q4 : bt (parC (rowC 20) f.d f.r f.t f.imm) 4 = 0 := by
      rw [parC_bt (row_ok (k := 20) (by decide))]
      show or1 (or1 (or1 (or1 (bt 32770 4) (bt (putP 0 f.d) 4)) (bt (putP 3 f.r) 4)) (bt (putP 0 f.t) 4)) (bt (sputC 0 f.imm) 4) = _
      rw [bput_0 f.d _ (by decide), bput_3 f.r _ (by decide), bput_0 f.t _ (by decide), sputC_bt, sput8 _ hU, show bt 32770 4 = 0 by decide]
      simp [pbP, spr, spr0, sprOf, or1_0, or1_1, or1_bb, bt_m32, er0, er1, er2, er3, er4, z7, z8, z9, z10, z11]
    have q5 : bt (parC (rowC 20) f.d f.r f.t f.imm) 5 = 0 := by
      rw [parC_bt (row_ok (k := 20) (by decide))]
      show or1 (or1 (or1 (or1 (bt 32770 5) (bt (putP 0 f.d) 5)) (bt (putP 3 f.r) 5)) (bt (putP 0 f.t) 5)) (bt (sputC 0 f.imm) 5) = _
      rw [bput_0 f.d _ (by decide), bput_3 f.r _ (by decide), bput_0 f.t _ (by decide), sputC_bt, sput8 _ hU, show bt 32770 5 = 0 by decide]
      simp [pbP, spr, spr0, sprOf, or1_0, or1_1, or1_bb, bt_m32, er0, er1, er2, er3, er4, z7, z8, z9, z10, z11]
    have q6 : bt (parC (rowC 20) f.d f.r f.t f.imm) 6 = 0 := by
      rw [parC_bt (row_ok (k := 20) (by decide))]
      show or1 (or1 (or1 (or1 (bt 32770 6) (bt (putP 0 f.d) 6)) (bt (putP 3 f.r) 6)) (bt (putP 0 f.t) 6)) (bt (sputC 0 f.imm) 6) = _
      rw [bput_0 f.d _ (by decide), bput_3 f.r _ (by decide), bput_0 f.t _ (by decide), sputC_bt, sput8 _ hU, show bt 32770 6 = 0 by decide]
      simp [pbP, spr, spr0, sprOf, or1_0, or1_1, or1_bb, bt_m32, er0, er1, er2, er3, er4, z7, z8, z9, z10, z11]
    have q7 : bt (parC (rowC 20) f.d f.r f.t f.imm) 7 = b 7 := by
      rw [parC_bt (row_ok (k := 20) (by decide))]
      show or1 (or1 (or1 (or1 (bt 32770 7) (bt (putP 0 f.d) 7)) (bt (putP 3 f.r) 7)) (bt (putP 0 f.t) 7)) (bt (sputC 0 f.imm) 7) = _
      rw [bput_0 f.d _ (by decide), bput_3 f.r _ (by decide), bput_0 f.t _ (by decide), sputC_bt, sput8 _ hU, show bt 32770 7 = 0 by decide]
      simp [pbP, spr, spr0, sprOf, or1_0, or1_1, or1_bb, bt_m32, er0, er1, er2, er3, er4, z7, z8, z9, z10, z11]
    have q8 : bt (parC (rowC 20) f.d f.r f.t f.imm) 8 = b 8 := by
      rw [parC_bt (row_ok (k := 20) (by decide))]
      show or1 (or1 (or1 (or1 (bt 32770 8) (bt (putP 0 f.d) 8)) (bt (putP 3 f.r) 8)) (bt (putP 0 f.t) 8)) (bt (sputC 0 f.imm) 8) = _
      rw [bput_0 f.d _ (by decide), bput_3 f.r _ (by decide), bput_0 f.t _ (by decide), sputC_bt, sput8 _ hU, show bt 32770 8 = 0 by decide]
      simp [pbP, spr, spr0, sprOf, or1_0, or1_1, or1_bb, bt_m32, er0, er1, er2, er3, er4, z7, z8, z9, z10, z11]
    have q9 : bt (parC (rowC 20) f.d f.r f.t f.imm) 9 = b 9 := by
      rw [parC_bt (row_ok (k := 20) (by decide))]
      show or1 (or1 (or1 (or1 (bt 32770 9) (bt (putP 0 f.d) 9)) (bt (putP 3 f.r) 9)) (bt (putP 0 f.t) 9)) (bt (sputC 0 f.imm) 9) = _
      rw [bput_0 f.d _ (by decide), bput_3 f.r _ (by decide), bput_0 f.t _ (by decide), sputC_bt, sput8 _ hU, show bt 32770 9 = 0 by decide]
      simp [pbP, spr, spr0, sprOf, or1_0, or1_1, or1_bb, bt_m32, er0, er1, er2, er3, er4, z7, z8, z9, z10, z11]
    have q10 : bt (parC (rowC 20) f.d f.r f.t f.imm) 10 = b 10 := by
      rw [parC_bt (row_ok (k := 20) (by decide))]
      show or1 (or1 (or1 (or1 (bt 32770 10) (bt (putP 0 f.d) 10)) (bt (putP 3 f.r) 10)) (bt (putP 0 f.t) 10)) (bt (sputC 0 f.imm) 10) = _
      rw [bput_0 f.d _ (by decide), bput_3 f.r _ (by decide), bput_0 f.t _ (by decide), sputC_bt, sput8 _ hU, show bt 32770 10 = 0 by decide]
      simp [pbP, spr, spr0, sprOf, or1_0, or1_1, or1_bb, bt_m32, er0, er1, er2, er3, er4, z7, z8, z9, z10, z11]
    have q11 : bt (parC (rowC 20) f.d f.r f.t f.imm) 11 = b 11 := by
      rw [parC_bt (row_ok (k := 20) (by decide))]
      show or1 (or1 (or1 (or1 (bt 32770 11) (bt (putP 0 f.d) 11)) (bt (putP 3 f.r) 11)) (bt (putP 0 f.t) 11)) (bt (sputC 0 f.imm) 11) = _
      rw [bput_0 f.d _ (by decide), bput_3 f.r _ (by decide), bput_0 f.t _ (by decide), sputC_bt, sput8 _ hU, show bt 32770 11 = 0 by decide]
      simp [pbP, spr, spr0, sprOf, or1_0, or1_1, or1_bb, bt_m32, er0, er1, er2, er3, er4, z7, z8, z9, z10, z11]
    have q12 : bt (parC (rowC 20) f.d f.r f.t f.imm) 12 = 0 := by
      rw [parC_bt (row_ok (k := 20) (by decide))]
      show or1 (or1 (or1 (or1 (bt 32770 12) (bt (putP 0 f.d) 12)) (bt (putP 3 f.r) 12)) (bt (putP 0 f.t) 12)) (bt (sputC 0 f.imm) 12) = _
      rw [bput_0 f.d _ (by decide), bput_3 f.r _ (by decide), bput_0 f.t _ (by decide), sputC_bt, sput8 _ hU, show bt 32770 12 = 0 by decide]
      simp [pbP, spr, spr0, sprOf, or1_0, or1_1, or1_bb, bt_m32, er0, er1, er2, er3, er4, z7, z8, z9, z10, z11]
    have q13 : bt (parC (rowC 20) f.d f.r f.t f.imm) 13 = 0 := by
      rw [parC_bt (row_ok (k := 20) (by decide))]
      show or1 (or1 (or1 (or1 (bt 32770 13) (bt (putP 0 f.d) 13)) (bt (putP 3 f.r) 13)) (bt (putP 0 f.t) 13)) (bt (sputC 0 f.imm) 13) = _
      rw [bput_0 f.d _ (by decide), bput_3 f.r _ (by decide), bput_0 f.t _ (by decide), sputC_bt, sput8 _ hU, show bt 32770 13 = 0 by decide]
      simp [pbP, spr, spr0, sprOf, or1_0, or1_1, or1_bb, bt_m32, er0, er1, er2, er3, er4, z7, z8, z9, z10, z11]
    have q14 : bt (parC (rowC 20) f.d f.r f.t f.imm) 14 = 0 := by
      rw [parC_bt (row_ok (k := 20) (by decide))]
      show or1 (or1 (or1 (or1 (bt 32770 14) (bt (putP 0 f.d) 14)) (bt (putP 3 f.r) 14)) (bt (putP 0 f.t) 14)) (bt (sputC 0 f.imm) 14) = _
      rw [bput_0 f.d _ (by decide), bput_3 f.r _ (by decide), bput_0 f.t _ (by decide), sputC_bt, sput8 _ hU, show bt 32770 14 = 0 by decide]
      simp [pbP, spr, spr0, sprOf, or1_0, or1_1, or1_bb, bt_m32, er0, er1, er2, er3, er4, z7, z8, z9, z10, z11]
    have q15 : bt (parC (rowC 20) f.d f.r f.t f.imm) 15 = 1 := by
      rw [parC_bt (row_ok (k := 20) (by decide))]
      show or1 (or1 (or1 (or1 (bt 32770 15) (bt (putP 0 f.d) 15)) (bt (putP 3 f.r) 15)) (bt (putP 0 f.t) 15)) (bt (sputC 0 f.imm) 15) = _
      rw [bput_0 f.d _ (by decide), bput_3 f.r _ (by decide), bput_0 f.t _ (by decide), sputC_bt, sput8 _ hU, show bt 32770 15 = 1 by decide]
      simp [pbP, spr, spr0, sprOf, or1_0, or1_1, or1_bb, bt_m32, er0, er1, er2, er3, er4, z7, z8, z9, z10, z11]
    rw [q0, q1, q2, q3, q4, q5, q6, q7, q8, q9, q10, q11, q12, q13, q14, q15] at hsp
    omega
theorem backC_21 (p : Int) (f : Flds) (h0 : 0 ≤ p) (h1 : p < 65536) (h : instS (shortR 21) p = some f) : parC (rowC 21) f.d f.r f.t f.imm = p := by
  have hs := sum16 p h0 h1
  have hb := bt_bd p
  unfold instS at h
  rw [rd_rdB] at h
  generalize bt p = b at h hs hb
  simp [shortR, shortL, rdB, miss, rstep, badS, makeS, fieldS, eightS, cnt, immS2, immS1, hi, hiTo, hasB] at h
  split at h
  · cases h
  rename_i g hg
  simp only [Option.ite_none_right_eq_some, Option.some.injEq] at hg
  obtain ⟨c0, c1, c2, c3, c4, c5, hg⟩ := hg
  have gd : g.d = 1 * b 7 + 2 * b 8 + 4 * b 9 + 8 * b 10 + 16 * b 11 := by subst hg; simp [pw] <;> omega
  have gr : g.r = 0 := by subst hg; simp [pw] <;> omega
  have gt : g.t = 1 * b 2 + 2 * b 3 + 4 * b 4 + 8 * b 5 + 16 * b 6 := by subst hg; simp [pw] <;> omega
  have gimm : g.imm = 0 := by subst hg; simp [pw] <;> omega
  clear hg
  have B2 := hb 2
  have B3 := hb 3
  have B4 := hb 4
  have B5 := hb 5
  have B6 := hb 6
  have B7 := hb 7
  have B8 := hb 8
  have B9 := hb 9
  have B10 := hb 10
  have B11 := hb 11
  clear hb
  repeat' split at h
  all_goals first | (cases h; done) | skip
  all_goals
    have h := Option.some.inj h
    have hd := congrArg Flds.d h
    have hr := congrArg Flds.r h
    have ht := congrArg Flds.t h
    have hm := congrArg Flds.imm h
    clear h
    dsimp only at hd hr ht hm
    have ed0 : bt f.d 0 = b 7 := bt_at (A := 0) (C := 1 * b 8 + 2 * b 9 + 4 * b 10 + 8 * b 11) 0 (by decide) (by decide : pw 0 = 1) (by omega) (by omega) (by omega) B7
    have ed1 : bt f.d 1 = b 8 := bt_at (A := 1 * b 7) (C := 1 * b 9 + 2 * b 10 + 4 * b 11) 1 (by decide) (by decide : pw 1 = 2) (by omega) (by omega) (by omega) B8
    have ed2 : bt f.d 2 = b 9 := bt_at (A := 1 * b 7 + 2 * b 8) (C := 1 * b 10 + 2 * b 11) 2 (by decide) (by decide : pw 2 = 4) (by omega) (by omega) (by omega) B9
    have ed3 : bt f.d 3 = b 10 := bt_at (A := 1 * b 7 + 2 * b 8 + 4 * b 9) (C := 1 * b 11) 3 (by decide) (by decide : pw 3 = 8) (by omega) (by omega) (by omega) B10
    have ed4 : bt f.d 4 = b 11 := bt_at (A := 1 * b 7 + 2 * b 8 + 4 * b 9 + 8 * b 10) (C := 0) 4 (by decide) (by decide : pw 4 = 16) (by omega) (by omega) (by omega) B11
    have et0 : bt f.t 0 = b 2 := bt_at (A := 0) (C := 1 * b 3 + 2 * b 4 + 4 * b 5 + 8 * b 6) 0 (by decide) (by decide : pw 0 = 1) (by omega) (by omega) (by omega) B2
    have et1 : bt f.t 1 = b 3 := bt_at (A := 1 * b 2) (C := 1 * b 4 + 2 * b 5 + 4 * b 6) 1 (by decide) (by decide : pw 1 = 2) (by omega) (by omega) (by omega) B3
    have et2 : bt f.t 2 = b 4 := bt_at (A := 1 * b 2 + 2 * b 3) (C := 1 * b 5 + 2 * b 6) 2 (by decide) (by decide : pw 2 = 4) (by omega) (by omega) (by omega) B4
    have et3 : bt f.t 3 = b 5 := bt_at (A := 1 * b 2 + 2 * b 3 + 4 * b 4) (C := 1 * b 6) 3 (by decide) (by decide : pw 3 = 8) (by omega) (by omega) (by omega) B5
    have et4 : bt f.t 4 = b 6 := bt_at (A := 1 * b 2 + 2 * b 3 + 4 * b 4 + 8 * b 5) (C := 0) 4 (by decide) (by decide : pw 4 = 16) (by omega) (by omega) (by omega) B6
    have hu := parC_u16 (row_ok (k := 21) (by decide)) f.d f.r f.t f.imm
    have hsp := sum16 _ hu.1 hu.2
    have hU : U32 (f.imm % 4294967296) := ⟨by omega, by omega⟩
    have z2 : or1 (b 2) 0 = b 2 := or1_b0 B2
    have z3 : or1 (b 3) 0 = b 3 := or1_b0 B3
    have z4 : or1 (b 4) 0 = b 4 := or1_b0 B4
    have z5 : or1 (b 5) 0 = b 5 := or1_b0 B5
    have z6 : or1 (b 6) 0 = b 6 := or1_b0 B6
    have z7 : or1 (b 7) 0 = b 7 := or1_b0 B7
    have z8 : or1 (b 8) 0 = b 8 := or1_b0 B8
    have z9 : or1 (b 9) 0 = b 9 := or1_b0 B9
    have z10 : or1 (b 10) 0 = b 10 := or1_b0 B10
    have z11 : or1 (b 11) 0 = b 11 := or1_b0 B11
    have q0 : bt (parC (rowC 21) f.d f.r f.t f.imm) 0 = 0 := by
      rw [parC_bt (row_ok (k := 21) (by decide))]
      show or1 (or1 (or1 (or1 (bt 32770 0) (bt (putP 3 f.d) 0)) (bt (putP 0 f.r) 0)) (bt (putP 4 f.t) 0)) (bt (sputC 0 f.imm) 0) = _
      rw [bput_3 f.d _ (by decide), bput_0 f.r _ (by decide), bput_4 f.t _ (by decide), sputC_bt, sput8 _ hU, show bt 32770 0 = 0 by decide]
      simp [pbP, spr, spr0, sprOf, or1_0, or1_1, or1_bb, bt_m32, ed0, ed1, ed2, ed3, ed4, et0, et1, et2, et3, et4, z2, z3, z4, z5, z6, z7, z8, z9, z10, z11]
    have q1 : bt (parC (rowC 21) f.d f.r f.t f.imm) 1 = 1 := by
      rw [parC_bt (row_ok (k := 21) (by decide))]
      show or1 (or1 (or1 (or1 (bt 32770 1) (bt (putP 3 f.d) 1)) (bt (putP 0 f.r) 1)) (bt (putP 4 f.t) 1)) (bt (sputC 0 f.imm) 1) = _
      rw [bput_3 f.d _ (by decide), bput_0 f.r _ (by decide), bput_4 f.t _ (by decide), sputC_bt, sput8 _ hU, show bt 32770 1 = 1 by decide]
      simp [pbP, spr, spr0, sprOf, or1_0, or1_1, or1_bb, bt_m32, ed0, ed1, ed2, ed3, ed4, et0, et1, et2, et3, et4, z2, z3, z4, z5, z6, z7, z8, z9, z10, z11]
    have q2 : bt (parC (rowC 21) f.d f.r f.t f.imm) 2 = b 2 := by
      rw [parC_bt (row_ok (k := 21) (by decide))]
      show or1 (or1 (or1 (or1 (bt 32770 2) (bt (putP 3 f.d) 2)) (bt (putP 0 f.r) 2)) (bt (putP 4 f.t) 2)) (bt (sputC 0 f.imm) 2) = _
      rw [bput_3 f.d _ (by decide), bput_0 f.r _ (by decide), bput_4 f.t _ (by decide), sputC_bt, sput8 _ hU, show bt 32770 2 = 0 by decide]
      simp [pbP, spr, spr0, sprOf, or1_0, or1_1, or1_bb, bt_m32, ed0, ed1, ed2, ed3, ed4, et0, et1, et2, et3, et4, z2, z3, z4, z5, z6, z7, z8, z9, z10, z11]
    have q3 : bt (parC (rowC 21) f.d f.r f.t f.imm) 3 = b 3 := by
      rw [parC_bt (row_ok (k := 21) (by decide))]
      show or1 (or1 (or1 (or1 (bt 32770 3) (bt (putP 3 f.d) 3)) (bt (putP 0 f.r) 3)) (bt (putP 4 f.t) 3)) (bt (sputC 0 f.imm) 3) = _
      rw [bput_3 f.d _ (by decide), bput_0 f.r _ (by decide), bput_4 f.t _ (by decide), sputC_bt, sput8 _ hU, show bt 32770 3 = 0 by decide]
      simp [pbP, spr, spr0, sprOf, or1_0, or1_1, or1_bb, bt_m32, ed0, ed1, ed2, ed3, ed4, et0, et1, et2, et3, et4, z2, z3, z4, z5, z6, z7, z8, z9, z10, z11]
    have q4 : bt (parC (rowC 21) f.d f.r f.t f.imm) 4 = b 4 := by
      rw [parC_bt (row_ok (k := 21) (by decide))]
      show or1 (or1 (or1 (or1 (bt 32770 4) (bt (putP 3 f.d) 4)) (bt (putP 0 f.r) 4)) (bt (putP 4 f.t) 4)) (bt (sputC 0 f.imm) 4) = _
      rw [bput_3 f.d _ (by decide), bput_0 f.r _ (by decide), bput_4 f.t _ (by decide), sputC_bt, sput8 _ hU, show bt 32770 4 = 0 by decide]
      simp [pbP, spr, spr0, sprOf, or1_0, or1_1, or1_bb, bt_m32, ed0, ed1, ed2, ed3, ed4, et0, et1, et2, et3, et4, z2, z3, z4, z5, z6, z7, z8, z9, z10, z11]
    have q5 : bt (parC (rowC 21) f.d f.r f.t f.imm) 5 = b 5 := by
      rw [parC_bt (row_ok (k := 21) (by decide))]
      show or1 (or1 (or1 (or1 (bt 32770 5) (bt (putP 3 f.d) 5)) (bt (putP 0 f.r) 5)) (bt (putP 4 f.t) 5)) (bt (sputC 0 f.imm) 5) = _
      rw [bput_3 f.d _ (by decide), bput_0 f.r _ (by decide), bput_4 f.t _ (by decide), sputC_bt, sput8 _ hU, show bt 32770 5 = 0 by decide]
      simp [pbP, spr, spr0, sprOf, or1_0, or1_1, or1_bb, bt_m32, ed0, ed1, ed2, ed3, ed4, et0, et1, et2, et3, et4, z2, z3, z4, z5, z6, z7, z8, z9, z10, z11]
    have q6 : bt (parC (rowC 21) f.d f.r f.t f.imm) 6 = b 6 := by
      rw [parC_bt (row_ok (k := 21) (by decide))]
      show or1 (or1 (or1 (or1 (bt 32770 6) (bt (putP 3 f.d) 6)) (bt (putP 0 f.r) 6)) (bt (putP 4 f.t) 6)) (bt (sputC 0 f.imm) 6) = _
      rw [bput_3 f.d _ (by decide), bput_0 f.r _ (by decide), bput_4 f.t _ (by decide), sputC_bt, sput8 _ hU, show bt 32770 6 = 0 by decide]
      simp [pbP, spr, spr0, sprOf, or1_0, or1_1, or1_bb, bt_m32, ed0, ed1, ed2, ed3, ed4, et0, et1, et2, et3, et4, z2, z3, z4, z5, z6, z7, z8, z9, z10, z11]
    have q7 : bt (parC (rowC 21) f.d f.r f.t f.imm) 7 = b 7 := by
      rw [parC_bt (row_ok (k := 21) (by decide))]
      show or1 (or1 (or1 (or1 (bt 32770 7) (bt (putP 3 f.d) 7)) (bt (putP 0 f.r) 7)) (bt (putP 4 f.t) 7)) (bt (sputC 0 f.imm) 7) = _
      rw [bput_3 f.d _ (by decide), bput_0 f.r _ (by decide), bput_4 f.t _ (by decide), sputC_bt, sput8 _ hU, show bt 32770 7 = 0 by decide]
      simp [pbP, spr, spr0, sprOf, or1_0, or1_1, or1_bb, bt_m32, ed0, ed1, ed2, ed3, ed4, et0, et1, et2, et3, et4, z2, z3, z4, z5, z6, z7, z8, z9, z10, z11]
    have q8 : bt (parC (rowC 21) f.d f.r f.t f.imm) 8 = b 8 := by
      rw [parC_bt (row_ok (k := 21) (by decide))]
      show or1 (or1 (or1 (or1 (bt 32770 8) (bt (putP 3 f.d) 8)) (bt (putP 0 f.r) 8)) (bt (putP 4 f.t) 8)) (bt (sputC 0 f.imm) 8) = _
      rw [bput_3 f.d _ (by decide), bput_0 f.r _ (by decide), bput_4 f.t _ (by decide), sputC_bt, sput8 _ hU, show bt 32770 8 = 0 by decide]
      simp [pbP, spr, spr0, sprOf, or1_0, or1_1, or1_bb, bt_m32, ed0, ed1, ed2, ed3, ed4, et0, et1, et2, et3, et4, z2, z3, z4, z5, z6, z7, z8, z9, z10, z11]
    have q9 : bt (parC (rowC 21) f.d f.r f.t f.imm) 9 = b 9 := by
      rw [parC_bt (row_ok (k := 21) (by decide))]
      show or1 (or1 (or1 (or1 (bt 32770 9) (bt (putP 3 f.d) 9)) (bt (putP 0 f.r) 9)) (bt (putP 4 f.t) 9)) (bt (sputC 0 f.imm) 9) = _
      rw [bput_3 f.d _ (by decide), bput_0 f.r _ (by decide), bput_4 f.t _ (by decide), sputC_bt, sput8 _ hU, show bt 32770 9 = 0 by decide]
      simp [pbP, spr, spr0, sprOf, or1_0, or1_1, or1_bb, bt_m32, ed0, ed1, ed2, ed3, ed4, et0, et1, et2, et3, et4, z2, z3, z4, z5, z6, z7, z8, z9, z10, z11]
    have q10 : bt (parC (rowC 21) f.d f.r f.t f.imm) 10 = b 10 := by
      rw [parC_bt (row_ok (k := 21) (by decide))]
      show or1 (or1 (or1 (or1 (bt 32770 10) (bt (putP 3 f.d) 10)) (bt (putP 0 f.r) 10)) (bt (putP 4 f.t) 10)) (bt (sputC 0 f.imm) 10) = _
      rw [bput_3 f.d _ (by decide), bput_0 f.r _ (by decide), bput_4 f.t _ (by decide), sputC_bt, sput8 _ hU, show bt 32770 10 = 0 by decide]
      simp [pbP, spr, spr0, sprOf, or1_0, or1_1, or1_bb, bt_m32, ed0, ed1, ed2, ed3, ed4, et0, et1, et2, et3, et4, z2, z3, z4, z5, z6, z7, z8, z9, z10, z11]
    have q11 : bt (parC (rowC 21) f.d f.r f.t f.imm) 11 = b 11 := by
      rw [parC_bt (row_ok (k := 21) (by decide))]
      show or1 (or1 (or1 (or1 (bt 32770 11) (bt (putP 3 f.d) 11)) (bt (putP 0 f.r) 11)) (bt (putP 4 f.t) 11)) (bt (sputC 0 f.imm) 11) = _
      rw [bput_3 f.d _ (by decide), bput_0 f.r _ (by decide), bput_4 f.t _ (by decide), sputC_bt, sput8 _ hU, show bt 32770 11 = 0 by decide]
      simp [pbP, spr, spr0, sprOf, or1_0, or1_1, or1_bb, bt_m32, ed0, ed1, ed2, ed3, ed4, et0, et1, et2, et3, et4, z2, z3, z4, z5, z6, z7, z8, z9, z10, z11]
    have q12 : bt (parC (rowC 21) f.d f.r f.t f.imm) 12 = 0 := by
      rw [parC_bt (row_ok (k := 21) (by decide))]
      show or1 (or1 (or1 (or1 (bt 32770 12) (bt (putP 3 f.d) 12)) (bt (putP 0 f.r) 12)) (bt (putP 4 f.t) 12)) (bt (sputC 0 f.imm) 12) = _
      rw [bput_3 f.d _ (by decide), bput_0 f.r _ (by decide), bput_4 f.t _ (by decide), sputC_bt, sput8 _ hU, show bt 32770 12 = 0 by decide]
      simp [pbP, spr, spr0, sprOf, or1_0, or1_1, or1_bb, bt_m32, ed0, ed1, ed2, ed3, ed4, et0, et1, et2, et3, et4, z2, z3, z4, z5, z6, z7, z8, z9, z10, z11]
    have q13 : bt (parC (rowC 21) f.d f.r f.t f.imm) 13 = 0 := by
      rw [parC_bt (row_ok (k := 21) (by decide))]
      show or1 (or1 (or1 (or1 (bt 32770 13) (bt (putP 3 f.d) 13)) (bt (putP 0 f.r) 13)) (bt (putP 4 f.t) 13)) (bt (sputC 0 f.imm) 13) = _
      rw [bput_3 f.d _ (by decide), bput_0 f.r _ (by decide), bput_4 f.t _ (by decide), sputC_bt, sput8 _ hU, show bt 32770 13 = 0 by decide]
      simp [pbP, spr, spr0, sprOf, or1_0, or1_1, or1_bb, bt_m32, ed0, ed1, ed2, ed3, ed4, et0, et1, et2, et3, et4, z2, z3, z4, z5, z6, z7, z8, z9, z10, z11]
    have q14 : bt (parC (rowC 21) f.d f.r f.t f.imm) 14 = 0 := by
      rw [parC_bt (row_ok (k := 21) (by decide))]
      show or1 (or1 (or1 (or1 (bt 32770 14) (bt (putP 3 f.d) 14)) (bt (putP 0 f.r) 14)) (bt (putP 4 f.t) 14)) (bt (sputC 0 f.imm) 14) = _
      rw [bput_3 f.d _ (by decide), bput_0 f.r _ (by decide), bput_4 f.t _ (by decide), sputC_bt, sput8 _ hU, show bt 32770 14 = 0 by decide]
      simp [pbP, spr, spr0, sprOf, or1_0, or1_1, or1_bb, bt_m32, ed0, ed1, ed2, ed3, ed4, et0, et1, et2, et3, et4, z2, z3, z4, z5, z6, z7, z8, z9, z10, z11]
    have q15 : bt (parC (rowC 21) f.d f.r f.t f.imm) 15 = 1 := by
      rw [parC_bt (row_ok (k := 21) (by decide))]
      show or1 (or1 (or1 (or1 (bt 32770 15) (bt (putP 3 f.d) 15)) (bt (putP 0 f.r) 15)) (bt (putP 4 f.t) 15)) (bt (sputC 0 f.imm) 15) = _
      rw [bput_3 f.d _ (by decide), bput_0 f.r _ (by decide), bput_4 f.t _ (by decide), sputC_bt, sput8 _ hU, show bt 32770 15 = 1 by decide]
      simp [pbP, spr, spr0, sprOf, or1_0, or1_1, or1_bb, bt_m32, ed0, ed1, ed2, ed3, ed4, et0, et1, et2, et3, et4, z2, z3, z4, z5, z6, z7, z8, z9, z10, z11]
    rw [q0, q1, q2, q3, q4, q5, q6, q7, q8, q9, q10, q11, q12, q13, q14, q15] at hsp
    omega
theorem backC_22 (p : Int) (f : Flds) (h0 : 0 ≤ p) (h1 : p < 65536) (h : instS (shortR 22) p = some f) : parC (rowC 22) f.d f.r f.t f.imm = p := by
  have hs := sum16 p h0 h1
  have hb := bt_bd p
  unfold instS at h
  rw [rd_rdB] at h
  generalize bt p = b at h hs hb
  simp [shortR, shortL, rdB, miss, rstep, badS, makeS, fieldS, eightS, cnt, immS2, immS1, hi, hiTo, hasB] at h
  split at h
  · cases h
  rename_i g hg
  simp only [Option.ite_none_right_eq_some, Option.some.injEq] at hg
  obtain ⟨c0, c1, c2, c3, c4, c5, c6, c7, c8, c9, c10, c11, c12, c13, c14, c15, hg⟩ := hg
  have gd : g.d = 0 := by subst hg; simp [pw] <;> omega
  have gr : g.r = 0 := by subst hg; simp [pw] <;> omega
  have gt : g.t = 0 := by subst hg; simp [pw] <;> omega
  have gimm : g.imm = 0 := by subst hg; simp [pw] <;> omega
  clear hg
  clear hb
  repeat' split at h
  all_goals first | (cases h; done) | skip
  all_goals
    have h := Option.some.inj h
    have hd := congrArg Flds.d h
    have hr := congrArg Flds.r h
    have ht := congrArg Flds.t h
    have hm := congrArg Flds.imm h
    clear h
    dsimp only at hd hr ht hm
    have hu := parC_u16 (row_ok (k := 22) (by decide)) f.d f.r f.t f.imm
    have hsp := sum16 _ hu.1 hu.2
    have hU : U32 (f.imm % 4294967296) := ⟨by omega, by omega⟩
    have q0 : bt (parC (rowC 22) f.d f.r f.t f.imm) 0 = 0 := by
      rw [parC_bt (row_ok (k := 22) (by decide))]
      show or1 (or1 (or1 (or1 (bt 36866 0) (bt (putP 0 f.d) 0)) (bt (putP 0 f.r) 0)) (bt (putP 0 f.t) 0)) (bt (sputC 0 f.imm) 0) = _
      rw [bput_0 f.d _ (by decide), bput_0 f.r _ (by decide), bput_0 f.t _ (by decide), sputC_bt, sput8 _ hU, show bt 36866 0 = 0 by decide]
      simp [pbP, spr, spr0, sprOf, or1_0, or1_1, or1_bb, bt_m32]
    have q1 : bt (parC (rowC 22) f.d f.r f.t f.imm) 1 = 1 := by
      rw [parC_bt (row_ok (k := 22) (by decide))]
      show or1 (or1 (or1 (or1 (bt 36866 1) (bt (putP 0 f.d) 1)) (bt (putP 0 f.r) 1)) (bt (putP 0 f.t) 1)) (bt (sputC 0 f.imm) 1) = _
      rw [bput_0 f.d _ (by decide), bput_0 f.r _ (by decide), bput_0 f.t _ (by decide), sputC_bt, sput8 _ hU, show bt 36866 1 = 1 by decide]
      simp [pbP, spr, spr0, sprOf, or1_0, or1_1, or1_bb, bt_m32]
    have q2 : bt (parC (rowC 22) f.d f.r f.t f.imm) 2 = 0 := by
      rw [parC_bt (row_ok (k := 22) (by decide))]
      show or1 (or1 (or1 (or1 (bt 36866 2) (bt (putP 0 f.d) 2)) (bt (putP 0 f.r) 2)) (bt (putP 0 f.t) 2)) (bt (sputC 0 f.imm) 2) = _
      rw [bput_0 f.d _ (by decide), bput_0 f.r _ (by decide), bput_0 f.t _ (by decide), sputC_bt, sput8 _ hU, show bt 36866 2 = 0 by decide]
      simp [pbP, spr, spr0, sprOf, or1_0, or1_1, or1_bb, bt_m32]
    have q3 : bt (parC (rowC 22) f.d f.r f.t f.imm) 3 = 0 := by
      rw [parC_bt (row_ok (k := 22) (by decide))]
      show or1 (or1 (or1 (or1 (bt 36866 3) (bt (putP 0 f.d) 3)) (bt (putP 0 f.r) 3)) (bt (putP 0 f.t) 3)) (bt (sputC 0 f.imm) 3) = _
      rw [bput_0 f.d _ (by decide), bput_0 f.r _ (by decide), bput_0 f.t _ (by decide), sputC_bt, sput8 _ hU, show bt 36866 3 = 0 by decide]
      simp [pbP, spr, spr0, sprOf, or1_0, or1_1, or1_bb, bt_m32]
    have q4 : bt (parC (rowC 22) f.d f.r f.t f.imm) 4 = 0 := by
      rw [parC_bt (row_ok (k := 22) (by decide))]
      show or1 (or1 (or1 (or1 (bt 36866 4) (bt (putP 0 f.d) 4)) (bt (putP 0 f.r) 4)) (bt (putP 0 f.t) 4)) (bt (sputC 0 f.imm) 4) = _
      rw [bput_0 f.d _ (by decide), bput_0 f.r _ (by decide), bput_0 f.t _ (by decide), sputC_bt, sput8 _ hU, show bt 36866 4 = 0 by decide]
      simp [pbP, spr, spr0, sprOf, or1_0, or1_1, or1_bb, bt_m32]
    have q5 : bt (parC (rowC 22) f.d f.r f.t f.imm) 5 = 0 := by
      rw [parC_bt (row_ok (k := 22) (by decide))]
      show or1 (or1 (or1 (or1 (bt 36866 5) (bt (putP 0 f.d) 5)) (bt (putP 0 f.r) 5)) (bt (putP 0 f.t) 5)) (bt (sputC 0 f.imm) 5) = _
      rw [bput_0 f.d _ (by decide), bput_0 f.r _ (by decide), bput_0 f.t _ (by decide), sputC_bt, sput8 _ hU, show bt 36866 5 = 0 by decide]
      simp [pbP, spr, spr0, sprOf, or1_0, or1_1, or1_bb, bt_m32]
    have q6 : bt (parC (rowC 22) f.d f.r f.t f.imm) 6 = 0 := by
      rw [parC_bt (row_ok (k := 22) (by decide))]
      show or1 (or1 (or1 (or1 (bt 36866 6) (bt (putP 0 f.d) 6)) (bt (putP 0 f.r) 6)) (bt (putP 0 f.t) 6)) (bt (sputC 0 f.imm) 6) = _
      rw [bput_0 f.d _ (by decide), bput_0 f.r _ (by decide), bput_0 f.t _ (by decide), sputC_bt, sput8 _ hU, show bt 36866 6 = 0 by decide]
      simp [pbP, spr, spr0, sprOf, or1_0, or1_1, or1_bb, bt_m32]
    have q7 : bt (parC (rowC 22) f.d f.r f.t f.imm) 7 = 0 := by
      rw [parC_bt (row_ok (k := 22) (by decide))]
      show or1 (or1 (or1 (or1 (bt 36866 7) (bt (putP 0 f.d) 7)) (bt (putP 0 f.r) 7)) (bt (putP 0 f.t) 7)) (bt (sputC 0 f.imm) 7) = _
      rw [bput_0 f.d _ (by decide), bput_0 f.r _ (by decide), bput_0 f.t _ (by decide), sputC_bt, sput8 _ hU, show bt 36866 7 = 0 by decide]
      simp [pbP, spr, spr0, sprOf, or1_0, or1_1, or1_bb, bt_m32]
    have q8 : bt (parC (rowC 22) f.d f.r f.t f.imm) 8 = 0 := by
      rw [parC_bt (row_ok (k := 22) (by decide))]
      show or1 (or1 (or1 (or1 (bt 36866 8) (bt (putP 0 f.d) 8)) (bt (putP 0 f.r) 8)) (bt (putP 0 f.t) 8)) (bt (sputC 0 f.imm) 8) = _
      rw [bput_0 f.d _ (by decide), bput_0 f.r _ (by decide), bput_0 f.t _ (by decide), sputC_bt, sput8 _ hU, show bt 36866 8 = 0 by decide]
      simp [pbP, spr, spr0, sprOf, or1_0, or1_1, or1_bb, bt_m32]
    have q9 : bt (parC (rowC 22) f.d f.r f.t f.imm) 9 = 0 := by
      rw [parC_bt (row_ok (k := 22) (by decide))]
      show or1 (or1 (or1 (or1 (bt 36866 9) (bt (putP 0 f.d) 9)) (bt (putP 0 f.r) 9)) (bt (putP 0 f.t) 9)) (bt (sputC 0 f.imm) 9) = _
      rw [bput_0 f.d _ (by decide), bput_0 f.r _ (by decide), bput_0 f.t _ (by decide), sputC_bt, sput8 _ hU, show bt 36866 9 = 0 by decide]
      simp [pbP, spr, spr0, sprOf, or1_0, or1_1, or1_bb, bt_m32]
    have q10 : bt (parC (rowC 22) f.d f.r f.t f.imm) 10 = 0 := by
      rw [parC_bt (row_ok (k := 22) (by decide))]
      show or1 (or1 (or1 (or1 (bt 36866 10) (bt (putP 0 f.d) 10)) (bt (putP 0 f.r) 10)) (bt (putP 0 f.t) 10)) (bt (sputC 0 f.imm) 10) = _
      rw [bput_0 f.d _ (by decide), bput_0 f.r _ (by decide), bput_0 f.t _ (by decide), sputC_bt, sput8 _ hU, show bt 36866 10 = 0 by decide]
      simp [pbP, spr, spr0, sprOf, or1_0, or1_1, or1_bb, bt_m32]
    have q11 : bt (parC (rowC 22) f.d f.r f.t f.imm) 11 = 0 := by
      rw [parC_bt (row_ok (k := 22) (by decide))]
      show or1 (or1 (or1 (or1 (bt 36866 11) (bt (putP 0 f.d) 11)) (bt (putP 0 f.r) 11)) (bt (putP 0 f.t) 11)) (bt (sputC 0 f.imm) 11) = _
      rw [bput_0 f.d _ (by decide), bput_0 f.r _ (by decide), bput_0 f.t _ (by decide), sputC_bt, sput8 _ hU, show bt 36866 11 = 0 by decide]
      simp [pbP, spr, spr0, sprOf, or1_0, or1_1, or1_bb, bt_m32]
    have q12 : bt (parC (rowC 22) f.d f.r f.t f.imm) 12 = 1 := by
      rw [parC_bt (row_ok (k := 22) (by decide))]
      show or1 (or1 (or1 (or1 (bt 36866 12) (bt (putP 0 f.d) 12)) (bt (putP 0 f.r) 12)) (bt (putP 0 f.t) 12)) (bt (sputC 0 f.imm) 12) = _
      rw [bput_0 f.d _ (by decide), bput_0 f.r _ (by decide), bput_0 f.t _ (by decide), sputC_bt, sput8 _ hU, show bt 36866 12 = 1 by decide]
      simp [pbP, spr, spr0, sprOf, or1_0, or1_1, or1_bb, bt_m32]
    have q13 : bt (parC (rowC 22) f.d f.r f.t f.imm) 13 = 0 := by
      rw [parC_bt (row_ok (k := 22) (by decide))]
      show or1 (or1 (or1 (or1 (bt 36866 13) (bt (putP 0 f.d) 13)) (bt (putP 0 f.r) 13)) (bt (putP 0 f.t) 13)) (bt (sputC 0 f.imm) 13) = _
      rw [bput_0 f.d _ (by decide), bput_0 f.r _ (by decide), bput_0 f.t _ (by decide), sputC_bt, sput8 _ hU, show bt 36866 13 = 0 by decide]
      simp [pbP, spr, spr0, sprOf, or1_0, or1_1, or1_bb, bt_m32]
    have q14 : bt (parC (rowC 22) f.d f.r f.t f.imm) 14 = 0 := by
      rw [parC_bt (row_ok (k := 22) (by decide))]
      show or1 (or1 (or1 (or1 (bt 36866 14) (bt (putP 0 f.d) 14)) (bt (putP 0 f.r) 14)) (bt (putP 0 f.t) 14)) (bt (sputC 0 f.imm) 14) = _
      rw [bput_0 f.d _ (by decide), bput_0 f.r _ (by decide), bput_0 f.t _ (by decide), sputC_bt, sput8 _ hU, show bt 36866 14 = 0 by decide]
      simp [pbP, spr, spr0, sprOf, or1_0, or1_1, or1_bb, bt_m32]
    have q15 : bt (parC (rowC 22) f.d f.r f.t f.imm) 15 = 1 := by
      rw [parC_bt (row_ok (k := 22) (by decide))]
      show or1 (or1 (or1 (or1 (bt 36866 15) (bt (putP 0 f.d) 15)) (bt (putP 0 f.r) 15)) (bt (putP 0 f.t) 15)) (bt (sputC 0 f.imm) 15) = _
      rw [bput_0 f.d _ (by decide), bput_0 f.r _ (by decide), bput_0 f.t _ (by decide), sputC_bt, sput8 _ hU, show bt 36866 15 = 1 by decide]
      simp [pbP, spr, spr0, sprOf, or1_0, or1_1, or1_bb, bt_m32]
    rw [q0, q1, q2, q3, q4, q5, q6, q7, q8, q9, q10, q11, q12, q13, q14, q15] at hsp
    omega
theorem backC_23 (p : Int) (f : Flds) (h0 : 0 ≤ p) (h1 : p < 65536) (h : instS (shortR 23) p = some f) : parC (rowC 23) f.d f.r f.t f.imm = p := by
  have hs := sum16 p h0 h1
  have hb := bt_bd p
  unfold instS at h
  rw [rd_rdB] at h
  generalize bt p = b at h hs hb
  simp [shortR, shortL, rdB, miss, rstep, badS, makeS, fieldS, eightS, cnt, immS2, immS1, hi, hiTo, hasB] at h
  split at h
  · cases h
  rename_i g hg
  simp only [Option.ite_none_right_eq_some, Option.some.injEq] at hg
  obtain ⟨c0, c1, c2, c3, c4, c5, c6, c7, c8, c9, c10, hg⟩ := hg
  have gd : g.d = 0 := by subst hg; simp [pw] <;> omega
  have gr : g.r = 1 * b 7 + 2 * b 8 + 4 * b 9 + 8 * b 10 + 16 * b 11 := by subst hg; simp [pw] <;> omega
  have gt : g.t = 0 := by subst hg; simp [pw] <;> omega
  have gimm : g.imm = 0 := by subst hg; simp [pw] <;> omega
  clear hg
  have B7 := hb 7
  have B8 := hb 8
  have B9 := hb 9
  have B10 := hb 10
  have B11 := hb 11
  clear hb
  repeat' split at h
  all_goals first | (cases h; done) | skip
  all_goals
    have h := Option.some.inj h
    have hd := congrArg Flds.d h
    have hr := congrArg Flds.r h
    have ht := congrArg Flds.t h
    have hm := congrArg Flds.imm h
    clear h
    dsimp only at hd hr ht hm
    have er0 : bt f.r 0 = b 7 := bt_at (A := 0) (C := 1 * b 8 + 2 * b 9 + 4 * b 10 + 8 * b 11) 0 (by decide) (by decide : pw 0 = 1) (by omega) (by omega) (by omega) B7
    have er1 : bt f.r 1 = b 8 := bt_at (A := 1 * b 7) (C := 1 * b 9 + 2 * b 10 + 4 * b 11) 1 (by decide) (by decide : pw 1 = 2) (by omega) (by omega) (by omega) B8
    have er2 : bt f.r 2 = b 9 := bt_at (A := 1 * b 7 + 2 * b 8) (C := 1 * b 10 + 2 * b 11) 2 (by decide) (by decide : pw 2 = 4) (by omega) (by omega) (by omega) B9
    have er3 : bt f.r 3 = b 10 := bt_at (A := 1 * b 7 + 2 * b 8 + 4 * b 9) (C := 1 * b 11) 3 (by decide) (by decide : pw 3 = 8) (by omega) (by omega) (by omega) B10
    have er4 : bt f.r 4 = b 11 := bt_at (A := 1 * b 7 + 2 * b 8 + 4 * b 9 + 8 * b 10) (C := 0) 4 (by decide) (by decide : pw 4 = 16) (by omega) (by omega) (by omega) B11
    have hu := parC_u16 (row_ok (k := 23) (by decide)) f.d f.r f.t f.imm
    have hsp := sum16 _ hu.1 hu.2
    have hU : U32 (f.imm % 4294967296) := ⟨by omega, by omega⟩
    have z7 : or1 (b 7) 0 = b 7 := or1_b0 B7
    have z8 : or1 (b 8) 0 = b 8 := or1_b0 B8
    have z9 : or1 (b 9) 0 = b 9 := or1_b0 B9
    have z10 : or1 (b 10) 0 = b 10 := or1_b0 B10
    have z11 : or1 (b 11) 0 = b 11 := or1_b0 B11
    have q0 : bt (parC (rowC 23) f.d f.r f.t f.imm) 0 = 0 := by
      rw [parC_bt (row_ok (k := 23) (by decide))]
      show or1 (or1 (or1 (or1 (bt 36866 0) (bt (putP 1 f.d) 0)) (bt (putP 3 f.r) 0)) (bt (putP 0 f.t) 0)) (bt (sputC 0 f.imm) 0) = _
      rw [bput_1 f.d _ (by decide), bput_3 f.r _ (by decide), bput_0 f.t _ (by decide), sputC_bt, sput8 _ hU, show bt 36866 0 = 0 by decide]
      simp [pbP, spr, spr0, sprOf, or1_0, or1_1, or1_bb, bt_m32, er0, er1, er2, er3, er4, z7, z8, z9, z10, z11]
    have q1 : bt (parC (rowC 23) f.d f.r f.t f.imm) 1 = 1 := by
      rw [parC_bt (row_ok (k := 23) (by decide))]
      show or1 (or1 (or1 (or1 (bt 36866 1) (bt (putP 1 f.d) 1)) (bt (putP 3 f.r) 1)) (bt (putP 0 f.t) 1)) (bt (sputC 0 f.imm) 1) = _
      rw [bput_1 f.d _ (by decide), bput_3 f.r _ (by decide), bput_0 f.t _ (by decide), sputC_bt, sput8 _ hU, show bt 36866 1 = 1 by decide]
      simp [pbP, spr, spr0, sprOf, or1_0, or1_1, or1_bb, bt_m32, er0, er1, er2, er3, er4, z7, z8, z9, z10, z11]
    have q2 : bt (parC (rowC 23) f.d f.r f.t f.imm) 2 = 0 := by
      rw [parC_bt (row_ok (k := 23) (by decide))]
      show or1 (or1 (or1 (or1 (bt 36866 2) (bt (putP 1 f.d) 2)) (bt (putP 3 f.r) 2)) (bt (putP 0 f.t) 2)) (bt (sputC 0 f.imm) 2) = _
      rw [bput_1 f.d _ (by decide), bput_3 f.r _ (by decide), bput_0 f.t _ (by decide), sputC_bt, sput8 _ hU, show bt 36866 2 = 0 by decide]
      simp [pbP, spr, spr0, sprOf, or1_0, or1_1, or1_bb, bt_m32, er0, er1, er2, er3, er4, z7, z8, z9, z10, z11]
    have q3 : bt (parC (rowC 23) f.d f.r f.t f.imm) 3 = 0 := by
      rw [parC_bt (row_ok (k := 23) (by decide))]
      show or1 (or1 (or1 (or1 (bt 36866 3) (bt (putP 1 f.d) 3)) (bt (putP 3 f.r) 3)) (bt (putP 0 f.t) 3)) (bt (sputC 0 f.imm) 3) = _
      rw [bput_1 f.d _ (by decide), bput_3 f.r _ (by decide), bput_0 f.t _ (by decide), sputC_bt, sput8 _ hU, show bt 36866 3 = 0 by decide]
      simp [pbP, spr, spr0, sprOf, or1_0, or1_1, or1_bb, bt_m32, er0, er1, er2, er3, er4, z7, z8, z9, z10, z11]
    have q4 : bt (parC (rowC 23) f.d f.r f.t f.imm) 4 = 0 := by
      rw [parC_bt (row_ok (k := 23) (by decide))]
      show or1 (or1 (or1 (or1 (bt 36866 4) (bt (putP 1 f.d) 4)) (bt (putP 3 f.r) 4)) (bt (putP 0 f.t) 4)) (bt (sputC 0 f.imm) 4) = _
      rw [bput_1 f.d _ (by decide), bput_3 f.r _ (by decide), bput_0 f.t _ (by decide), sputC_bt, sput8 _ hU, show bt 36866 4 = 0 by decide]
      simp [pbP, spr, spr0, sprOf, or1_0, or1_1, or1_bb, bt_m32, er0, er1, er2, er3, er4, z7, z8, z9, z10, z11]
    have q5 : bt (parC (rowC 23) f.d f.r f.t f.imm) 5 = 0 := by
      rw [parC_bt (row_ok (k := 23) (by decide))]
      show or1 (or1 (or1 (or1 (bt 36866 5) (bt (putP 1 f.d) 5)) (bt (putP 3 f.r) 5)) (bt (putP 0 f.t) 5)) (bt (sputC 0 f.imm) 5) = _
      rw [bput_1 f.d _ (by decide), bput_3 f.r _ (by decide), bput_0 f.t _ (by decide), sputC_bt, sput8 _ hU, show bt 36866 5 = 0 by decide]
      simp [pbP, spr, spr0, sprOf, or1_0, or1_1, or1_bb, bt_m32, er0, er1, er2, er3, er4, z7, z8, z9, z10, z11]
    have q6 : bt (parC (rowC 23) f.d f.r f.t f.imm) 6 = 0 := by
      rw [parC_bt (row_ok (k := 23) (by decide))]
      show or1 (or1 (or1 (or1 (bt 36866 6) (bt (putP 1 f.d) 6)) (bt (putP 3 f.r) 6)) (bt (putP 0 f.t) 6)) (bt (sputC 0 f.imm) 6) = _
      rw [bput_1 f.d _ (by decide), bput_3 f.r _ (by decide), bput_0 f.t _ (by decide), sputC_bt, sput8 _ hU, show bt 36866 6 = 0 by decide]
      simp [pbP, spr, spr0, sprOf, or1_0, or1_1, or1_bb, bt_m32, er0, er1, er2, er3, er4, z7, z8, z9, z10, z11]
    have q7 : bt (parC (rowC 23) f.d f.r f.t f.imm) 7 = b 7 := by
      rw [parC_bt (row_ok (k := 23) (by decide))]
      show or1 (or1 (or1 (or1 (bt 36866 7) (bt (putP 1 f.d) 7)) (bt (putP 3 f.r) 7)) (bt (putP 0 f.t) 7)) (bt (sputC 0 f.imm) 7) = _
      rw [bput_1 f.d _ (by decide), bput_3 f.r _ (by decide), bput_0 f.t _ (by decide), sputC_bt, sput8 _ hU, show bt 36866 7 = 0 by decide]
      simp [pbP, spr, spr0, sprOf, or1_0, or1_1, or1_bb, bt_m32, er0, er1, er2, er3, er4, z7, z8, z9, z10, z11]
    have q8 : bt (parC (rowC 23) f.d f.r f.t f.imm) 8 = b 8 := by
      rw [parC_bt (row_ok (k := 23) (by decide))]
      show or1 (or1 (or1 (or1 (bt 36866 8) (bt (putP 1 f.d) 8)) (bt (putP 3 f.r) 8)) (bt (putP 0 f.t) 8)) (bt (sputC 0 f.imm) 8) = _
      rw [bput_1 f.d _ (by decide), bput_3 f.r _ (by decide), bput_0 f.t _ (by decide), sputC_bt, sput8 _ hU, show bt 36866 8 = 0 by decide]
      simp [pbP, spr, spr0, sprOf, or1_0, or1_1, or1_bb, bt_m32, er0, er1, er2, er3, er4, z7, z8, z9, z10, z11]
    have q9 : bt (parC (rowC 23) f.d f.r f.t f.imm) 9 = b 9 := by
      rw [parC_bt (row_ok (k := 23) (by decide))]
      show or1 (or1 (or1 (or1 (bt 36866 9) (bt (putP 1 f.d) 9)) (bt (putP 3 f.r) 9)) (bt (putP 0 f.t) 9)) (bt (sputC 0 f.imm) 9) = _
      rw [bput_1 f.d _ (by decide), bput_3 f.r _ (by decide), bput_0 f.t _ (by decide), sputC_bt, sput8 _ hU, show bt 36866 9 = 0 by decide]
      simp [pbP, spr, spr0, sprOf, or1_0, or1_1, or1_bb, bt_m32, er0, er1, er2, er3, er4, z7, z8, z9, z10, z11]
    have q10 : bt (parC (rowC 23) f.d f.r f.t f.imm) 10 = b 10 := by
      rw [parC_bt (row_ok (k := 23) (by decide))]
      show or1 (or1 (or1 (or1 (bt 36866 10) (bt (putP 1 f.d) 10)) (bt (putP 3 f.r) 10)) (bt (putP 0 f.t) 10)) (bt (sputC 0 f.imm) 10) = _
      rw [bput_1 f.d _ (by decide), bput_3 f.r _ (by decide), bput_0 f.t _ (by decide), sputC_bt, sput8 _ hU, show bt 36866 10 = 0 by decide]
      simp [pbP, spr, spr0, sprOf, or1_0, or1_1, or1_bb, bt_m32, er0, er1, er2, er3, er4, z7, z8, z9, z10, z11]
    have q11 : bt (parC (rowC 23) f.d f.r f.t f.imm) 11 = b 11 := by
      rw [parC_bt (row_ok (k := 23) (by decide))]
      show or1 (or1 (or1 (or1 (bt 36866 11) (bt (putP 1 f.d) 11)) (bt (putP 3 f.r) 11)) (bt (putP 0 f.t) 11)) (bt (sputC 0 f.imm) 11) = _
      rw [bput_1 f.d _ (by decide), bput_3 f.r _ (by decide), bput_0 f.t _ (by decide), sputC_bt, sput8 _ hU, show bt 36866 11 = 0 by decide]
      simp [pbP, spr, spr0, sprOf, or1_0, or1_1, or1_bb, bt_m32, er0, er1, er2, er3, er4, z7, z8, z9, z10, z11]
    have q12 : bt (parC (rowC 23) f.d f.r f.t f.imm) 12 = 1 := by
      rw [parC_bt (row_ok (k := 23) (by decide))]
      show or1 (or1 (or1 (or1 (bt 36866 12) (bt (putP 1 f.d) 12)) (bt (putP 3 f.r) 12)) (bt (putP 0 f.t) 12)) (bt (sputC 0 f.imm) 12) = _
      rw [bput_1 f.d _ (by decide), bput_3 f.r _ (by decide), bput_0 f.t _ (by decide), sputC_bt, sput8 _ hU, show bt 36866 12 = 1 by decide]
      simp [pbP, spr, spr0, sprOf, or1_0, or1_1, or1_bb, bt_m32, er0, er1, er2, er3, er4, z7, z8, z9, z10, z11]
    have q13 : bt (parC (rowC 23) f.d f.r f.t f.imm) 13 = 0 := by
      rw [parC_bt (row_ok (k := 23) (by decide))]
      show or1 (or1 (or1 (or1 (bt 36866 13) (bt (putP 1 f.d) 13)) (bt (putP 3 f.r) 13)) (bt (putP 0 f.t) 13)) (bt (sputC 0 f.imm) 13) = _
      rw [bput_1 f.d _ (by decide), bput_3 f.r _ (by decide), bput_0 f.t _ (by decide), sputC_bt, sput8 _ hU, show bt 36866 13 = 0 by decide]
      simp [pbP, spr, spr0, sprOf, or1_0, or1_1, or1_bb, bt_m32, er0, er1, er2, er3, er4, z7, z8, z9, z10, z11]
    have q14 : bt (parC (rowC 23) f.d f.r f.t f.imm) 14 = 0 := by
      rw [parC_bt (row_ok (k := 23) (by decide))]
      show or1 (or1 (or1 (or1 (bt 36866 14) (bt (putP 1 f.d) 14)) (bt (putP 3 f.r) 14)) (bt (putP 0 f.t) 14)) (bt (sputC 0 f.imm) 14) = _
      rw [bput_1 f.d _ (by decide), bput_3 f.r _ (by decide), bput_0 f.t _ (by decide), sputC_bt, sput8 _ hU, show bt 36866 14 = 0 by decide]
      simp [pbP, spr, spr0, sprOf, or1_0, or1_1, or1_bb, bt_m32, er0, er1, er2, er3, er4, z7, z8, z9, z10, z11]
    have q15 : bt (parC (rowC 23) f.d f.r f.t f.imm) 15 = 1 := by
      rw [parC_bt (row_ok (k := 23) (by decide))]
      show or1 (or1 (or1 (or1 (bt 36866 15) (bt (putP 1 f.d) 15)) (bt (putP 3 f.r) 15)) (bt (putP 0 f.t) 15)) (bt (sputC 0 f.imm) 15) = _
      rw [bput_1 f.d _ (by decide), bput_3 f.r _ (by decide), bput_0 f.t _ (by decide), sputC_bt, sput8 _ hU, show bt 36866 15 = 1 by decide]
      simp [pbP, spr, spr0, sprOf, or1_0, or1_1, or1_bb, bt_m32, er0, er1, er2, er3, er4, z7, z8, z9, z10, z11]
    rw [q0, q1, q2, q3, q4, q5, q6, q7, q8, q9, q10, q11, q12, q13, q14, q15] at hsp
    omega
theorem backC_24 (p : Int) (f : Flds) (h0 : 0 ≤ p) (h1 : p < 65536) (h : instS (shortR 24) p = some f) : parC (rowC 24) f.d f.r f.t f.imm = p := by
  have hs := sum16 p h0 h1
  have hb := bt_bd p
  unfold instS at h
  rw [rd_rdB] at h
  generalize bt p = b at h hs hb
  simp [shortR, shortL, rdB, miss, rstep, badS, makeS, fieldS, eightS, cnt, immS2, immS1, hi, hiTo, hasB] at h
  split at h
  · cases h
  rename_i g hg
  simp only [Option.ite_none_right_eq_some, Option.some.injEq] at hg
  obtain ⟨c0, c1, c2, c3, c4, c5, hg⟩ := hg
  have gd : g.d = 1 * b 7 + 2 * b 8 + 4 * b 9 + 8 * b 10 + 16 * b 11 := by subst hg; simp [pw] <;> omega
  have gr : g.r = 0 := by subst hg; simp [pw] <;> omega
  have gt : g.t = 1 * b 2 + 2 * b 3 + 4 * b 4 + 8 * b 5 + 16 * b 6 := by subst hg; simp [pw] <;> omega
  have gimm : g.imm = 0 := by subst hg; simp [pw] <;> omega
  clear hg
  have B2 := hb 2
  have B3 := hb 3
  have B4 := hb 4
  have B5 := hb 5
  have B6 := hb 6
  have B7 := hb 7
  have B8 := hb 8
  have B9 := hb 9
  have B10 := hb 10
  have B11 := hb 11
  clear hb
  repeat' split at h
  all_goals first | (cases h; done) | skip
  all_goals
    have h := Option.some.inj h
    have hd := congrArg Flds.d h
    have hr := congrArg Flds.r h
    have ht := congrArg Flds.t h
    have hm := congrArg Flds.imm h
    clear h
    dsimp only at hd hr ht hm
    have ed0 : bt f.d 0 = b 7 := bt_at (A := 0) (C := 1 * b 8 + 2 * b 9 + 4 * b 10 + 8 * b 11) 0 (by decide) (by decide : pw 0 = 1) (by omega) (by omega) (by omega) B7
    have ed1 : bt f.d 1 = b 8 := bt_at (A := 1 * b 7) (C := 1 * b 9 + 2 * b 10 + 4 * b 11) 1 (by decide) (by decide : pw 1 = 2) (by omega) (by omega) (by omega) B8
    have ed2 : bt f.d 2 = b 9 := bt_at (A := 1 * b 7 + 2 * b 8) (C := 1 * b 10 + 2 * b 11) 2 (by decide) (by decide : pw 2 = 4) (by omega) (by omega) (by omega) B9
    have ed3 : bt f.d 3 = b 10 := bt_at (A := 1 * b 7 + 2 * b 8 + 4 * b 9) (C := 1 * b 11) 3 (by decide) (by decide : pw 3 = 8) (by omega) (by omega) (by omega) B10
    have ed4 : bt f.d 4 = b 11 := bt_at (A := 1 * b 7 + 2 * b 8 + 4 * b 9 + 8 * b 10) (C := 0) 4 (by decide) (by decide : pw 4 = 16) (by omega) (by omega) (by omega) B11
    have et0 : bt f.t 0 = b 2 := bt_at (A := 0) (C := 1 * b 3 + 2 * b 4 + 4 * b 5 + 8 * b 6) 0 (by decide) (by decide : pw 0 = 1) (by omega) (by omega) (by omega) B2
    have et1 : bt f.t 1 = b 3 := bt_at (A := 1 * b 2) (C := 1 * b 4 + 2 * b 5 + 4 * b 6) 1 (by decide) (by decide : pw 1 = 2) (by omega) (by omega) (by omega) B3
    have et2 : bt f.t 2 = b 4 := bt_at (A := 1 * b 2 + 2 * b 3) (C := 1 * b 5 + 2 * b 6) 2 (by decide) (by decide : pw 2 = 4) (by omega) (by omega) (by omega) B4
    have et3 : bt f.t 3 = b 5 := bt_at (A := 1 * b 2 + 2 * b 3 + 4 * b 4) (C := 1 * b 6) 3 (by decide) (by decide : pw 3 = 8) (by omega) (by omega) (by omega) B5
    have et4 : bt f.t 4 = b 6 := bt_at (A := 1 * b 2 + 2 * b 3 + 4 * b 4 + 8 * b 5) (C := 0) 4 (by decide) (by decide : pw 4 = 16) (by omega) (by omega) (by omega) B6
    have hu := parC_u16 (row_ok (k := 24) (by decide)) f.d f.r f.t f.imm
    have hsp := sum16 _ hu.1 hu.2
    have hU : U32 (f.imm % 4294967296) := ⟨by omega, by omega⟩
    have hrd : f.r = f.d := by omega
    have z2 : or1 (b 2) 0 = b 2 := or1_b0 B2
    have z3 : or1 (b 3) 0 = b 3 := or1_b0 B3
    have z4 : or1 (b 4) 0 = b 4 := or1_b0 B4
    have z5 : or1 (b 5) 0 = b 5 := or1_b0 B5
    have z6 : or1 (b 6) 0 = b 6 := or1_b0 B6
    have z7 : or1 (b 7) 0 = b 7 := or1_b0 B7
    have z8 : or1 (b 8) 0 = b 8 := or1_b0 B8
    have z9 : or1 (b 9) 0 = b 9 := or1_b0 B9
    have z10 : or1 (b 10) 0 = b 10 := or1_b0 B10
    have z11 : or1 (b 11) 0 = b 11 := or1_b0 B11
    have q0 : bt (parC (rowC 24) f.d f.r f.t f.imm) 0 = 0 := by
      rw [parC_bt (row_ok (k := 24) (by decide))]
      show or1 (or1 (or1 (or1 (bt 36866 0) (bt (putP 3 f.d) 0)) (bt (putP 3 f.r) 0)) (bt (putP 4 f.t) 0)) (bt (sputC 0 f.imm) 0) = _
      rw [bput_3 f.d _ (by decide), bput_3 f.r _ (by decide), bput_4 f.t _ (by decide), sputC_bt, sput8 _ hU, show bt 36866 0 = 0 by decide]
      simp [pbP, spr, spr0, sprOf, or1_0, or1_1, or1_bb, bt_m32, hrd, ed0, ed1, ed2, ed3, ed4, et0, et1, et2, et3, et4, z2, z3, z4, z5, z6, z7, z8, z9, z10, z11]
    have q1 : bt (parC (rowC 24) f.d f.r f.t f.imm) 1 = 1 := by
      rw [parC_bt (row_ok (k := 24) (by decide))]
      show or1 (or1 (or1 (or1 (bt 36866 1) (bt (putP 3 f.d) 1)) (bt (putP 3 f.r) 1)) (bt (putP 4 f.t) 1)) (bt (sputC 0 f.imm) 1) = _
      rw [bput_3 f.d _ (by decide), bput_3 f.r _ (by decide), bput_4 f.t _ (by decide), sputC_bt, sput8 _ hU, show bt 36866 1 = 1 by decide]
      simp [pbP, spr, spr0, sprOf, or1_0, or1_1, or1_bb, bt_m32, hrd, ed0, ed1, ed2, ed3, ed4, et0, et1, et2, et3, et4, z2, z3, z4, z5, z6, z7, z8, z9, z10, z11]
    have q2 : bt (parC (rowC 24) f.d f.r f.t f.imm) 2 = b 2 := by
      rw [parC_bt (row_ok (k := 24) (by decide))]
      show or1 (or1 (or1 (or1 (bt 36866 2) (bt (putP 3 f.d) 2)) (bt (putP 3 f.r) 2)) (bt (putP 4 f.t) 2)) (bt (sputC 0 f.imm) 2) = _
      rw [bput_3 f.d _ (by decide), bput_3 f.r _ (by decide), bput_4 f.t _ (by decide), sputC_bt, sput8 _ hU, show bt 36866 2 = 0 by decide]
      simp [pbP, spr, spr0, sprOf, or1_0, or1_1, or1_bb, bt_m32, hrd, ed0, ed1, ed2, ed3, ed4, et0, et1, et2, et3, et4, z2, z3, z4, z5, z6, z7, z8, z9, z10, z11]
    have q3 : bt (parC (rowC 24) f.d f.r f.t f.imm) 3 = b 3 := by
      rw [parC_bt (row_ok (k := 24) (by decide))]
      show or1 (or1 (or1 (or1 (bt 36866 3) (bt (putP 3 f.d) 3)) (bt (putP 3 f.r) 3)) (bt (putP 4 f.t) 3)) (bt (sputC 0 f.imm) 3) = _
      rw [bput_3 f.d _ (by decide), bput_3 f.r _ (by decide), bput_4 f.t _ (by decide), sputC_bt, sput8 _ hU, show bt 36866 3 = 0 by decide]
      simp [pbP, spr, spr0, sprOf, or1_0, or1_1, or1_bb, bt_m32, hrd, ed0, ed1, ed2, ed3, ed4, et0, et1, et2, et3, et4, z2, z3, z4, z5, z6, z7, z8, z9, z10, z11]
    have q4 : bt (parC (rowC 24) f.d f.r f.t f.imm) 4 = b 4 := by
      rw [parC_bt (row_ok (k := 24) (by decide))]
      show or1 (or1 (or1 (or1 (bt 36866 4) (bt (putP 3 f.d) 4)) (bt (putP 3 f.r) 4)) (bt (putP 4 f.t) 4)) (bt (sputC 0 f.imm) 4) = _
      rw [bput_3 f.d _ (by decide), bput_3 f.r _ (by decide), bput_4 f.t _ (by decide), sputC_bt, sput8 _ hU, show bt 36866 4 = 0 by decide]
      simp [pbP, spr, spr0, sprOf, or1_0, or1_1, or1_bb, bt_m32, hrd, ed0, ed1, ed2, ed3, ed4, et0, et1, et2, et3, et4, z2, z3, z4, z5, z6, z7, z8, z9, z10, z11]
    have q5 : bt (parC (rowC 24) f.d f.r f.t f.imm) 5 = b 5 := by
      rw [parC_bt (row_ok (k := 24) (by decide))]
      show or1 (or1 (or1 (or1 (bt 36866 5) (bt (putP 3 f.d) 5)) (bt (putP 3 f.r) 5)) (bt (putP 4 f.t) 5)) (bt (sputC 0 f.imm) 5) = _
      rw [bput_3 f.d _ (by decide), bput_3 f.r _ (by decide), bput_4 f.t _ (by decide), sputC_bt, sput8 _ hU, show bt 36866 5 = 0 by decide]
      simp [pbP, spr, spr0, sprOf, or1_0, or1_1, or1_bb, bt_m32, hrd, ed0, ed1, ed2, ed3, ed4, et0, et1, et2, et3, et4, z2, z3, z4, z5, z6, z7, z8, z9, z10, z11]
    have q6 : bt (parC (rowC 24) f.d f.r f.t f.imm) 6 = b 6 := by
      rw [parC_bt (row_ok (k := 24) (by decide))]
      show or1 (or1 (or1 (or1 (bt 36866 6) (bt (putP 3 f.d) 6)) (bt (putP 3 f.r) 6)) (bt (putP 4 f.t) 6)) (bt (sputC 0 f.imm) 6) = _
      rw [bput_3 f.d _ (by decide), bput_3 f.r _ (by decide), bput_4 f.t _ (by decide), sputC_bt, sput8 _ hU, show bt 36866 6 = 0 by decide]
      simp [pbP, spr, spr0, sprOf, or1_0, or1_1, or1_bb, bt_m32, hrd, ed0, ed1, ed2, ed3, ed4, et0, et1, et2, et3, et4, z2, z3, z4, z5, z6, z7, z8, z9, z10, z11]
    have q7 : bt (parC (rowC 24) f.d f.r f.t f.imm) 7 = b 7 := by
      rw [parC_bt (row_ok (k := 24) (by decide))]
      show or1 (or1 (or1 (or1 (bt 36866 7) (bt (putP 3 f.d) 7)) (bt (putP 3 f.r) 7)) (bt (putP 4 f.t) 7)) (bt (sputC 0 f.imm) 7) = _
      rw [bput_3 f.d _ (by decide), bput_3 f.r _ (by decide), bput_4 f.t _ (by decide), sputC_bt, sput8 _ hU, show bt 36866 7 = 0 by decide]
      simp [pbP, spr, spr0, sprOf, or1_0, or1_1, or1_bb, bt_m32, hrd, ed0, ed1, ed2, ed3, ed4, et0, et1, et2, et3, et4, z2, z3, z4, z5, z6, z7, z8, z9, z10, z11]
    have q8 : bt (parC (rowC 24) f.d f.r f.t f.imm) 8 = b 8 := by
      rw [parC_bt (row_ok (k := 24) (by decide))]
      show or1 (or1 (or1 (or1 (bt 36866 8) (bt (putP 3 f.d) 8)) (bt (putP 3 f.r) 8)) (bt (putP 4 f.t) 8)) (bt (sputC 0 f.imm) 8) = _
      rw [bput_3 f.d _ (by decide), bput_3 f.r _ (by decide), bput_4 f.t _ (by decide), sputC_bt, sput8 _ hU, show bt 36866 8 = 0 by decide]
      simp [pbP, spr, spr0, sprOf, or1_0, or1_1, or1_bb, bt_m32, hrd, ed0, ed1, ed2, ed3, ed4, et0, et1, et2, et3, et4, z2, z3, z4, z5, z6, z7, z8, z9, z10, z11]
    have q9 : bt (parC (rowC 24) f.d f.r f.t f.imm) 9 = b 9 := by
      rw [parC_bt (row_ok (k := 24) (by decide))]
      show or1 (or1 (or1 (or1 (bt 36866 9) (bt (putP 3 f.d) 9)) (bt (putP 3 f.r) 9)) (bt (putP 4 f.t) 9)) (bt (sputC 0 f.imm) 9) = _
      rw [bput_3 f.d _ (by decide), bput_3 f.r _ (by decide), bput_4 f.t _ (by decide), sputC_bt, sput8 _ hU, show bt 36866 9 = 0 by decide]
      simp [pbP, spr, spr0, sprOf, or1_0, or1_1, or1_bb, bt_m32, hrd, ed0, ed1, ed2, ed3, ed4, et0, et1, et2, et3, et4, z2, z3, z4, z5, z6, z7, z8, z9, z10, z11]
    have q10 : bt (parC (rowC 24) f.d f.r f.t f.imm) 10 = b 10 := by
      rw [parC_bt (row_ok (k := 24) (by decide))]
      show or1 (or1 (or1 (or1 (bt 36866 10) (bt (putP 3 f.d) 10)) (bt (putP 3 f.r) 10)) (bt (putP 4 f.t) 10)) (bt (sputC 0 f.imm) 10) = _
      rw [bput_3 f.d _ (by decide), bput_3 f.r _ (by decide), bput_4 f.t _ (by decide), sputC_bt, sput8 _ hU, show bt 36866 10 = 0 by decide]
      simp [pbP, spr, spr0, sprOf, or1_0, or1_1, or1_bb, bt_m32, hrd, ed0, ed1, ed2, ed3, ed4, et0, et1, et2, et3, et4, z2, z3, z4, z5, z6, z7, z8, z9, z10, z11]
    have q11 : bt (parC (rowC 24) f.d f.r f.t f.imm) 11 = b 11 := by
      rw [parC_bt (row_ok (k := 24) (by decide))]
      show or1 (or1 (or1 (or1 (bt 36866 11) (bt (putP 3 f.d) 11)) (bt (putP 3 f.r) 11)) (bt (putP 4 f.t) 11)) (bt (sputC 0 f.imm) 11) = _
      rw [bput_3 f.d _ (by decide), bput_3 f.r _ (by decide), bput_4 f.t _ (by decide), sputC_bt, sput8 _ hU, show bt 36866 11 = 0 by decide]
      simp [pbP, spr, spr0, sprOf, or1_0, or1_1, or1_bb, bt_m32, hrd, ed0, ed1, ed2, ed3, ed4, et0, et1, et2, et3, et4, z2, z3, z4, z5, z6, z7, z8, z9, z10, z11]
    have q12 : bt (parC (rowC 24) f.d f.r f.t f.imm) 12 = 1 := by
      rw [parC_bt (row_ok (k := 24) (by decide))]
      show or1 (or1 (or1 (or1 (bt 36866 12) (bt (putP 3 f.d) 12)) (bt (putP 3 f.r) 12)) (bt (putP 4 f.t) 12)) (bt (sputC 0 f.imm) 12) = _
      rw [bput_3 f.d _ (by decide), bput_3 f.r _ (by decide), bput_4 f.t _ (by decide), sputC_bt, sput8 _ hU, show bt 36866 12 = 1 by decide]
      simp [pbP, spr, spr0, sprOf, or1_0, or1_1, or1_bb, bt_m32, hrd, ed0, ed1, ed2, ed3, ed4, et0, et1, et2, et3, et4, z2, z3, z4, z5, z6, z7, z8, z9, z10, z11]
    have q13 : bt (parC (rowC 24) f.d f.r f.t f.imm) 13 = 0 := by
      rw [parC_bt (row_ok (k := 24) (by decide))]
      show or1 (or1 (or1 (or1 (bt 36866 13) (bt (putP 3 f.d) 13)) (bt (putP 3 f.r) 13)) (bt (putP 4 f.t) 13)) (bt (sputC 0 f.imm) 13) = _
      rw [bput_3 f.d _ (by decide), bput_3 f.r _ (by decide), bput_4 f.t _ (by decide), sputC_bt, sput8 _ hU, show bt 36866 13 = 0 by decide]
      simp [pbP, spr, spr0, sprOf, or1_0, or1_1, or1_bb, bt_m32, hrd, ed0, ed1, ed2, ed3, ed4, et0, et1, et2, et3, et4, z2, z3, z4, z5, z6, z7, z8, z9, z10, z11]
    have q14 : bt (parC (rowC 24) f.d f.r f.t f.imm) 14 = 0 := by
      rw [parC_bt (row_ok (k := 24) (by decide))]
      show or1 (or1 (or1 (or1 (bt 36866 14) (bt (putP 3 f.d) 14)) (bt (putP 3 f.r) 14)) (bt (putP 4 f.t) 14)) (bt (sputC 0 f.imm) 14) = _
      rw [bput_3 f.d _ (by decide), bput_3 f.r _ (by decide), bput_4 f.t _ (by decide), sputC_bt, sput8 _ hU, show bt 36866 14 = 0 by decide]
      simp [pbP, spr, spr0, sprOf, or1_0, or1_1, or1_bb, bt_m32, hrd, ed0, ed1, ed2, ed3, ed4, et0, et1, et2, et3, et4, z2, z3, z4, z5, z6, z7, z8, z9, z10, z11]
    have q15 : bt (parC (rowC 24) f.d f.r f.t f.imm) 15 = 1 := by
      rw [parC_bt (row_ok (k := 24) (by decide))]
      show or1 (or1 (or1 (or1 (bt 36866 15) (bt (putP 3 f.d) 15)) (bt (putP 3 f.r) 15)) (bt (putP 4 f.t) 15)) (bt (sputC 0 f.imm) 15) = _
      rw [bput_3 f.d _ (by decide), bput_3 f.r _ (by decide), bput_4 f.t _ (by decide), sputC_bt, sput8 _ hU, show bt 36866 15 = 1 by decide]
      simp [pbP, spr, spr0, sprOf, or1_0, or1_1, or1_bb, bt_m32, hrd, ed0, ed1, ed2, ed3, ed4, et0, et1, et2, et3, et4, z2, z3, z4, z5, z6, z7, z8, z9, z10, z11]
    rw [q0, q1, q2, q3, q4, q5, q6, q7, q8, q9, q10, q11, q12, q13, q14, q15] at hsp
    omega
theorem backC_25 (p : Int) (f : Flds) (h0 : 0 ≤ p) (h1 : p < 65536) (h : instS (shortR 25) p = some f) : parC (rowC 25) f.d f.r f.t f.imm = p := by
  have hs := sum16 p h0 h1
  have hb := bt_bd p
  unfold instS at h
  rw [rd_rdB] at h
  generalize bt p = b at h hs hb
  simp [shortR, shortL, rdB, miss, rstep, badS, makeS, fieldS, eightS, cnt, immS2, immS1, hi, hiTo, hasB] at h
  split at h
  · cases h
  rename_i g hg
  simp only [Option.ite_none_right_eq_some, Option.some.injEq] at hg
  obtain ⟨c0, c1, c2, c3, c4, hg⟩ := hg
  have gd : g.d = 0 := by subst hg; simp [pw] <;> omega
  have gr : g.r = 0 := by subst hg; simp [pw] <;> omega
  have gt : g.t = 1 * b 2 + 2 * b 3 + 4 * b 4 + 8 * b 5 + 16 * b 6 := by subst hg; simp [pw] <;> omega
  have gimm : g.imm = 4 * b 9 + 8 * b 10 + 16 * b 11 + 32 * b 12 + 64 * b 7 + 128 * b 8 := by subst hg; simp [pw] <;> omega
  clear hg
  have B2 := hb 2
  have B3 := hb 3
  have B4 := hb 4
  have B5 := hb 5
  have B6 := hb 6
  have B7 := hb 7
  have B8 := hb 8
  have B9 := hb 9
  have B10 := hb 10
  have B11 := hb 11
  have B12 := hb 12
  clear hb
  repeat' split at h
  all_goals first | (cases h; done) | skip
  all_goals
    have h := Option.some.inj h
    have hd := congrArg Flds.d h
    have hr := congrArg Flds.r h
    have ht := congrArg Flds.t h
    have hm := congrArg Flds.imm h
    clear h
    dsimp only at hd hr ht hm
    have et0 : bt f.t 0 = b 2 := bt_at (A := 0) (C := 1 * b 3 + 2 * b 4 + 4 * b 5 + 8 * b 6) 0 (by decide) (by decide : pw 0 = 1) (by omega) (by omega) (by omega) B2
    have et1 : bt f.t 1 = b 3 := bt_at (A := 1 * b 2) (C := 1 * b 4 + 2 * b 5 + 4 * b 6) 1 (by decide) (by decide : pw 1 = 2) (by omega) (by omega) (by omega) B3
    have et2 : bt f.t 2 = b 4 := bt_at (A := 1 * b 2 + 2 * b 3) (C := 1 * b 5 + 2 * b 6) 2 (by decide) (by decide : pw 2 = 4) (by omega) (by omega) (by omega) B4
    have et3 : bt f.t 3 = b 5 := bt_at (A := 1 * b 2 + 2 * b 3 + 4 * b 4) (C := 1 * b 6) 3 (by decide) (by decide : pw 3 = 8) (by omega) (by omega) (by omega) B5
    have et4 : bt f.t 4 = b 6 := bt_at (A := 1 * b 2 + 2 * b 3 + 4 * b 4 + 8 * b 5) (C := 0) 4 (by decide) (by decide : pw 4 = 16) (by omega) (by omega) (by omega) B6
    have eimm2 : bt f.imm 2 = b 9 := bt_at (A := 0) (C := 1 * b 10 + 2 * b 11 + 4 * b 12 + 8 * b 7 + 16 * b 8) 2 (by decide) (by decide : pw 2 = 4) (by omega) (by omega) (by omega) B9
    have eimm3 : bt f.imm 3 = b 10 := bt_at (A := 4 * b 9) (C := 1 * b 11 + 2 * b 12 + 4 * b 7 + 8 * b 8) 3 (by decide) (by decide : pw 3 = 8) (by omega) (by omega) (by omega) B10
    have eimm4 : bt f.imm 4 = b 11 := bt_at (A := 4 * b 9 + 8 * b 10) (C := 1 * b 12 + 2 * b 7 + 4 * b 8) 4 (by decide) (by decide : pw 4 = 16) (by omega) (by omega) (by omega) B11
    have eimm5 : bt f.imm 5 = b 12 := bt_at (A := 4 * b 9 + 8 * b 10 + 16 * b 11) (C := 1 * b 7 + 2 * b 8) 5 (by decide) (by decide : pw 5 = 32) (by omega) (by omega) (by omega) B12
    have eimm6 : bt f.imm 6 = b 7 := bt_at (A := 4 * b 9 + 8 * b 10 + 16 * b 11 + 32 * b 12) (C := 1 * b 8) 6 (by decide) (by decide : pw 6 = 64) (by omega) (by omega) (by omega) B7
    have eimm7 : bt f.imm 7 = b 8 := bt_at (A := 4 * b 9 + 8 * b 10 + 16 * b 11 + 32 * b 12 + 64 * b 7) (C := 0) 7 (by decide) (by decide : pw 7 = 128) (by omega) (by omega) (by omega) B8
    have hu := parC_u16 (row_ok (k := 25) (by decide)) f.d f.r f.t f.imm
    have hsp := sum16 _ hu.1 hu.2
    have hU : U32 (f.imm % 4294967296) := ⟨by omega, by omega⟩
    have z2 : or1 (b 2) 0 = b 2 := or1_b0 B2
    have z3 : or1 (b 3) 0 = b 3 := or1_b0 B3
    have z4 : or1 (b 4) 0 = b 4 := or1_b0 B4
    have z5 : or1 (b 5) 0 = b 5 := or1_b0 B5
    have z6 : or1 (b 6) 0 = b 6 := or1_b0 B6
    have z7 : or1 (b 7) 0 = b 7 := or1_b0 B7
    have z8 : or1 (b 8) 0 = b 8 := or1_b0 B8
    have z9 : or1 (b 9) 0 = b 9 := or1_b0 B9
    have z10 : or1 (b 10) 0 = b 10 := or1_b0 B10
    have z11 : or1 (b 11) 0 = b 11 := or1_b0 B11
    have z12 : or1 (b 12) 0 = b 12 := or1_b0 B12
    have q0 : bt (parC (rowC 25) f.d f.r f.t f.imm) 0 = 0 := by
      rw [parC_bt (row_ok (k := 25) (by decide))]
      show or1 (or1 (or1 (or1 (bt 49154 0) (bt (putP 0 f.d) 0)) (bt (putP 2 f.r) 0)) (bt (putP 4 f.t) 0)) (bt (sputC 6 f.imm) 0) = _
      rw [bput_0 f.d _ (by decide), bput_2 f.r _ (by decide), bput_4 f.t _ (by decide), sputC_bt, sput8 _ hU, show bt 49154 0 = 0 by decide]
      simp [pbP, spr, spr6, sprOf, or1_0, or1_1, or1_bb, bt_m32, et0, et1, et2, et3, et4, eimm2, eimm3, eimm4, eimm5, eimm6, eimm7, z2, z3, z4, z5, z6, z7, z8, z9, z10, z11, z12]
    have q1 : bt (parC (rowC 25) f.d f.r f.t f.imm) 1 = 1 := by
      rw [parC_bt (row_ok (k := 25) (by decide))]
      show or1 (or1 (or1 (or1 (bt 49154 1) (bt (putP 0 f.d) 1)) (bt (putP 2 f.r) 1)) (bt (putP 4 f.t) 1)) (bt (sputC 6 f.imm) 1) = _
      rw [bput_0 f.d _ (by decide), bput_2 f.r _ (by decide), bput_4 f.t _ (by decide), sputC_bt, sput8 _ hU, show bt 49154 1 = 1 by decide]
      simp [pbP, spr, spr6, sprOf, or1_0, or1_1, or1_bb, bt_m32, et0, et1, et2, et3, et4, eimm2, eimm3, eimm4, eimm5, eimm6, eimm7, z2, z3, z4, z5, z6, z7, z8, z9, z10, z11, z12]
    have q2 : bt (parC (rowC 25) f.d f.r f.t f.imm) 2 = b 2 := by
      rw [parC_bt (row_ok (k := 25) (by decide))]
      show or1 (or1 (or1 (or1 (bt 49154 2) (bt (putP 0 f.d) 2)) (bt (putP 2 f.r) 2)) (bt (putP 4 f.t) 2)) (bt (sputC 6 f.imm) 2) = _
      rw [bput_0 f.d _ (by decide), bput_2 f.r _ (by decide), bput_4 f.t _ (by decide), sputC_bt, sput8 _ hU, show bt 49154 2 = 0 by decide]
      simp [pbP, spr, spr6, sprOf, or1_0, or1_1, or1_bb, bt_m32, et0, et1, et2, et3, et4, eimm2, eimm3, eimm4, eimm5, eimm6, eimm7, z2, z3, z4, z5, z6, z7, z8, z9, z10, z11, z12]
    have q3 : bt (parC (rowC 25) f.d f.r f.t f.imm) 3 = b 3 := by
      rw [parC_bt (row_ok (k := 25) (by decide))]
      show or1 (or1 (or1 (or1 (bt 49154 3) (bt (putP 0 f.d) 3)) (bt (putP 2 f.r) 3)) (bt (putP 4 f.t) 3)) (bt (sputC 6 f.imm) 3) = _
      rw [bput_0 f.d _ (by decide), bput_2 f.r _ (by decide), bput_4 f.t _ (by decide), sputC_bt, sput8 _ hU, show bt 49154 3 = 0 by decide]
      simp [pbP, spr, spr6, sprOf, or1_0, or1_1, or1_bb, bt_m32, et0, et1, et2, et3, et4, eimm2, eimm3, eimm4, eimm5, eimm6, eimm7, z2, z3, z4, z5, z6, z7, z8, z9, z10, z11, z12]
    have q4 : bt (parC (rowC 25) f.d f.r f.t f.imm) 4 = b 4 := by
      rw [parC_bt (row_ok (k := 25) (by decide))]
      show or1 (or1 (or1 (or1 (bt 49154 4) (bt (putP 0 f.d) 4)) (bt (putP 2 f.r) 4)) (bt (putP 4 f.t) 4)) (bt (sputC 6 f.imm) 4) = _
      rw [bput_0 f.d _ (by decide), bput_2 f.r _ (by decide), bput_4 f.t _ (by decide), sputC_bt, sput8 _ hU, show bt 49154 4 = 0 by decide]
      simp [pbP, spr, spr6, sprOf, or1_0, or1_1, or1_bb, bt_m32, et0, et1, et2, et3, et4, eimm2, eimm3, eimm4, eimm5, eimm6, eimm7, z2, z3, z4, z5, z6, z7, z8, z9, z10, z11, z12]
    have q5 : bt (parC (rowC 25) f.d f.r f.t f.imm) 5 = b 5 := by
      rw [parC_bt (row_ok (k := 25) (by decide))]
      show or1 (or1 (or1 (or1 (bt 49154 5) (bt (putP 0 f.d) 5)) (bt (putP 2 f.r) 5)) (bt (putP 4 f.t) 5)) (bt (sputC 6 f.imm) 5) = _
      rw [bput_0 f.d _ (by decide), bput_2 f.r _ (by decide), bput_4 f.t _ (by decide), sputC_bt, sput8 _ hU, show bt 49154 5 = 0 by decide]
      simp [pbP, spr, spr6, sprOf, or1_0, or1_1, or1_bb, bt_m32, et0, et1, et2, et3, et4, eimm2, eimm3, eimm4, eimm5, eimm6, eimm7, z2, z3, z4, z5, z6, z7, z8, z9, z10, z11, z12]
    have q6 : bt (parC (rowC 25) f.d f.r f.t f.imm) 6 = b 6 := by
      rw [parC_bt (row_ok (k := 25) (by decide))]
      show or1 (or1 (or1 (or1 (bt 49154 6) (bt (putP 0 f.d) 6)) (bt (putP 2 f.r) 6)) (bt (putP 4 f.t) 6)) (bt (sputC 6 f.imm) 6) = _
      rw [bput_0 f.d _ (by decide), bput_2 f.r _ (by decide), bput_4 f.t _ (by decide), sputC_bt, sput8 _ hU, show bt 49154 6 = 0 by decide]
      simp [pbP, spr, spr6, sprOf, or1_0, or1_1, or1_bb, bt_m32, et0, et1, et2, et3, et4, eimm2, eimm3, eimm4, eimm5, eimm6, eimm7, z2, z3, z4, z5, z6, z7, z8, z9, z10, z11, z12]
    have q7 : bt (parC (rowC 25) f.d f.r f.t f.imm) 7 = b 7 := by
      rw [parC_bt (row_ok (k := 25) (by decide))]
      show or1 (or1 (or1 (or1 (bt 49154 7) (bt (putP 0 f.d) 7)) (bt (putP 2 f.r) 7)) (bt (putP 4 f.t) 7)) (bt (sputC 6 f.imm) 7) = _
      rw [bput_0 f.d _ (by decide), bput_2 f.r _ (by decide), bput_4 f.t _ (by decide), sputC_bt, sput8 _ hU, show bt 49154 7 = 0 by decide]
      simp [pbP, spr, spr6, sprOf, or1_0, or1_1, or1_bb, bt_m32, et0, et1, et2, et3, et4, eimm2, eimm3, eimm4, eimm5, eimm6, eimm7, z2, z3, z4, z5, z6, z7, z8, z9, z10, z11, z12]
    have q8 : bt (parC (rowC 25) f.d f.r f.t f.imm) 8 = b 8 := by
      rw [parC_bt (row_ok (k := 25) (by decide))]
      show or1 (or1 (or1 (or1 (bt 49154 8) (bt (putP 0 f.d) 8)) (bt (putP 2 f.r) 8)) (bt (putP 4 f.t) 8)) (bt (sputC 6 f.imm) 8) = _
      rw [bput_0 f.d _ (by decide), bput_2 f.r _ (by decide), bput_4 f.t _ (by decide), sputC_bt, sput8 _ hU, show bt 49154 8 = 0 by decide]
      simp [pbP, spr, spr6, sprOf, or1_0, or1_1, or1_bb, bt_m32, et0, et1, et2, et3, et4, eimm2, eimm3, eimm4, eimm5, eimm6, eimm7, z2, z3, z4, z5, z6, z7, z8, z9, z10, z11, z12]
    have q9 : bt (parC (rowC 25) f.d f.r f.t f.imm) 9 = b 9 := by
      rw [parC_bt (row_ok (k := 25) (by decide))]
      show or1 (or1 (or1 (or1 (bt 49154 9) (bt (putP 0 f.d) 9)) (bt (putP 2 f.r) 9)) (bt (putP 4 f.t) 9)) (bt (sputC 6 f.imm) 9) = _
      rw [bput_0 f.d _ (by decide), bput_2 f.r _ (by decide), bput_4 f.t _ (by decide), sputC_bt, sput8 _ hU, show bt 49154 9 = 0 by decide]
      simp [pbP, spr, spr6, sprOf, or1_0, or1_1, or1_bb, bt_m32, et0, et1, et2, et3, et4, eimm2, eimm3, eimm4, eimm5, eimm6, eimm7, z2, z3, z4, z5, z6, z7, z8, z9, z10, z11, z12]
    have q10 : bt (parC (rowC 25) f.d f.r f.t f.imm) 10 = b 10 := by
      rw [parC_bt (row_ok (k := 25) (by decide))]
      show or1 (or1 (or1 (or1 (bt 49154 10) (bt (putP 0 f.d) 10)) (bt (putP 2 f.r) 10)) (bt (putP 4 f.t) 10)) (bt (sputC 6 f.imm) 10) = _
      rw [bput_0 f.d _ (by decide), bput_2 f.r _ (by decide), bput_4 f.t _ (by decide), sputC_bt, sput8 _ hU, show bt 49154 10 = 0 by decide]
      simp [pbP, spr, spr6, sprOf, or1_0, or1_1, or1_bb, bt_m32, et0, et1, et2, et3, et4, eimm2, eimm3, eimm4, eimm5, eimm6, eimm7, z2, z3, z4, z5, z6, z7, z8, z9, z10, z11, z12]
    have q11 : bt (parC (rowC 25) f.d f.r f.t f.imm) 11 = b 11 := by
      rw [parC_bt (row_ok (k := 25) (by decide))]
      show or1 (or1 (or1 (or1 (bt 49154 11) (bt (putP 0 f.d) 11)) (bt (putP 2 f.r) 11)) (bt (putP 4 f.t) 11)) (bt (sputC 6 f.imm) 11) = _
      rw [bput_0 f.d _ (by decide), bput_2 f.r _ (by decide), bput_4 f.t _ (by decide), sputC_bt, sput8 _ hU, show bt 49154 11 = 0 by decide]
      simp [pbP, spr, spr6, sprOf, or1_0, or1_1, or1_bb, bt_m32, et0, et1, et2, et3, et4, eimm2, eimm3, eimm4, eimm5, eimm6, eimm7, z2, z3, z4, z5, z6, z7, z8, z9, z10, z11, z12]
    have q12 : bt (parC (rowC 25) f.d f.r f.t f.imm) 12 = b 12 := by
      rw [parC_bt (row_ok (k := 25) (by decide))]
      show or1 (or1 (or1 (or1 (bt 49154 12) (bt (putP 0 f.d) 12)) (bt (putP 2 f.r) 12)) (bt (putP 4 f.t) 12)) (bt (sputC 6 f.imm) 12) = _
      rw [bput_0 f.d _ (by decide), bput_2 f.r _ (by decide), bput_4 f.t _ (by decide), sputC_bt, sput8 _ hU, show bt 49154 12 = 0 by decide]
      simp [pbP, spr, spr6, sprOf, or1_0, or1_1, or1_bb, bt_m32, et0, et1, et2, et3, et4, eimm2, eimm3, eimm4, eimm5, eimm6, eimm7, z2, z3, z4, z5, z6, z7, z8, z9, z10, z11, z12]
    have q13 : bt (parC (rowC 25) f.d f.r f.t f.imm) 13 = 0 := by
      rw [parC_bt (row_ok (k := 25) (by decide))]
      show or1 (or1 (or1 (or1 (bt 49154 13) (bt (putP 0 f.d) 13)) (bt (putP 2 f.r) 13)) (bt (putP 4 f.t) 13)) (bt (sputC 6 f.imm) 13) = _
      rw [bput_0 f.d _ (by decide), bput_2 f.r _ (by decide), bput_4 f.t _ (by decide), sputC_bt, sput8 _ hU, show bt 49154 13 = 0 by decide]
      simp [pbP, spr, spr6, sprOf, or1_0, or1_1, or1_bb, bt_m32, et0, et1, et2, et3, et4, eimm2, eimm3, eimm4, eimm5, eimm6, eimm7, z2, z3, z4, z5, z6, z7, z8, z9, z10, z11, z12]
    have q14 : bt (parC (rowC 25) f.d f.r f.t f.imm) 14 = 1 := by
      rw [parC_bt (row_ok (k := 25) (by decide))]
      show or1 (or1 (or1 (or1 (bt 49154 14) (bt (putP 0 f.d) 14)) (bt (putP 2 f.r) 14)) (bt (putP 4 f.t) 14)) (bt (sputC 6 f.imm) 14) = _
      rw [bput_0 f.d _ (by decide), bput_2 f.r _ (by decide), bput_4 f.t _ (by decide), sputC_bt, sput8 _ hU, show bt 49154 14 = 1 by decide]
      simp [pbP, spr, spr6, sprOf, or1_0, or1_1, or1_bb, bt_m32, et0, et1, et2, et3, et4, eimm2, eimm3, eimm4, eimm5, eimm6, eimm7, z2, z3, z4, z5, z6, z7, z8, z9, z10, z11, z12]
    have q15 : bt (parC (rowC 25) f.d f.r f.t f.imm) 15 = 1 := by
      rw [parC_bt (row_ok (k := 25) (by decide))]
      show or1 (or1 (or1 (or1 (bt 49154 15) (bt (putP 0 f.d) 15)) (bt (putP 2 f.r) 15)) (bt (putP 4 f.t) 15)) (bt (sputC 6 f.imm) 15) = _
      rw [bput_0 f.d _ (by decide), bput_2 f.r _ (by decide), bput_4 f.t _ (by decide), sputC_bt, sput8 _ hU, show bt 49154 15 = 1 by decide]
      simp [pbP, spr, spr6, sprOf, or1_0, or1_1, or1_bb, bt_m32, et0, et1, et2, et3, et4, eimm2, eimm3, eimm4, eimm5, eimm6, eimm7, z2, z3, z4, z5, z6, z7, z8, z9, z10, z11, z12]
    rw [q0, q1, q2, q3, q4, q5, q6, q7, q8, q9, q10, q11, q12, q13, q14, q15] at hsp
    omega
end Hm

/-
  Mathematics of short instructions: package code's Expand is the document's. Nothing of the dump is imported.
-/
namespace Hm
theorem inst_eq {k : Nat} (hk : k < 26) (p : Int) (h0 : 0 ≤ p) (h1 : p < 65536) : instS (shortR k) p = if readK (rowC k) p then some (fldS (rowC k) p) else none := by
  have hA := rowA_any hk p h0 h1
  unfold instS readK
  rw [rd_eq, matchS_eq h0 h1 hk]
  cases matchL p (shortR k).bits with
  | false => rfl
  | true =>
    show (if badS (shortR k) (foldF p (shortR k).bits ⟨0, 0, 0, 0⟩) = true then none else some (makeS (shortR k) (foldF p (shortR k).bits ⟨0, 0, 0, 0⟩))) = _
    rw [hA.2, hA.1]
    cases hitsC (rowC k).not' (fldS (rowC k) p) <;> rfl
theorem exp_from {p : Int} (h0 : 0 ≤ p) (h1 : p < 65536) : ∀ {n k : Nat}, k + n ≤ 26 → expFrom p n k = expCFrom p n k
  | 0, _, _ => rfl
  | n + 1, k, h => by
    have hi := inst_eq (show k < 26 by omega) p h0 h1
    cases hr : readK (rowC k) p with
    | false =>
      rw [hr] at hi
      rw [expFrom_none (by rw [hi]; rfl), expCFrom_no hr]
      exact exp_from h0 h1 (by omega)
    | true =>
      rw [hr, if_pos rfl] at hi
      rw [expFrom_some hi, expCFrom_yes hr, op_same (by omega)]
theorem exp_eq {p : Int} (h0 : 0 ≤ p) (h1 : p < 65536) : expR p = expC p := by
  unfold expR expC
  rw [exp_from h0 h1 (by omega)]
end Hm

/-
  Mathematics of short instructions: package code's Compress is the document's. Nothing of the dump is imported.
-/
namespace Hm
theorem backC_any : ∀ {k : Nat}, k < 26 → ∀ (p : Int) (f : Flds), 0 ≤ p → p < 65536 → instS (shortR k) p = some f → parC (rowC k) f.d f.r f.t f.imm = p
  | 0, _ => backC_0
  | 1, _ => backC_1
  | 2, _ => backC_2
  | 3, _ => backC_3
  | 4, _ => backC_4
  | 5, _ => backC_5
  | 6, _ => backC_6
  | 7, _ => backC_7
  | 8, _ => backC_8
  | 9, _ => backC_9
  | 10, _ => backC_10
  | 11, _ => backC_11
  | 12, _ => backC_12
  | 13, _ => backC_13
  | 14, _ => backC_14
  | 15, _ => backC_15
  | 16, _ => backC_16
  | 17, _ => backC_17
  | 18, _ => backC_18
  | 19, _ => backC_19
  | 20, _ => backC_20
  | 21, _ => backC_21
  | 22, _ => backC_22
  | 23, _ => backC_23
  | 24, _ => backC_24
  | 25, _ => backC_25
  | _ + 26, h => by omega
theorem match_bt {r : RowC} (hr : RowOk r) {q : Int} (h0 : 0 ≤ q) (h1 : q < 65536) (hm : matchS r q = true) (j : Nat) (hj : bt r.mask j = 1) : bt q j = bt r.bits j := by
  have e : andI q r.mask = r.bits := by unfold matchS at hm; simpa using hm
  have h := bt_and (a := q) (m := r.mask) ⟨h0, by omega⟩ ⟨hr.mask.1, by have := hr.mask.2; omega⟩ j
  rw [e, if_pos hj] at h
  exact h.symm
/-- Rows that have no clash in their fixed bits. -/
def special (j k : Nat) : Bool := (j == 6 && k == 7) || (j == 20 && k == 21) || (j == 22 && k == 23) || (j == 22 && k == 24) || (j == 23 && k == 24)
theorem pairs {j k : Nat} (hj : j < 26) (hk : k < 26) : j = k ∨ special j k = true ∨ special k j = true ∨ ∃ i, bt (rowC j).mask i = 1 ∧ bt (rowC k).mask i = 1 ∧ bt (rowC j).bits i ≠ bt (rowC k).bits i := by
  have h : ∀ a b : Fin 26, a.val = b.val ∨ special a b = true ∨ special b a = true ∨ ∃ i : Fin 16, bt (rowC a).mask i = 1 ∧ bt (rowC b).mask i = 1 ∧ bt (rowC a).bits i ≠ bt (rowC b).bits i := by decide +kernel
  rcases h ⟨j, hj⟩ ⟨k, hk⟩ with h | h | h | ⟨i, h⟩
  · exact Or.inl h
  · exact Or.inr (Or.inl h)
  · exact Or.inr (Or.inr (Or.inl h))
  · exact Or.inr (Or.inr (Or.inr ⟨i, h⟩))
theorem match_pair {j k : Nat} (hj : j < 26) (hk : k < 26) {q : Int} (h0 : 0 ≤ q) (h1 : q < 65536) (mj : matchS (rowC j) q = true) (mk : matchS (rowC k) q = true) : j = k ∨ special j k = true ∨ special k j = true := by
  rcases pairs hj hk with h | h | h | ⟨i, a, b, c⟩
  · exact Or.inl h
  · exact Or.inr (Or.inl h)
  · exact Or.inr (Or.inr h)
  · exact absurd ((match_bt (row_ok hj) h0 h1 mj i a).symm.trans (match_bt (row_ok hk) h0 h1 mk i b)) c
theorem special_op {j k : Nat} (h : special j k = true) : (shortR j).op ≠ (shortR k).op := by
  simp only [special, Bool.or_eq_true, Bool.and_eq_true, beq_iff_eq] at h
  rcases h with (((⟨rfl, rfl⟩ | ⟨rfl, rfl⟩) | ⟨rfl, rfl⟩) | ⟨rfl, rfl⟩) | ⟨rfl, rfl⟩ <;> decide
theorem special_no {j k : Nat} (h : special j k = true) {q : Int} (h0 : 0 ≤ q) (h1 : q < 65536) (mj : matchS (rowC j) q = true) : readK (rowC k) q = false := by
  simp only [special, Bool.or_eq_true, Bool.and_eq_true, beq_iff_eq] at h
  rcases h with (((⟨rfl, rfl⟩ | ⟨rfl, rfl⟩) | ⟨rfl, rfl⟩) | ⟨rfl, rfl⟩) | ⟨rfl, rfl⟩
  · have m := match_bt (row_ok (k := 6) (by decide)) h0 h1 mj
    have e : takeP 3 q = 2 := by
      rw [take_3 q h0 h1, m 7 (by decide), m 8 (by decide), m 9 (by decide), m 10 (by decide), m 11 (by decide)]; decide
    have : hitsC (rowC 7).not' (fldS (rowC 7) q) = true := by
      have e1 : (fldS (rowC 7) q).d = 2 := e
      have e2 : (rowC 7).not' = 5 := by decide
      rw [e2]; simp [hitsC, e1, show hasN 5 4 = true by decide]
    simp [readK, this]
  · have m := match_bt (row_ok (k := 20) (by decide)) h0 h1 mj
    have e : takeP 4 q = 0 := by
      rw [take_4 q h0 h1, m 2 (by decide), m 3 (by decide), m 4 (by decide), m 5 (by decide), m 6 (by decide)]; decide
    have : hitsC (rowC 21).not' (fldS (rowC 21) q) = true := by
      have e1 : (fldS (rowC 21) q).t = 0 := e
      have e2 : (rowC 21).not' = 16 := by decide
      rw [e2]; simp [hitsC, e1, show hasN 16 16 = true by decide]
    simp [readK, this]
  · have m := match_bt (row_ok (k := 22) (by decide)) h0 h1 mj
    have e : takeP 3 q = 0 := by
      rw [take_3 q h0 h1, m 7 (by decide), m 8 (by decide), m 9 (by decide), m 10 (by decide), m 11 (by decide)]; decide
    have : hitsC (rowC 23).not' (fldS (rowC 23) q) = true := by
      have e1 : (fldS (rowC 23) q).r = 0 := e
      have e2 : (rowC 23).not' = 8 := by decide
      rw [e2]; simp [hitsC, e1, show hasN 8 8 = true by decide]
    simp [readK, this]
  · have m := match_bt (row_ok (k := 22) (by decide)) h0 h1 mj
    have e : takeP 4 q = 0 := by
      rw [take_4 q h0 h1, m 2 (by decide), m 3 (by decide), m 4 (by decide), m 5 (by decide), m 6 (by decide)]; decide
    have : hitsC (rowC 24).not' (fldS (rowC 24) q) = true := by
      have e1 : (fldS (rowC 24) q).t = 0 := e
      have e2 : (rowC 24).not' = 16 := by decide
      rw [e2]; simp [hitsC, e1, show hasN 16 16 = true by decide]
    simp [readK, this]
  · have m := match_bt (row_ok (k := 23) (by decide)) h0 h1 mj
    have e : takeP 4 q = 0 := by
      rw [take_4 q h0 h1, m 2 (by decide), m 3 (by decide), m 4 (by decide), m 5 (by decide), m 6 (by decide)]; decide
    have : hitsC (rowC 24).not' (fldS (rowC 24) q) = true := by
      have e1 : (fldS (rowC 24) q).t = 0 := e
      have e2 : (rowC 24).not' = 16 := by decide
      rw [e2]; simp [hitsC, e1, show hasN 16 16 = true by decide]
    simp [readK, this]
theorem read_match {r : RowC} {q : Int} (h : readK r q = true) : matchS r q = true := by
  unfold readK at h; cases hm : matchS r q <;> simp_all
theorem read_one {j k : Nat} (hj : j < 26) (hk : k < 26) {q : Int} (h0 : 0 ≤ q) (h1 : q < 65536) (rj : readK (rowC j) q = true) (rk : readK (rowC k) q = true) : j = k := by
  rcases match_pair hj hk h0 h1 (read_match rj) (read_match rk) with h | h | h
  · exact h
  · rw [special_no h h0 h1 (read_match rj)] at rk; cases rk
  · rw [special_no h h0 h1 (read_match rk)] at rj; cases rj
theorem low_two {k : Nat} (hk : k < 26) {q : Int} (h0 : 0 ≤ q) (h1 : q < 65536) (m : matchS (rowC k) q = true) : q % 4 ≠ 3 := by
  have t : ∀ j : Fin 26, bt (rowC j).mask 0 = 1 ∧ bt (rowC j).mask 1 = 1 ∧ ¬ (bt (rowC j).bits 0 = 1 ∧ bt (rowC j).bits 1 = 1) := by decide +kernel
  obtain ⟨a, b, c⟩ := t ⟨k, hk⟩
  have e0 := match_bt (row_ok hk) h0 h1 m 0 a
  have e1 := match_bt (row_ok hk) h0 h1 m 1 b
  have f0 : bt q 0 = q % 2 := by rw [bt_flr q 0 (by decide)]; simp [pw]
  have f1 : bt q 1 = q / 2 % 2 := by rw [bt_flr q 1 (by decide)]; simp [pw]
  rw [f0] at e0
  rw [f1] at e1
  intro h
  exact c ⟨by rw [← e0]; omega, by rw [← e1]; omega⟩
theorem expC_first {q : Int} {k : Nat} (hk : readK (rowC k) q = true) : ∀ (n j : Nat), j ≤ k → k < j + n → (∀ i, j ≤ i → i < k → readK (rowC i) q = false) → expCFrom q n j = ⟨(rowC k).op, fldS (rowC k) q, 0⟩
  | 0, j, h1, h2, _ => by omega
  | n + 1, j, h1, h2, hno => by
    by_cases e : j = k
    · subst e; exact expCFrom_yes hk
    · rw [expCFrom_no (hno j (Nat.le_refl _) (by omega))]
      exact expC_first hk n (j + 1) (by omega) (by omega) (fun i h h' => hno i (by omega) h')
theorem expC_row {k : Nat} (hk : k < 26) {q : Int} (h0 : 0 ≤ q) (h1 : q < 65536) (r : readK (rowC k) q = true) : expC q = ⟨(rowC k).op, fldS (rowC k) q, 0⟩ := by
  unfold expC
  rw [if_neg (low_two hk h0 h1 (read_match r))]
  refine expC_first r 26 0 (by omega) (by omega) (fun i _ hi => ?_)
  cases e : readK (rowC i) q with
  | false => rfl
  | true => have := read_one (by omega) hk h0 h1 e r; omega
theorem fill_lo (d r t imm : Int) : ∀ (l : List UInt8) (w : Int), w * pw l.length ≤ fill d r t imm l w
  | [], w => by
    have e : pw 0 = 1 := rfl
    simp only [fill, List.length_nil, e]; omega
  | c :: l, w => by
    have hb := fbit_01 d r t imm c l
    unfold fill
    have ih := fill_lo d r t imm l (2 * w + fbit d r t imm c l)
    refine Int.le_trans ?_ ih
    have hp := pw_pos l.length
    have := Int.mul_le_mul_of_nonneg_right (show 2 * w ≤ 2 * w + fbit d r t imm c l by omega) (by omega : 0 ≤ pw l.length)
    rw [List.length_cons, pw_succ, ← Int.mul_assoc, Int.mul_comm w 2]
    exact this
theorem fill_div (d r t imm : Int) (l : List UInt8) (w : Int) (h : 0 ≤ w) : fill d r t imm l w / pw l.length = w := by
  have h1 := fill_lo d r t imm l w
  have h2 := (fill_bd d r t imm l w h).2
  have hp := pw_pos l.length
  have a : w ≤ fill d r t imm l w / pw l.length := (Int.le_ediv_iff_mul_le (by omega)).2 h1
  have b : fill d r t imm l w / pw l.length < w + 1 := (Int.ediv_lt_iff_lt_mul (by omega)).2 (by omega)
  omega
theorem match_fill (d r t imm : Int) : ∀ (l : List UInt8) (w : Int), 0 ≤ w → l.length ≤ 32 → matchL (fill d r t imm l w) l = true
  | [], _, _, _ => rfl
  | c :: l, w, hw, hl => by
    have hb := fbit_01 d r t imm c l
    have hl' : l.length < 32 := by simp at hl; omega
    unfold fill matchL
    rw [match_fill d r t imm l _ (by omega) (by omega), Bool.and_true, bt_flr _ _ hl', fill_div _ _ _ _ _ _ (by omega)]
    rw [show (2 * w + fbit d r t imm c l) % 2 = fbit d r t imm c l by omega]
    unfold miss fbit
    by_cases c0 : (c.toNat : Int) = 48
    · rw [c0]; rfl
    · by_cases c1 : (c.toNat : Int) = 49
      · rw [c1]; rfl
      · have e0 : ((c.toNat : Int) == 48) = false := by simpa using c0
        have e1 : ((c.toNat : Int) == 49) = false := by simpa using c1
        rw [e0, e1]; rfl
theorem match_par {k : Nat} (hk : k < 26) (d r t imm : Int) : matchS (rowC k) (parS k d r t imm) = true := by
  have hb := par_bd hk d r t imm
  rw [matchS_eq hb.1 hb.2 hk]
  exact match_fill _ _ _ _ _ 0 (by omega) (by rw [short_len hk]; omega)
theorem inst_some {k : Nat} (hk : k < 26) {q : Int} (h0 : 0 ≤ q) (h1 : q < 65536) {f : Flds} : instS (shortR k) q = some f ↔ readK (rowC k) q = true ∧ fldS (rowC k) q = f := by
  rw [inst_eq hk q h0 h1]
  cases readK (rowC k) q <;> simp
theorem flds_of {f : Flds} {d r t i : Int} (h1 : f.d = d) (h2 : f.r = r) (h3 : f.t = t) (h4 : f.imm = i) : f = ⟨d, r, t, i⟩ := by
  obtain ⟨a, b, c, e⟩ := f
  simp only at h1 h2 h3 h4
  rw [h1, h2, h3, h4]
/-- One row: both ways. -/
theorem ok_row {k : Nat} (hk : k < 26) (op d r t i : Int) : okC (rowC k) op d r t i = okS k op d r t i ∧ (okS k op d r t i = true → parC (rowC k) d r t i = parS k d r t i) := by
  have uC := parC_u16 (row_ok hk) d r t i
  have hS := par_bd hk d r t i
  have hop := op_same hk
  have fwd : okC (rowC k) op d r t i = true → okS k op d r t i = true := by
    intro h
    simp only [okC, sameF, Bool.and_eq_true, beq_iff_eq] at h
    obtain ⟨h1, h2, ⟨⟨⟨h3, h4⟩, h5⟩, h6⟩, h7⟩ := h
    have hm := read_match h2
    simp only [readF, hm, if_true] at h4 h5 h6 h7
    have hi : instS (shortR k) (parC (rowC k) d r t i) = some ⟨d, r, t, i⟩ := (inst_some hk uC.1 uC.2).2 ⟨h2, flds_of h4 h5 h6 h7⟩
    have hb := (back_any hk _ _ uC.1 uC.2 hi).1
    simp only at hb
    have he : expR (parS k d r t i) = ⟨op, ⟨d, r, t, i⟩, 0⟩ := by
      rw [hb, exp_eq uC.1 uC.2, expC_row hk uC.1 uC.2 h2, h1]
      have := ((inst_some hk uC.1 uC.2).1 hi).2
      rw [this]
    simp [okS, sameD, he, ← hop, h1]
  have bwd : okS k op d r t i = true → okC (rowC k) op d r t i = true ∧ parC (rowC k) d r t i = parS k d r t i := by
    intro h
    simp only [okS, sameD, Bool.and_eq_true, beq_iff_eq] at h
    obtain ⟨⟨h1, h2⟩, ⟨⟨⟨h3, h4⟩, h5⟩, h6⟩, h7⟩ := h
    have hw : ¬ parS k d r t i % 4 = 3 := low_two hk hS.1 hS.2 (match_par hk d r t i)
    have hx : expR (parS k d r t i) = expFrom (parS k d r t i) 26 0 := by unfold expR; rw [if_neg hw]
    rw [hx] at h2 h3 h4 h5 h6 h7
    obtain ⟨j, f, -, hj, hi, he⟩ := exp_row h2
    rw [he] at h3 h4 h5 h6 h7
    obtain ⟨a, b, c, e⟩ := f
    simp only at h3 h4 h5 h6 h7
    subst h4 h5 h6 h7
    have hr := (inst_some (show j < 26 by omega) hS.1 hS.2).1 hi
    have hjk : j = k := by
      rcases match_pair (show j < 26 by omega) hk hS.1 hS.2 (read_match hr.1) (match_par hk a b c e) with h | h | h
      · exact h
      · exact absurd (h3.trans h1.symm) (special_op h)
      · exact absurd (h1.trans h3.symm) (special_op h)
    subst hjk
    have hp := backC_any hk _ _ hS.1 hS.2 hi
    simp only at hp
    refine ⟨?_, hp⟩
    have hm := read_match hr.1
    simp [okC, sameF, hp, hr.1, readO, readF, hm, hr.2, hop, h1]
  refine ⟨?_, fun h => (bwd h).2⟩
  cases e : okS k op d r t i with
  | true => exact (bwd e).1
  | false =>
    cases e2 : okC (rowC k) op d r t i with
    | false => rfl
    | true => rw [fwd e2] at e; cases e
theorem lst_eq (op d r t i : Int) : ∀ {k : Nat}, k ≤ 26 → lstC op d r t i k = if 0 ≤ leastTo op d r t i k then (leastTo op d r t i k, 0) else (0, 4)
  | 0, _ => by simp [lstC, leastTo]
  | k + 1, hk => by
    have ih := lst_eq op d r t i (k := k) (by omega)
    have ho := ok_row (show k < 26 by omega) op d r t i
    have hb := least_bd op d r t i (k := k) (by omega)
    have hp := par_bd (k := k) (by omega) d r t i
    unfold lstC leastTo
    rw [ho.1, ih]
    cases e : okS k op d r t i with
    | false => simp
    | true =>
      rw [ho.2 e]
      by_cases h : 0 ≤ leastTo op d r t i k
      · rw [if_pos h]
        by_cases h2 : parS k d r t i < leastTo op d r t i k
        · simp [h2, hp.1]
        · simp [h2, h, show ¬ leastTo op d r t i k < 0 by omega]
      · rw [if_neg h]
        simp [show leastTo op d r t i k < 0 by omega, hp.1]
theorem comp_eq (op d r t i : Int) : compR op d r t i = compC op d r t i := by
  unfold compR compC
  rw [lst_eq op d r t i (Nat.le_refl _), legal_eq]
  cases legalR op d r t i with
  | false => simp
  | true =>
    by_cases h : 0 ≤ leastTo op d r t i 26
    · simp [h]
    · simp [h]
theorem compE_eq (op d r t i : Int) : compE op d r t i = compCE op d r t i := by
  unfold compE compCE
  rw [lst_eq op d r t i (Nat.le_refl _), legal_eq]
  cases legalR op d r t i with
  | false => simp
  | true =>
    by_cases h : 0 ≤ leastTo op d r t i 26
    · simp [h]
    · simp [h]
end Hm
