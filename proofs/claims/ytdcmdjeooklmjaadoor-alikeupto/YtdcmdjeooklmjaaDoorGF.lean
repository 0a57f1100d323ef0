/-
  Z7 in one text.
-/
import Derived.Test.YtdcmdjeooklmjaaDoorGE
set_option linter.unusedVariables false
set_option linter.unusedSimpArgs false
/-
  The plain mathematics of Round, its first half, whole.
-/
namespace Hm

theorem sbx_reg (n : Int) (h0 : 0 ≤ n) (h1 : n ≤ 31) : sbx n 0 5 = n := by
  rw [sbx_eq, pw0, pw5]; omega

theorem backR {E rd rs1 rs2 imm : Int} (E0 : 0 ≤ E) (E1 : E < 4294967296) (hsrc : ∀ i a j, i < 32 → symE layR i = [(a, j)] → bt E i = if a = 0 then bt rd j else if a = 1 then bt rs1 j else if a = 2 then bt rs2 j else bt imm j)
    (hd : fitsC rd layR.rd = true) (hr : fitsC rs1 layR.rs1 = true) (ht : fitsC rs2 layR.rs2 = true) (hi : holdsC layR.least layR.most layR.even imm = true) : fldC layR E = ⟨rd, rs1, rs2, imm⟩ := by
  have bd := fitsC_bd hd
  have br := fitsC_bd hr
  have bt' := fitsC_bd ht
  obtain ⟨g1, g2, g3⟩ := reg_sbx E E0 E1
  have bi : 0 ≤ imm ∧ imm ≤ 0 := by
    simp [holdsC, layR] at hi; omega
  have ed : sbx E 7 5 = rd := ((sbx_congr (fun j hj => by have := hsrc (7 + j) 0 (0 + j) (by omega) ((show ∀ q : Fin 5, symE layR (7 + q.val) = [(0, 0 + q.val)] by decide) ⟨j, hj⟩); simpa using this)) : sbx E 7 5 = sbx rd 0 5).trans (sbx_reg rd bd.1 bd.2)
  have er : sbx E 15 5 = rs1 := ((sbx_congr (fun j hj => by have := hsrc (15 + j) 1 (0 + j) (by omega) ((show ∀ q : Fin 5, symE layR (15 + q.val) = [(1, 0 + q.val)] by decide) ⟨j, hj⟩); simpa using this)) : sbx E 15 5 = sbx rs1 0 5).trans (sbx_reg rs1 br.1 br.2)
  have et : sbx E 20 5 = rs2 := ((sbx_congr (fun j hj => by have := hsrc (20 + j) 2 (0 + j) (by omega) ((show ∀ q : Fin 5, symE layR (20 + q.val) = [(2, 0 + q.val)] by decide) ⟨j, hj⟩); simpa using this)) : sbx E 20 5 = sbx rs2 0 5).trans (sbx_reg rs2 bt'.1 bt'.2)
  show (⟨regC (E / 128) true, regC (E / 32768) true, regC (E / 1048576) true, sgnC (0) 0 (immA layR E 4)⟩ : Flds) = _
  rw [immSR E E0 E1, Flds.mk.injEq]
  refine ⟨g1.trans ed, g2.trans er, g3.trans et, ?_⟩
  have : imm = 0 := by omega
  rw [this]; rfl

theorem backI {E rd rs1 rs2 imm : Int} (E0 : 0 ≤ E) (E1 : E < 4294967296) (hsrc : ∀ i a j, i < 32 → symE layI i = [(a, j)] → bt E i = if a = 0 then bt rd j else if a = 1 then bt rs1 j else if a = 2 then bt rs2 j else bt imm j)
    (hd : fitsC rd layI.rd = true) (hr : fitsC rs1 layI.rs1 = true) (ht : fitsC rs2 layI.rs2 = true) (hi : holdsC layI.least layI.most layI.even imm = true) : fldC layI E = ⟨rd, rs1, rs2, imm⟩ := by
  have bd := fitsC_bd hd
  have br := fitsC_bd hr
  have bt' := fitsC_bd ht
  obtain ⟨g1, g2, g3⟩ := reg_sbx E E0 E1
  have bi : -2048 ≤ imm ∧ imm ≤ 2047 := by
    simp [holdsC, layI] at hi; omega
  have ed : sbx E 7 5 = rd := ((sbx_congr (fun j hj => by have := hsrc (7 + j) 0 (0 + j) (by omega) ((show ∀ q : Fin 5, symE layI (7 + q.val) = [(0, 0 + q.val)] by decide) ⟨j, hj⟩); simpa using this)) : sbx E 7 5 = sbx rd 0 5).trans (sbx_reg rd bd.1 bd.2)
  have er : sbx E 15 5 = rs1 := ((sbx_congr (fun j hj => by have := hsrc (15 + j) 1 (0 + j) (by omega) ((show ∀ q : Fin 5, symE layI (15 + q.val) = [(1, 0 + q.val)] by decide) ⟨j, hj⟩); simpa using this)) : sbx E 15 5 = sbx rs1 0 5).trans (sbx_reg rs1 br.1 br.2)
  have et : rs2 = 0 := by simpa [fitsC, layI] using ht
  have p0 : sbx E 20 12 = sbx imm 0 12 := sbx_congr (fun j hj => by have := hsrc (20 + j) 3 (0 + j) (by omega) ((show ∀ q : Fin 12, symE layI (20 + q.val) = [(3, 0 + q.val)] by decide) ⟨j, hj⟩); simpa using this)
  show (⟨regC (E / 128) true, regC (E / 32768) true, 0, sgnC (-2048) 2047 (immA layI E 4)⟩ : Flds) = _
  rw [immSI E E0 E1, p0, Flds.mk.injEq]
  refine ⟨g1.trans ed, g2.trans er, et.symm, ?_⟩
  have q0 := sbx_eq imm 0 12
  simp only [pw0, pw12] at q0
  have hn : sbx imm 0 12 = imm % 4096 := by omega
  rw [hn]
  unfold sgnC
  split <;> omega

theorem backH {E rd rs1 rs2 imm : Int} (E0 : 0 ≤ E) (E1 : E < 4294967296) (hsrc : ∀ i a j, i < 32 → symE layH i = [(a, j)] → bt E i = if a = 0 then bt rd j else if a = 1 then bt rs1 j else if a = 2 then bt rs2 j else bt imm j)
    (hd : fitsC rd layH.rd = true) (hr : fitsC rs1 layH.rs1 = true) (ht : fitsC rs2 layH.rs2 = true) (hi : holdsC layH.least layH.most layH.even imm = true) : fldC layH E = ⟨rd, rs1, rs2, imm⟩ := by
  have bd := fitsC_bd hd
  have br := fitsC_bd hr
  have bt' := fitsC_bd ht
  obtain ⟨g1, g2, g3⟩ := reg_sbx E E0 E1
  have bi : 0 ≤ imm ∧ imm ≤ 31 := by
    simp [holdsC, layH] at hi; omega
  have ed : sbx E 7 5 = rd := ((sbx_congr (fun j hj => by have := hsrc (7 + j) 0 (0 + j) (by omega) ((show ∀ q : Fin 5, symE layH (7 + q.val) = [(0, 0 + q.val)] by decide) ⟨j, hj⟩); simpa using this)) : sbx E 7 5 = sbx rd 0 5).trans (sbx_reg rd bd.1 bd.2)
  have er : sbx E 15 5 = rs1 := ((sbx_congr (fun j hj => by have := hsrc (15 + j) 1 (0 + j) (by omega) ((show ∀ q : Fin 5, symE layH (15 + q.val) = [(1, 0 + q.val)] by decide) ⟨j, hj⟩); simpa using this)) : sbx E 15 5 = sbx rs1 0 5).trans (sbx_reg rs1 br.1 br.2)
  have et : rs2 = 0 := by simpa [fitsC, layH] using ht
  have p0 : sbx E 20 5 = sbx imm 0 5 := sbx_congr (fun j hj => by have := hsrc (20 + j) 3 (0 + j) (by omega) ((show ∀ q : Fin 5, symE layH (20 + q.val) = [(3, 0 + q.val)] by decide) ⟨j, hj⟩); simpa using this)
  show (⟨regC (E / 128) true, regC (E / 32768) true, 0, sgnC (0) 31 (immA layH E 4)⟩ : Flds) = _
  rw [immSH E E0 E1, p0, Flds.mk.injEq]
  refine ⟨g1.trans ed, g2.trans er, et.symm, ?_⟩
  have q0 := sbx_eq imm 0 5
  simp only [pw0, pw5] at q0
  have hn : sbx imm 0 5 = imm % 32 := by omega
  rw [hn]
  unfold sgnC
  split <;> omega

theorem backS {E rd rs1 rs2 imm : Int} (E0 : 0 ≤ E) (E1 : E < 4294967296) (hsrc : ∀ i a j, i < 32 → symE layS i = [(a, j)] → bt E i = if a = 0 then bt rd j else if a = 1 then bt rs1 j else if a = 2 then bt rs2 j else bt imm j)
    (hd : fitsC rd layS.rd = true) (hr : fitsC rs1 layS.rs1 = true) (ht : fitsC rs2 layS.rs2 = true) (hi : holdsC layS.least layS.most layS.even imm = true) : fldC layS E = ⟨rd, rs1, rs2, imm⟩ := by
  have bd := fitsC_bd hd
  have br := fitsC_bd hr
  have bt' := fitsC_bd ht
  obtain ⟨g1, g2, g3⟩ := reg_sbx E E0 E1
  have bi : -2048 ≤ imm ∧ imm ≤ 2047 := by
    simp [holdsC, layS] at hi; omega
  have ed : rd = 0 := by simpa [fitsC, layS] using hd
  have er : sbx E 15 5 = rs1 := ((sbx_congr (fun j hj => by have := hsrc (15 + j) 1 (0 + j) (by omega) ((show ∀ q : Fin 5, symE layS (15 + q.val) = [(1, 0 + q.val)] by decide) ⟨j, hj⟩); simpa using this)) : sbx E 15 5 = sbx rs1 0 5).trans (sbx_reg rs1 br.1 br.2)
  have et : sbx E 20 5 = rs2 := ((sbx_congr (fun j hj => by have := hsrc (20 + j) 2 (0 + j) (by omega) ((show ∀ q : Fin 5, symE layS (20 + q.val) = [(2, 0 + q.val)] by decide) ⟨j, hj⟩); simpa using this)) : sbx E 20 5 = sbx rs2 0 5).trans (sbx_reg rs2 bt'.1 bt'.2)
  have p5 : sbx E 25 7 = sbx imm 5 7 := sbx_congr (fun j hj => by have := hsrc (25 + j) 3 (5 + j) (by omega) ((show ∀ q : Fin 7, symE layS (25 + q.val) = [(3, 5 + q.val)] by decide) ⟨j, hj⟩); simpa using this)
  have p0 : sbx E 7 5 = sbx imm 0 5 := sbx_congr (fun j hj => by have := hsrc (7 + j) 3 (0 + j) (by omega) ((show ∀ q : Fin 5, symE layS (7 + q.val) = [(3, 0 + q.val)] by decide) ⟨j, hj⟩); simpa using this)
  show (⟨0, regC (E / 32768) true, regC (E / 1048576) true, sgnC (-2048) 2047 (immA layS E 4)⟩ : Flds) = _
  rw [immSS E E0 E1, p5, p0, Flds.mk.injEq]
  refine ⟨ed.symm, g2.trans er, g3.trans et, ?_⟩
  have q5 := sbx_eq imm 5 7
  have q0 := sbx_eq imm 0 5
  simp only [pw0, pw5, pw7] at q5 q0
  have hn : sbx imm 5 7 * 32 + sbx imm 0 5 = imm % 4096 := by omega
  rw [hn]
  unfold sgnC
  split <;> omega

theorem backB {E rd rs1 rs2 imm : Int} (E0 : 0 ≤ E) (E1 : E < 4294967296) (hsrc : ∀ i a j, i < 32 → symE layB i = [(a, j)] → bt E i = if a = 0 then bt rd j else if a = 1 then bt rs1 j else if a = 2 then bt rs2 j else bt imm j)
    (hd : fitsC rd layB.rd = true) (hr : fitsC rs1 layB.rs1 = true) (ht : fitsC rs2 layB.rs2 = true) (hi : holdsC layB.least layB.most layB.even imm = true) : fldC layB E = ⟨rd, rs1, rs2, imm⟩ := by
  have bd := fitsC_bd hd
  have br := fitsC_bd hr
  have bt' := fitsC_bd ht
  obtain ⟨g1, g2, g3⟩ := reg_sbx E E0 E1
  have bi : -4096 ≤ imm ∧ imm ≤ 4094 ∧ imm % 2 = 0 := by
    simp [holdsC, layB] at hi; omega
  have ed : rd = 0 := by simpa [fitsC, layB] using hd
  have er : sbx E 15 5 = rs1 := ((sbx_congr (fun j hj => by have := hsrc (15 + j) 1 (0 + j) (by omega) ((show ∀ q : Fin 5, symE layB (15 + q.val) = [(1, 0 + q.val)] by decide) ⟨j, hj⟩); simpa using this)) : sbx E 15 5 = sbx rs1 0 5).trans (sbx_reg rs1 br.1 br.2)
  have et : sbx E 20 5 = rs2 := ((sbx_congr (fun j hj => by have := hsrc (20 + j) 2 (0 + j) (by omega) ((show ∀ q : Fin 5, symE layB (20 + q.val) = [(2, 0 + q.val)] by decide) ⟨j, hj⟩); simpa using this)) : sbx E 20 5 = sbx rs2 0 5).trans (sbx_reg rs2 bt'.1 bt'.2)
  have p12 : sbx E 31 1 = sbx imm 12 1 := sbx_congr (fun j hj => by have := hsrc (31 + j) 3 (12 + j) (by omega) ((show ∀ q : Fin 1, symE layB (31 + q.val) = [(3, 12 + q.val)] by decide) ⟨j, hj⟩); simpa using this)
  have p5 : sbx E 25 6 = sbx imm 5 6 := sbx_congr (fun j hj => by have := hsrc (25 + j) 3 (5 + j) (by omega) ((show ∀ q : Fin 6, symE layB (25 + q.val) = [(3, 5 + q.val)] by decide) ⟨j, hj⟩); simpa using this)
  have p1 : sbx E 8 4 = sbx imm 1 4 := sbx_congr (fun j hj => by have := hsrc (8 + j) 3 (1 + j) (by omega) ((show ∀ q : Fin 4, symE layB (8 + q.val) = [(3, 1 + q.val)] by decide) ⟨j, hj⟩); simpa using this)
  have p11 : sbx E 7 1 = sbx imm 11 1 := sbx_congr (fun j hj => by have := hsrc (7 + j) 3 (11 + j) (by omega) ((show ∀ q : Fin 1, symE layB (7 + q.val) = [(3, 11 + q.val)] by decide) ⟨j, hj⟩); simpa using this)
  show (⟨0, regC (E / 32768) true, regC (E / 1048576) true, sgnC (-4096) 4094 (immA layB E 4)⟩ : Flds) = _
  rw [immSB E E0 E1, p12, p5, p1, p11, Flds.mk.injEq]
  refine ⟨ed.symm, g2.trans er, g3.trans et, ?_⟩
  have q12 := sbx_eq imm 12 1
  have q5 := sbx_eq imm 5 6
  have q1 := sbx_eq imm 1 4
  have q11 := sbx_eq imm 11 1
  simp only [pw1, pw4, pw5, pw6, pw11, pw12] at q12 q5 q1 q11
  have hn : sbx imm 12 1 * 4096 + sbx imm 5 6 * 32 + sbx imm 1 4 * 2 + sbx imm 11 1 * 2048 = imm % 8192 := by omega
  rw [hn]
  unfold sgnC
  split <;> omega

theorem backU {E rd rs1 rs2 imm : Int} (E0 : 0 ≤ E) (E1 : E < 4294967296) (hsrc : ∀ i a j, i < 32 → symE layU i = [(a, j)] → bt E i = if a = 0 then bt rd j else if a = 1 then bt rs1 j else if a = 2 then bt rs2 j else bt imm j)
    (hd : fitsC rd layU.rd = true) (hr : fitsC rs1 layU.rs1 = true) (ht : fitsC rs2 layU.rs2 = true) (hi : holdsC layU.least layU.most layU.even imm = true) : fldC layU E = ⟨rd, rs1, rs2, imm⟩ := by
  have bd := fitsC_bd hd
  have br := fitsC_bd hr
  have bt' := fitsC_bd ht
  obtain ⟨g1, g2, g3⟩ := reg_sbx E E0 E1
  have bi : 0 ≤ imm ∧ imm ≤ 1048575 := by
    simp [holdsC, layU] at hi; omega
  have ed : sbx E 7 5 = rd := ((sbx_congr (fun j hj => by have := hsrc (7 + j) 0 (0 + j) (by omega) ((show ∀ q : Fin 5, symE layU (7 + q.val) = [(0, 0 + q.val)] by decide) ⟨j, hj⟩); simpa using this)) : sbx E 7 5 = sbx rd 0 5).trans (sbx_reg rd bd.1 bd.2)
  have er : rs1 = 0 := by simpa [fitsC, layU] using hr
  have et : rs2 = 0 := by simpa [fitsC, layU] using ht
  have p0 : sbx E 12 20 = sbx imm 0 20 := sbx_congr (fun j hj => by have := hsrc (12 + j) 3 (0 + j) (by omega) ((show ∀ q : Fin 20, symE layU (12 + q.val) = [(3, 0 + q.val)] by decide) ⟨j, hj⟩); simpa using this)
  show (⟨regC (E / 128) true, 0, 0, sgnC (0) 1048575 (immA layU E 4)⟩ : Flds) = _
  rw [immSU E E0 E1, p0, Flds.mk.injEq]
  refine ⟨g1.trans ed, er.symm, et.symm, ?_⟩
  have q0 := sbx_eq imm 0 20
  simp only [pw0, pw20] at q0
  have hn : sbx imm 0 20 = imm % 1048576 := by omega
  rw [hn]
  unfold sgnC
  split <;> omega

theorem backJ {E rd rs1 rs2 imm : Int} (E0 : 0 ≤ E) (E1 : E < 4294967296) (hsrc : ∀ i a j, i < 32 → symE layJ i = [(a, j)] → bt E i = if a = 0 then bt rd j else if a = 1 then bt rs1 j else if a = 2 then bt rs2 j else bt imm j)
    (hd : fitsC rd layJ.rd = true) (hr : fitsC rs1 layJ.rs1 = true) (ht : fitsC rs2 layJ.rs2 = true) (hi : holdsC layJ.least layJ.most layJ.even imm = true) : fldC layJ E = ⟨rd, rs1, rs2, imm⟩ := by
  have bd := fitsC_bd hd
  have br := fitsC_bd hr
  have bt' := fitsC_bd ht
  obtain ⟨g1, g2, g3⟩ := reg_sbx E E0 E1
  have bi : -1048576 ≤ imm ∧ imm ≤ 1048574 ∧ imm % 2 = 0 := by
    simp [holdsC, layJ] at hi; omega
  have ed : sbx E 7 5 = rd := ((sbx_congr (fun j hj => by have := hsrc (7 + j) 0 (0 + j) (by omega) ((show ∀ q : Fin 5, symE layJ (7 + q.val) = [(0, 0 + q.val)] by decide) ⟨j, hj⟩); simpa using this)) : sbx E 7 5 = sbx rd 0 5).trans (sbx_reg rd bd.1 bd.2)
  have er : rs1 = 0 := by simpa [fitsC, layJ] using hr
  have et : rs2 = 0 := by simpa [fitsC, layJ] using ht
  have p20 : sbx E 31 1 = sbx imm 20 1 := sbx_congr (fun j hj => by have := hsrc (31 + j) 3 (20 + j) (by omega) ((show ∀ q : Fin 1, symE layJ (31 + q.val) = [(3, 20 + q.val)] by decide) ⟨j, hj⟩); simpa using this)
  have p1 : sbx E 21 10 = sbx imm 1 10 := sbx_congr (fun j hj => by have := hsrc (21 + j) 3 (1 + j) (by omega) ((show ∀ q : Fin 10, symE layJ (21 + q.val) = [(3, 1 + q.val)] by decide) ⟨j, hj⟩); simpa using this)
  have p11 : sbx E 20 1 = sbx imm 11 1 := sbx_congr (fun j hj => by have := hsrc (20 + j) 3 (11 + j) (by omega) ((show ∀ q : Fin 1, symE layJ (20 + q.val) = [(3, 11 + q.val)] by decide) ⟨j, hj⟩); simpa using this)
  have p12 : sbx E 12 8 = sbx imm 12 8 := sbx_congr (fun j hj => by have := hsrc (12 + j) 3 (12 + j) (by omega) ((show ∀ q : Fin 8, symE layJ (12 + q.val) = [(3, 12 + q.val)] by decide) ⟨j, hj⟩); simpa using this)
  show (⟨regC (E / 128) true, 0, 0, sgnC (-1048576) 1048574 (immA layJ E 4)⟩ : Flds) = _
  rw [immSJ E E0 E1, p20, p1, p11, p12, Flds.mk.injEq]
  refine ⟨g1.trans ed, er.symm, et.symm, ?_⟩
  have q20 := sbx_eq imm 20 1
  have q1 := sbx_eq imm 1 10
  have q11 := sbx_eq imm 11 1
  have q12 := sbx_eq imm 12 8
  simp only [pw1, pw8, pw10, pw11, pw12, pw20] at q20 q1 q11 q12
  have hn : sbx imm 20 1 * 1048576 + sbx imm 1 10 * 2 + sbx imm 11 1 * 2048 + sbx imm 12 8 * 4096 = imm % 2097152 := by omega
  rw [hn]
  unfold sgnC
  split <;> omega

theorem backN {E rd rs1 rs2 imm : Int} (E0 : 0 ≤ E) (E1 : E < 4294967296) (hsrc : ∀ i a j, i < 32 → symE layN i = [(a, j)] → bt E i = if a = 0 then bt rd j else if a = 1 then bt rs1 j else if a = 2 then bt rs2 j else bt imm j)
    (hd : fitsC rd layN.rd = true) (hr : fitsC rs1 layN.rs1 = true) (ht : fitsC rs2 layN.rs2 = true) (hi : holdsC layN.least layN.most layN.even imm = true) : fldC layN E = ⟨rd, rs1, rs2, imm⟩ := by
  have bd := fitsC_bd hd
  have br := fitsC_bd hr
  have bt' := fitsC_bd ht
  obtain ⟨g1, g2, g3⟩ := reg_sbx E E0 E1
  have bi : 0 ≤ imm ∧ imm ≤ 0 := by
    simp [holdsC, layN] at hi; omega
  have ed : rd = 0 := by simpa [fitsC, layN] using hd
  have er : rs1 = 0 := by simpa [fitsC, layN] using hr
  have et : rs2 = 0 := by simpa [fitsC, layN] using ht
  show (⟨0, 0, 0, sgnC (0) 0 (immA layN E 4)⟩ : Flds) = _
  rw [immSN E E0 E1, Flds.mk.injEq]
  refine ⟨ed.symm, er.symm, et.symm, ?_⟩
  have : imm = 0 := by omega
  rw [this]; rfl

theorem fld_back {k : Nat} {rd rs1 rs2 imm : Int} (hl : legalC k rd rs1 rs2 imm = true) : fldC (lay (fmtT k)) (encC k rd rs1 rs2 imm) = ⟨rd, rs1, rs2, imm⟩ := by
  have hop := legal_op hl
  have hu := enc_u32 hl
  have hsrc := fun i a j hi hs => enc_src hl (i := i) (a := a) (j := j) hi hs
  have ht := tab_ok (k := k) (by omega) (by omega)
  have hl' := hl
  unfold legalC at hl'
  have hf : fmtOf (k : Int) = fmtT k := by unfold fmtOf; rw [if_pos (by omega), Int.toNat_natCast]
  rw [hf] at hl'
  split at hl'
  · cases hl'
  simp only [Bool.and_eq_true] at hl'
  obtain ⟨⟨⟨h1, h2⟩, h3⟩, h4⟩ := hl'
  have f0 := ht.f0
  have f1 := ht.f1
  generalize fmtT k = f at *
  generalize encC k rd rs1 rs2 imm = E at *
  have hc : f = 1 ∨ f = 2 ∨ f = 3 ∨ f = 4 ∨ f = 5 ∨ f = 6 ∨ f = 7 ∨ f = 8 ∨ f = 9 := by omega
  rcases hc with rfl | rfl | rfl | rfl | rfl | rfl | rfl | rfl | rfl
  · exact backR hu.1 hu.2 hsrc h1 h2 h3 h4
  · exact backI hu.1 hu.2 hsrc h1 h2 h3 h4
  · exact backH hu.1 hu.2 hsrc h1 h2 h3 h4
  · exact backS hu.1 hu.2 hsrc h1 h2 h3 h4
  · exact backB hu.1 hu.2 hsrc h1 h2 h3 h4
  · exact backU hu.1 hu.2 hsrc h1 h2 h3 h4
  · exact backJ hu.1 hu.2 hsrc h1 h2 h3 h4
  · exact backN hu.1 hu.2 hsrc h1 h2 h3 h4
  · exact backN hu.1 hu.2 hsrc h1 h2 h3 h4

/-- What is written of a legal instruction is read as it. -/
theorem round_a {op rd rs1 rs2 imm : Int} (hl : legalC op rd rs1 rs2 imm = true) : decC (encC op rd rs1 rs2 imm) = ⟨op, ⟨rd, rs1, rs2, imm⟩, 0⟩ := by
  have hop := legal_op hl
  obtain ⟨k, rfl⟩ := Int.eq_ofNat_of_zero_le (by omega : 0 ≤ op)
  have hu := enc_u32 hl
  have hb := enc_ok hl
  have h0 : 1 ≤ k := by omega
  have h1 : k ≤ 48 := by omega
  have hlen := (ok_all h0 h1).2
  have hm : matchC (encC k rd rs1 rs2 imm) k = true := by rw [match_eq hu.1 hu.2 h0 h1]; exact match_self hu.1 hu.2 hb
  have hno : ∀ i, 1 ≤ i → i < k → matchC (encC k rd rs1 rs2 imm) i = false := fun i hi hik => by
    rw [match_eq hu.1 hu.2 hi (by omega)]
    exact match_other hu.1 hu.2 hb (by rw [hlen, (ok_all hi (by omega)).2]) (clash_all h0 h1 hi (by omega) hik)
  unfold decC
  rw [dec_first hm 48 1 h0 (by omega) hno, fld_back hl]
end Hm
