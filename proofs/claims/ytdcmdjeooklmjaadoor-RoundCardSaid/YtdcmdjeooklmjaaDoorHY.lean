/-
  Z6 Z7 Z8 in one text.
-/
import Derived.Test.YtdcmdjeooklmjaaDoorHZ
import Derived.Test.YtdcmdjeooklmjaaDoorHI
set_option linter.unusedVariables false
set_option linter.unusedSimpArgs false
/-
  The plain mathematics of Round, its first half: what is written is read.
-/
namespace Hm

theorem bt_floor (n : Int) (j : Nat) (hj : j < 32) : bt n j = n / pw j % 2 := by
  unfold bt
  have hp := pw_pos j
  have e32 : (4294967296 : Int) = pw j * pw (32 - j) := by rw [← pw_add, show j + (32 - j) = 32 from by omega]; decide
  have e2 : pw (32 - j) = 2 * pw (31 - j) := by rw [← pw_succ]; congr 1; omega
  have h := Int.emod_add_mul_ediv n 4294967296
  have h1 : n / pw j = n % 4294967296 / pw j + pw (32 - j) * (n / 4294967296) := by
    conv => lhs; rw [← h]
    rw [show (4294967296 : Int) * (n / 4294967296) = pw j * (pw (32 - j) * (n / 4294967296)) from by rw [← Int.mul_assoc, ← e32]]
    exact Int.add_mul_ediv_left _ _ (by omega)
  rw [h1, e2, Int.mul_assoc]
  generalize pw (31 - j) * (n / 4294967296) = z
  omega
theorem sbx_congr {x y : Int} {a b : Nat} : ∀ {n : Nat}, (∀ j, j < n → bt x (a + j) = bt y (b + j)) → sbx x a n = sbx y b n
  | 0, _ => rfl
  | n + 1, h => by rw [sbx, sbx, sbx_congr (fun j hj => h j (by omega)), h n (by omega)]
theorem b01_inj {a b : Bool} (h : b01 a = b01 b) : a = b := by cases a <;> cases b <;> simp_all [b01]

theorem enc_u32 {op rd rs1 rs2 imm : Int} (hl : legalC op rd rs1 rs2 imm = true) : U32 (encC op rd rs1 rs2 imm) := by
  have hb := legal_bd hl
  have h0 : U32 (bitOf op) := bit_bd op
  have h1 : U32 (rd * 128) := ⟨by have := hb.d; omega, by have := hb.d; omega⟩
  have h2 : U32 (rs1 * 32768) := ⟨by have := hb.r; omega, by have := hb.r; omega⟩
  have h3 : U32 (rs2 * 1048576) := ⟨by have := hb.t; omega, by have := hb.t; omega⟩
  unfold encC
  rw [if_pos hl]
  exact encA_u32 (orI_u32 (orI_u32 (orI_u32 h0 h1) h2) h3) 4
theorem legal_op {op rd rs1 rs2 imm : Int} (hl : legalC op rd rs1 rs2 imm = true) : 1 ≤ op ∧ op ≤ 48 := by
  by_cases h : 1 ≤ op ∧ op ≤ 48
  · exact h
  · rw [legal_eq] at hl; unfold legalR at hl; rw [if_neg h] at hl; cases hl
theorem enc_ok {k : Nat} {rd rs1 rs2 imm : Int} (hl : legalC k rd rs1 rs2 imm = true) : bitsOk rd rs1 rs2 imm (encC k rd rs1 rs2 imm) (bitsL k) := by
  have hop := legal_op hl
  have hu := enc_u32 hl
  obtain ⟨ok, _⟩ := ok_all (k := k) (by omega) (by omega)
  have hbits := enc_bits (op := k) rfl (by omega) (by omega) hl
  unfold encC at hu ⊢
  rw [if_pos hl] at hu ⊢
  generalize encA (lay (fmtOf k)) (enc0 k rd rs1 rs2) (imm % 4294967296) 4 = E at *
  obtain ⟨N, rfl⟩ := Int.eq_ofNat_of_zero_le hu.1
  rw [Int.toNat_natCast] at hbits
  exact bitsOk_of hbits ok

/-! ### Which Op matches -/
theorem match_self {d r t imm E : Int} (h0 : 0 ≤ E) (h1 : E < 4294967296) : ∀ {l : List UInt8}, bitsOk d r t imm E l → matchL E l = true
  | [], _ => rfl
  | c :: l, ⟨hb, hr⟩ => by
    unfold matchL
    rw [match_self h0 h1 hr, Bool.and_true]
    have e : bt E l.length = fbit d r t imm c l := by unfold bt; rw [← hb]; congr 2; omega
    rw [e]
    unfold miss fbit
    by_cases c0 : (c.toNat : Int) = 48
    · rw [c0]; rfl
    by_cases c1 : (c.toNat : Int) = 49
    · rw [c1]; rfl
    have e0 : ((c.toNat : Int) == 48) = false := by simpa using c0
    have e1 : ((c.toNat : Int) == 49) = false := by simpa using c1
    rw [e0, e1]; rfl
def clash : List UInt8 → List UInt8 → Bool
  | c :: l, c' :: l' => (((c.toNat : Int) == 48 && (c'.toNat : Int) == 49) || ((c.toNat : Int) == 49 && (c'.toNat : Int) == 48)) || clash l l'
  | _, _ => false
theorem match_other {d r t imm E : Int} (h0 : 0 ≤ E) (h1 : E < 4294967296) : ∀ {l l' : List UInt8}, bitsOk d r t imm E l → l.length = l'.length → clash l l' = true → matchL E l' = false
  | c :: l, c' :: l', ⟨hb, hr⟩, hlen, hc => by
    unfold clash at hc
    unfold matchL
    rw [Bool.or_eq_true] at hc
    rcases hc with hc | hc
    · have hl2 : l'.length = l.length := by simpa using hlen.symm
      have e : bt E l'.length = fbit d r t imm c l := by rw [hl2]; unfold bt; rw [← hb]; congr 2; omega
      rw [e]
      unfold miss fbit
      rw [Bool.or_eq_true, Bool.and_eq_true, Bool.and_eq_true] at hc
      simp only [beq_iff_eq] at hc
      rcases hc with ⟨a, b⟩ | ⟨a, b⟩ <;> rw [a, b] <;> rfl
    · rw [match_other h0 h1 hr (by simpa using hlen) hc, Bool.and_false]
  | [], _, _, _, hc => by unfold clash at hc; cases hc
  | _ :: _, [], _, _, hc => by unfold clash at hc; cases hc
theorem clash_all {k k' : Nat} (h0 : 1 ≤ k) (h1 : k ≤ 48) (h0' : 1 ≤ k') (h1' : k' ≤ 48) (hne : k' < k) : clash (bitsL k) (bitsL k') = true := by
  have : ∀ j j' : Fin 49, j.val = 0 ∨ j'.val = 0 ∨ ¬ j'.val < j.val ∨ clash (bitsL j) (bitsL j') = true := by decide +kernel
  rcases this ⟨k, by omega⟩ ⟨k', by omega⟩ with h | h | h | h
  · simp at h; omega
  · simp at h; omega
  · exact absurd hne h
  · exact h
theorem dec_first {E : Int} {k : Nat} (hk : matchC E k = true) : ∀ (n j : Nat), j ≤ k → k < j + n → (∀ i, j ≤ i → i < k → matchC E i = false) → decCFrom E n j = ⟨k, fldC (lay (fmtT k)) E, 0⟩
  | 0, j, h1, h2, _ => by omega
  | n + 1, j, h1, h2, hno => by
    by_cases e : j = k
    · subst e; exact decCFrom_yes hk
    · rw [decCFrom_no (hno j (Nat.le_refl _) (by omega))]
      exact dec_first hk n (j + 1) (by omega) (by omega) (fun i h h' => hno i (by omega) h')

/-! ### The fields -/
theorem no_bit {k i : Nat} (h0 : 1 ≤ k) (h1 : k ≤ 48) (hi : i < 32) (hs : symE (lay (fmtT k)) i ≠ []) : (bitT k).toNat.testBit i = false := by
  have : ∀ (j : Fin 49) (i : Fin 32), j.val = 0 ∨ symE (lay (fmtT j)) i = [] ∨ (bitT j).toNat.testBit i = false := by decide +kernel
  rcases this ⟨k, by omega⟩ ⟨i, hi⟩ with h | h | h
  · simp at h; omega
  · exact absurd h hs
  · exact h
/-- A bit of what is written that has one source. -/
theorem enc_src {k : Nat} {rd rs1 rs2 imm : Int} (hl : legalC k rd rs1 rs2 imm = true) {i a j : Nat} (hi : i < 32) (hs : symE (lay (fmtT k)) i = [(a, j)]) :
    bt (encC k rd rs1 rs2 imm) i = if a = 0 then bt rd j else if a = 1 then bt rs1 j else if a = 2 then bt rs2 j else bt imm j := by
  have hop := legal_op hl
  have hu := enc_u32 hl
  have hbits := enc_bits (op := k) rfl (by omega) (by omega) hl i
  rw [hs, no_bit (by omega) (by omega) hi (by rw [hs]; simp)] at hbits
  have e : encC k rd rs1 rs2 imm % 4294967296 = encC k rd rs1 rs2 imm := by have := hu.1; have := hu.2; omega
  rw [bt_nat, e]
  unfold encC
  rw [if_pos hl, hbits]
  simp only [List.any_cons, List.any_nil, Bool.or_false, Bool.false_or]
  unfold ev
  rw [bt_nat rd, bt_nat rs1, bt_nat rs2, bt_nat imm]
  repeat' split
  all_goals rfl
end Hm

/-
  The plain mathematics of Round, its first half, whole.
-/
namespace Hm

theorem sbx_reg (n : Int) (h0 : 0 ≤ n) (h1 : n ≤ 31) : sbx n 0 5 = n := by
  rw [sbx_eq, pw0, pw5]; omega

theorem backR {E rd rs1 rs2 imm : Int} (E0 : 0 ≤ E) (E1 : E < 4294967296) (hsrc : ∀ i a j, i < 32 → symE layR i = [(a, j)] → bt E i = if a = 0 then bt rd j else if a = 1 then bt rs1 j else if a = 2 then bt rs2 j else bt imm j)
    (hd : fitsC rd layR.rd = true) (hr : fitsC rs1 layR.rs1 = true) (ht : fitsC rs2 layR.rs2 = true) (hi : holdsC layR.least layR.most layR.even imm = true) : fldC layR E = ⟨rd, rs1, rs2, imm⟩ := by
  have bd := fitsC_bd hd
  have br := fitsC_bd hr
  have bt' := fitsC_bd ht
  obtain ⟨g1, g2, g3⟩ := reg_sbx E E0 E1
  have bi : 0 ≤ imm ∧ imm ≤ 0 := by
    simp [holdsC, layR] at hi; omega
  have ed : sbx E 7 5 = rd := ((sbx_congr (fun j hj => by have := hsrc (7 + j) 0 (0 + j) (by omega) ((show ∀ q : Fin 5, symE layR (7 + q.val) = [(0, 0 + q.val)] by decide) ⟨j, hj⟩); simpa using this)) : sbx E 7 5 = sbx rd 0 5).trans (sbx_reg rd bd.1 bd.2)
  have er : sbx E 15 5 = rs1 := ((sbx_congr (fun j hj => by have := hsrc (15 + j) 1 (0 + j) (by omega) ((show ∀ q : Fin 5, symE layR (15 + q.val) = [(1, 0 + q.val)] by decide) ⟨j, hj⟩); simpa using this)) : sbx E 15 5 = sbx rs1 0 5).trans (sbx_reg rs1 br.1 br.2)
  have et : sbx E 20 5 = rs2 := ((sbx_congr (fun j hj => by have := hsrc (20 + j) 2 (0 + j) (by omega) ((show ∀ q : Fin 5, symE layR (20 + q.val) = [(2, 0 + q.val)] by decide) ⟨j, hj⟩); simpa using this)) : sbx E 20 5 = sbx rs2 0 5).trans (sbx_reg rs2 bt'.1 bt'.2)
  show (⟨regC (E / 128) true, regC (E / 32768) true, regC (E / 1048576) true, sgnC (0) 0 (immA layR E 4)⟩ : Flds) = _
  rw [immSR E E0 E1, Flds.mk.injEq]
  refine ⟨g1.trans ed, g2.trans er, g3.trans et, ?_⟩
  have : imm = 0 := by omega
  rw [this]; rfl

theorem backI {E rd rs1 rs2 imm : Int} (E0 : 0 ≤ E) (E1 : E < 4294967296) (hsrc : ∀ i a j, i < 32 → symE layI i = [(a, j)] → bt E i = if a = 0 then bt rd j else if a = 1 then bt rs1 j else if a = 2 then bt rs2 j else bt imm j)
    (hd : fitsC rd layI.rd = true) (hr : fitsC rs1 layI.rs1 = true) (ht : fitsC rs2 layI.rs2 = true) (hi : holdsC layI.least layI.most layI.even imm = true) : fldC layI E = ⟨rd, rs1, rs2, imm⟩ := by
  have bd := fitsC_bd hd
  have br := fitsC_bd hr
  have bt' := fitsC_bd ht
  obtain ⟨g1, g2, g3⟩ := reg_sbx E E0 E1
  have bi : -2048 ≤ imm ∧ imm ≤ 2047 := by
    simp [holdsC, layI] at hi; omega
  have ed : sbx E 7 5 = rd := ((sbx_congr (fun j hj => by have := hsrc (7 + j) 0 (0 + j) (by omega) ((show ∀ q : Fin 5, symE layI (7 + q.val) = [(0, 0 + q.val)] by decide) ⟨j, hj⟩); simpa using this)) : sbx E 7 5 = sbx rd 0 5).trans (sbx_reg rd bd.1 bd.2)
  have er : sbx E 15 5 = rs1 := ((sbx_congr (fun j hj => by have := hsrc (15 + j) 1 (0 + j) (by omega) ((show ∀ q : Fin 5, symE layI (15 + q.val) = [(1, 0 + q.val)] by decide) ⟨j, hj⟩); simpa using this)) : sbx E 15 5 = sbx rs1 0 5).trans (sbx_reg rs1 br.1 br.2)
  have et : rs2 = 0 := by simpa [fitsC, layI] using ht
  have p0 : sbx E 20 12 = sbx imm 0 12 := sbx_congr (fun j hj => by have := hsrc (20 + j) 3 (0 + j) (by omega) ((show ∀ q : Fin 12, symE layI (20 + q.val) = [(3, 0 + q.val)] by decide) ⟨j, hj⟩); simpa using this)
  show (⟨regC (E / 128) true, regC (E / 32768) true, 0, sgnC (-2048) 2047 (immA layI E 4)⟩ : Flds) = _
  rw [immSI E E0 E1, p0, Flds.mk.injEq]
  refine ⟨g1.trans ed, g2.trans er, et.symm, ?_⟩
  have q0 := sbx_eq imm 0 12
  simp only [pw0, pw12] at q0
  have hn : sbx imm 0 12 = imm % 4096 := by omega
  rw [hn]
  unfold sgnC
  split <;> omega

theorem backH {E rd rs1 rs2 imm : Int} (E0 : 0 ≤ E) (E1 : E < 4294967296) (hsrc : ∀ i a j, i < 32 → symE layH i = [(a, j)] → bt E i = if a = 0 then bt rd j else if a = 1 then bt rs1 j else if a = 2 then bt rs2 j else bt imm j)
    (hd : fitsC rd layH.rd = true) (hr : fitsC rs1 layH.rs1 = true) (ht : fitsC rs2 layH.rs2 = true) (hi : holdsC layH.least layH.most layH.even imm = true) : fldC layH E = ⟨rd, rs1, rs2, imm⟩ := by
  have bd := fitsC_bd hd
  have br := fitsC_bd hr
  have bt' := fitsC_bd ht
  obtain ⟨g1, g2, g3⟩ := reg_sbx E E0 E1
  have bi : 0 ≤ imm ∧ imm ≤ 31 := by
    simp [holdsC, layH] at hi; omega
  have ed : sbx E 7 5 = rd := ((sbx_congr (fun j hj => by have := hsrc (7 + j) 0 (0 + j) (by omega) ((show ∀ q : Fin 5, symE layH (7 + q.val) = [(0, 0 + q.val)] by decide) ⟨j, hj⟩); simpa using this)) : sbx E 7 5 = sbx rd 0 5).trans (sbx_reg rd bd.1 bd.2)
  have er : sbx E 15 5 = rs1 := ((sbx_congr (fun j hj => by have := hsrc (15 + j) 1 (0 + j) (by omega) ((show ∀ q : Fin 5, symE layH (15 + q.val) = [(1, 0 + q.val)] by decide) ⟨j, hj⟩); simpa using this)) : sbx E 15 5 = sbx rs1 0 5).trans (sbx_reg rs1 br.1 br.2)
  have et : rs2 = 0 := by simpa [fitsC, layH] using ht
  have p0 : sbx E 20 5 = sbx imm 0 5 := sbx_congr (fun j hj => by have := hsrc (20 + j) 3 (0 + j) (by omega) ((show ∀ q : Fin 5, symE layH (20 + q.val) = [(3, 0 + q.val)] by decide) ⟨j, hj⟩); simpa using this)
  show (⟨regC (E / 128) true, regC (E / 32768) true, 0, sgnC (0) 31 (immA layH E 4)⟩ : Flds) = _
  rw [immSH E E0 E1, p0, Flds.mk.injEq]
  refine ⟨g1.trans ed, g2.trans er, et.symm, ?_⟩
  have q0 := sbx_eq imm 0 5
  simp only [pw0, pw5] at q0
  have hn : sbx imm 0 5 = imm % 32 := by omega
  rw [hn]
  unfold sgnC
  split <;> omega

theorem backS {E rd rs1 rs2 imm : Int} (E0 : 0 ≤ E) (E1 : E < 4294967296) (hsrc : ∀ i a j, i < 32 → symE layS i = [(a, j)] → bt E i = if a = 0 then bt rd j else if a = 1 then bt rs1 j else if a = 2 then bt rs2 j else bt imm j)
    (hd : fitsC rd layS.rd = true) (hr : fitsC rs1 layS.rs1 = true) (ht : fitsC rs2 layS.rs2 = true) (hi : holdsC layS.least layS.most layS.even imm = true) : fldC layS E = ⟨rd, rs1, rs2, imm⟩ := by
  have bd := fitsC_bd hd
  have br := fitsC_bd hr
  have bt' := fitsC_bd ht
  obtain ⟨g1, g2, g3⟩ := reg_sbx E E0 E1
  have bi : -2048 ≤ imm ∧ imm ≤ 2047 := by
    simp [holdsC, layS] at hi; omega
  have ed : rd = 0 := by simpa [fitsC, layS] using hd
  have er : sbx E 15 5 = rs1 := ((sbx_congr (fun j hj => by have := hsrc (15 + j) 1 (0 + j) (by omega) ((show ∀ q : Fin 5, symE layS (15 + q.val) = [(1, 0 + q.val)] by decide) ⟨j, hj⟩); simpa using this)) : sbx E 15 5 = sbx rs1 0 5).trans (sbx_reg rs1 br.1 br.2)
  have et : sbx E 20 5 = rs2 := ((sbx_congr (fun j hj => by have := hsrc (20 + j) 2 (0 + j) (by omega) ((show ∀ q : Fin 5, symE layS (20 + q.val) = [(2, 0 + q.val)] by decide) ⟨j, hj⟩); simpa using this)) : sbx E 20 5 = sbx rs2 0 5).trans (sbx_reg rs2 bt'.1 bt'.2)
  have p5 : sbx E 25 7 = sbx imm 5 7 := sbx_congr (fun j hj => by have := hsrc (25 + j) 3 (5 + j) (by omega) ((show ∀ q : Fin 7, symE layS (25 + q.val) = [(3, 5 + q.val)] by decide) ⟨j, hj⟩); simpa using this)
  have p0 : sbx E 7 5 = sbx imm 0 5 := sbx_congr (fun j hj => by have := hsrc (7 + j) 3 (0 + j) (by omega) ((show ∀ q : Fin 5, symE layS (7 + q.val) = [(3, 0 + q.val)] by decide) ⟨j, hj⟩); simpa using this)
  show (⟨0, regC (E / 32768) true, regC (E / 1048576) true, sgnC (-2048) 2047 (immA layS E 4)⟩ : Flds) = _
  rw [immSS E E0 E1, p5, p0, Flds.mk.injEq]
  refine ⟨ed.symm, g2.trans er, g3.trans et, ?_⟩
  have q5 := sbx_eq imm 5 7
  have q0 := sbx_eq imm 0 5
  simp only [pw0, pw5, pw7] at q5 q0
  have hn : sbx imm 5 7 * 32 + sbx imm 0 5 = imm % 4096 := by omega
  rw [hn]
  unfold sgnC
  split <;> omega

theorem backB {E rd rs1 rs2 imm : Int} (E0 : 0 ≤ E) (E1 : E < 4294967296) (hsrc : ∀ i a j, i < 32 → symE layB i = [(a, j)] → bt E i = if a = 0 then bt rd j else if a = 1 then bt rs1 j else if a = 2 then bt rs2 j else bt imm j)
    (hd : fitsC rd layB.rd = true) (hr : fitsC rs1 layB.rs1 = true) (ht : fitsC rs2 layB.rs2 = true) (hi : holdsC layB.least layB.most layB.even imm = true) : fldC layB E = ⟨rd, rs1, rs2, imm⟩ := by
  have bd := fitsC_bd hd
  have br := fitsC_bd hr
  have bt' := fitsC_bd ht
  obtain ⟨g1, g2, g3⟩ := reg_sbx E E0 E1
  have bi : -4096 ≤ imm ∧ imm ≤ 4094 ∧ imm % 2 = 0 := by
    simp [holdsC, layB] at hi; omega
  have ed : rd = 0 := by simpa [fitsC, layB] using hd
  have er : sbx E 15 5 = rs1 := ((sbx_congr (fun j hj => by have := hsrc (15 + j) 1 (0 + j) (by omega) ((show ∀ q : Fin 5, symE layB (15 + q.val) = [(1, 0 + q.val)] by decide) ⟨j, hj⟩); simpa using this)) : sbx E 15 5 = sbx rs1 0 5).trans (sbx_reg rs1 br.1 br.2)
  have et : sbx E 20 5 = rs2 := ((sbx_congr (fun j hj => by have := hsrc (20 + j) 2 (0 + j) (by omega) ((show ∀ q : Fin 5, symE layB (20 + q.val) = [(2, 0 + q.val)] by decide) ⟨j, hj⟩); simpa using this)) : sbx E 20 5 = sbx rs2 0 5).trans (sbx_reg rs2 bt'.1 bt'.2)
  have p12 : sbx E 31 1 = sbx imm 12 1 := sbx_congr (fun j hj => by have := hsrc (31 + j) 3 (12 + j) (by omega) ((show ∀ q : Fin 1, symE layB (31 + q.val) = [(3, 12 + q.val)] by decide) ⟨j, hj⟩); simpa using this)
  have p5 : sbx E 25 6 = sbx imm 5 6 := sbx_congr (fun j hj => by have := hsrc (25 + j) 3 (5 + j) (by omega) ((show ∀ q : Fin 6, symE layB (25 + q.val) = [(3, 5 + q.val)] by decide) ⟨j, hj⟩); simpa using this)
  have p1 : sbx E 8 4 = sbx imm 1 4 := sbx_congr (fun j hj => by have := hsrc (8 + j) 3 (1 + j) (by omega) ((show ∀ q : Fin 4, symE layB (8 + q.val) = [(3, 1 + q.val)] by decide) ⟨j, hj⟩); simpa using this)
  have p11 : sbx E 7 1 = sbx imm 11 1 := sbx_congr (fun j hj => by have := hsrc (7 + j) 3 (11 + j) (by omega) ((show ∀ q : Fin 1, symE layB (7 + q.val) = [(3, 11 + q.val)] by decide) ⟨j, hj⟩); simpa using this)
  show (⟨0, regC (E / 32768) true, regC (E / 1048576) true, sgnC (-4096) 4094 (immA layB E 4)⟩ : Flds) = _
  rw [immSB E E0 E1, p12, p5, p1, p11, Flds.mk.injEq]
  refine ⟨ed.symm, g2.trans er, g3.trans et, ?_⟩
  have q12 := sbx_eq imm 12 1
  have q5 := sbx_eq imm 5 6
  have q1 := sbx_eq imm 1 4
  have q11 := sbx_eq imm 11 1
  simp only [pw1, pw4, pw5, pw6, pw11, pw12] at q12 q5 q1 q11
  have hn : sbx imm 12 1 * 4096 + sbx imm 5 6 * 32 + sbx imm 1 4 * 2 + sbx imm 11 1 * 2048 = imm % 8192 := by omega
  rw [hn]
  unfold sgnC
  split <;> omega

theorem backU {E rd rs1 rs2 imm : Int} (E0 : 0 ≤ E) (E1 : E < 4294967296) (hsrc : ∀ i a j, i < 32 → symE layU i = [(a, j)] → bt E i = if a = 0 then bt rd j else if a = 1 then bt rs1 j else if a = 2 then bt rs2 j else bt imm j)
    (hd : fitsC rd layU.rd = true) (hr : fitsC rs1 layU.rs1 = true) (ht : fitsC rs2 layU.rs2 = true) (hi : holdsC layU.least layU.most layU.even imm = true) : fldC layU E = ⟨rd, rs1, rs2, imm⟩ := by
  have bd := fitsC_bd hd
  have br := fitsC_bd hr
  have bt' := fitsC_bd ht
  obtain ⟨g1, g2, g3⟩ := reg_sbx E E0 E1
  have bi : 0 ≤ imm ∧ imm ≤ 1048575 := by
    simp [holdsC, layU] at hi; omega
  have ed : sbx E 7 5 = rd := ((sbx_congr (fun j hj => by have := hsrc (7 + j) 0 (0 + j) (by omega) ((show ∀ q : Fin 5, symE layU (7 + q.val) = [(0, 0 + q.val)] by decide) ⟨j, hj⟩); simpa using this)) : sbx E 7 5 = sbx rd 0 5).trans (sbx_reg rd bd.1 bd.2)
  have er : rs1 = 0 := by simpa [fitsC, layU] using hr
  have et : rs2 = 0 := by simpa [fitsC, layU] using ht
  have p0 : sbx E 12 20 = sbx imm 0 20 := sbx_congr (fun j hj => by have := hsrc (12 + j) 3 (0 + j) (by omega) ((show ∀ q : Fin 20, symE layU (12 + q.val) = [(3, 0 + q.val)] by decide) ⟨j, hj⟩); simpa using this)
  show (⟨regC (E / 128) true, 0, 0, sgnC (0) 1048575 (immA layU E 4)⟩ : Flds) = _
  rw [immSU E E0 E1, p0, Flds.mk.injEq]
  refine ⟨g1.trans ed, er.symm, et.symm, ?_⟩
  have q0 := sbx_eq imm 0 20
  simp only [pw0, pw20] at q0
  have hn : sbx imm 0 20 = imm % 1048576 := by omega
  rw [hn]
  unfold sgnC
  split <;> omega

theorem backJ {E rd rs1 rs2 imm : Int} (E0 : 0 ≤ E) (E1 : E < 4294967296) (hsrc : ∀ i a j, i < 32 → symE layJ i = [(a, j)] → bt E i = if a = 0 then bt rd j else if a = 1 then bt rs1 j else if a = 2 then bt rs2 j else bt imm j)
    (hd : fitsC rd layJ.rd = true) (hr : fitsC rs1 layJ.rs1 = true) (ht : fitsC rs2 layJ.rs2 = true) (hi : holdsC layJ.least layJ.most layJ.even imm = true) : fldC layJ E = ⟨rd, rs1, rs2, imm⟩ := by
  have bd := fitsC_bd hd
  have br := fitsC_bd hr
  have bt' := fitsC_bd ht
  obtain ⟨g1, g2, g3⟩ := reg_sbx E E0 E1
  have bi : -1048576 ≤ imm ∧ imm ≤ 1048574 ∧ imm % 2 = 0 := by
    simp [holdsC, layJ] at hi; omega
  have ed : sbx E 7 5 = rd := ((sbx_congr (fun j hj => by have := hsrc (7 + j) 0 (0 + j) (by omega) ((show ∀ q : Fin 5, symE layJ (7 + q.val) = [(0, 0 + q.val)] by decide) ⟨j, hj⟩); simpa using this)) : sbx E 7 5 = sbx rd 0 5).trans (sbx_reg rd bd.1 bd.2)
  have er : rs1 = 0 := by simpa [fitsC, layJ] using hr
  have et : rs2 = 0 := by simpa [fitsC, layJ] using ht
  have p20 : sbx E 31 1 = sbx imm 20 1 := sbx_congr (fun j hj => by have := hsrc (31 + j) 3 (20 + j) (by omega) ((show ∀ q : Fin 1, symE layJ (31 + q.val) = [(3, 20 + q.val)] by decide) ⟨j, hj⟩); simpa using this)
  have p1 : sbx E 21 10 = sbx imm 1 10 := sbx_congr (fun j hj => by have := hsrc (21 + j) 3 (1 + j) (by omega) ((show ∀ q : Fin 10, symE layJ (21 + q.val) = [(3, 1 + q.val)] by decide) ⟨j, hj⟩); simpa using this)
  have p11 : sbx E 20 1 = sbx imm 11 1 := sbx_congr (fun j hj => by have := hsrc (20 + j) 3 (11 + j) (by omega) ((show ∀ q : Fin 1, symE layJ (20 + q.val) = [(3, 11 + q.val)] by decide) ⟨j, hj⟩); simpa using this)
  have p12 : sbx E 12 8 = sbx imm 12 8 := sbx_congr (fun j hj => by have := hsrc (12 + j) 3 (12 + j) (by omega) ((show ∀ q : Fin 8, symE layJ (12 + q.val) = [(3, 12 + q.val)] by decide) ⟨j, hj⟩); simpa using this)
  show (⟨regC (E / 128) true, 0, 0, sgnC (-1048576) 1048574 (immA layJ E 4)⟩ : Flds) = _
  rw [immSJ E E0 E1, p20, p1, p11, p12, Flds.mk.injEq]
  refine ⟨g1.trans ed, er.symm, et.symm, ?_⟩
  have q20 := sbx_eq imm 20 1
  have q1 := sbx_eq imm 1 10
  have q11 := sbx_eq imm 11 1
  have q12 := sbx_eq imm 12 8
  simp only [pw1, pw8, pw10, pw11, pw12, pw20] at q20 q1 q11 q12
  have hn : sbx imm 20 1 * 1048576 + sbx imm 1 10 * 2 + sbx imm 11 1 * 2048 + sbx imm 12 8 * 4096 = imm % 2097152 := by omega
  rw [hn]
  unfold sgnC
  split <;> omega

theorem backN {E rd rs1 rs2 imm : Int} (E0 : 0 ≤ E) (E1 : E < 4294967296) (hsrc : ∀ i a j, i < 32 → symE layN i = [(a, j)] → bt E i = if a = 0 then bt rd j else if a = 1 then bt rs1 j else if a = 2 then bt rs2 j else bt imm j)
    (hd : fitsC rd layN.rd = true) (hr : fitsC rs1 layN.rs1 = true) (ht : fitsC rs2 layN.rs2 = true) (hi : holdsC layN.least layN.most layN.even imm = true) : fldC layN E = ⟨rd, rs1, rs2, imm⟩ := by
  have bd := fitsC_bd hd
  have br := fitsC_bd hr
  have bt' := fitsC_bd ht
  obtain ⟨g1, g2, g3⟩ := reg_sbx E E0 E1
  have bi : 0 ≤ imm ∧ imm ≤ 0 := by
    simp [holdsC, layN] at hi; omega
  have ed : rd = 0 := by simpa [fitsC, layN] using hd
  have er : rs1 = 0 := by simpa [fitsC, layN] using hr
  have et : rs2 = 0 := by simpa [fitsC, layN] using ht
  show (⟨0, 0, 0, sgnC (0) 0 (immA layN E 4)⟩ : Flds) = _
  rw [immSN E E0 E1, Flds.mk.injEq]
  refine ⟨ed.symm, er.symm, et.symm, ?_⟩
  have : imm = 0 := by omega
  rw [this]; rfl

theorem fld_back {k : Nat} {rd rs1 rs2 imm : Int} (hl : legalC k rd rs1 rs2 imm = true) : fldC (lay (fmtT k)) (encC k rd rs1 rs2 imm) = ⟨rd, rs1, rs2, imm⟩ := by
  have hop := legal_op hl
  have hu := enc_u32 hl
  have hsrc := fun i a j hi hs => enc_src hl (i := i) (a := a) (j := j) hi hs
  have ht := tab_ok (k := k) (by omega) (by omega)
  have hl' := hl
  unfold legalC at hl'
  have hf : fmtOf (k : Int) = fmtT k := by unfold fmtOf; rw [if_pos (by omega), Int.toNat_natCast]
  rw [hf] at hl'
  split at hl'
  · cases hl'
  simp only [Bool.and_eq_true] at hl'
  obtain ⟨⟨⟨h1, h2⟩, h3⟩, h4⟩ := hl'
  have f0 := ht.f0
  have f1 := ht.f1
  generalize fmtT k = f at *
  generalize encC k rd rs1 rs2 imm = E at *
  have hc : f = 1 ∨ f = 2 ∨ f = 3 ∨ f = 4 ∨ f = 5 ∨ f = 6 ∨ f = 7 ∨ f = 8 ∨ f = 9 := by omega
  rcases hc with rfl | rfl | rfl | rfl | rfl | rfl | rfl | rfl | rfl
  · exact backR hu.1 hu.2 hsrc h1 h2 h3 h4
  · exact backI hu.1 hu.2 hsrc h1 h2 h3 h4
  · exact backH hu.1 hu.2 hsrc h1 h2 h3 h4
  · exact backS hu.1 hu.2 hsrc h1 h2 h3 h4
  · exact backB hu.1 hu.2 hsrc h1 h2 h3 h4
  · exact backU hu.1 hu.2 hsrc h1 h2 h3 h4
  · exact backJ hu.1 hu.2 hsrc h1 h2 h3 h4
  · exact backN hu.1 hu.2 hsrc h1 h2 h3 h4
  · exact backN hu.1 hu.2 hsrc h1 h2 h3 h4

/-- What is written of a legal instruction is read as it. -/
theorem round_a {op rd rs1 rs2 imm : Int} (hl : legalC op rd rs1 rs2 imm = true) : decC (encC op rd rs1 rs2 imm) = ⟨op, ⟨rd, rs1, rs2, imm⟩, 0⟩ := by
  have hop := legal_op hl
  obtain ⟨k, rfl⟩ := Int.eq_ofNat_of_zero_le (by omega : 0 ≤ op)
  have hu := enc_u32 hl
  have hb := enc_ok hl
  have h0 : 1 ≤ k := by omega
  have h1 : k ≤ 48 := by omega
  have hlen := (ok_all h0 h1).2
  have hm : matchC (encC k rd rs1 rs2 imm) k = true := by rw [match_eq hu.1 hu.2 h0 h1]; exact match_self hu.1 hu.2 hb
  have hno : ∀ i, 1 ≤ i → i < k → matchC (encC k rd rs1 rs2 imm) i = false := fun i hi hik => by
    rw [match_eq hu.1 hu.2 hi (by omega)]
    exact match_other hu.1 hu.2 hb (by rw [hlen, (ok_all hi (by omega)).2]) (clash_all h0 h1 hi (by omega) hik)
  unfold decC
  rw [dec_first hm 48 1 h0 (by omega) hno, fld_back hl]
end Hm

/-
  The plain mathematics of Round, its second half: what is read is written.
-/
namespace Hm

theorem mod_bit (z : Int) {n j : Nat} (hj : j < n) : z % pw n / pw j % 2 = z / pw j % 2 := by
  have hp := pw_pos j
  have e32 : pw n = pw j * pw (n - j) := by rw [← pw_add, show j + (n - j) = n from by omega]
  have e2 : pw (n - j) = 2 * pw (n - j - 1) := by rw [← pw_succ]; congr 1; omega
  have h := Int.emod_add_mul_ediv z (pw n)
  have h1 : z / pw j = z % pw n / pw j + pw (n - j) * (z / pw n) := by
    conv => lhs; rw [← h]
    rw [show pw n * (z / pw n) = pw j * (pw (n - j) * (z / pw n)) from by rw [← Int.mul_assoc, ← e32]]
    exact Int.add_mul_ediv_left _ _ (by omega)
  rw [h1, e2, Int.mul_assoc]
  generalize pw (n - j - 1) * (z / pw n) = y
  omega
theorem bt_sbx (x : Int) (lo : Nat) {n j : Nat} (hj : j < n) (hn : n ≤ 32) : bt (sbx x lo n) j = bt x (lo + j) := by
  rw [bt_floor _ _ (by omega), sbx_eq, mod_bit _ hj]
  unfold bt
  have := pw_pos lo
  rw [pw_add, Int.ediv_ediv_of_nonneg (by omega)]
theorem bt_sub (n : Int) {m j : Nat} (hj : j < m) (hm : m ≤ 32) : bt (n - pw m) j = bt n j := by
  rw [bt_floor _ _ (by omega), bt_floor _ _ (by omega)]
  have hp := pw_pos j
  have e : pw m = pw j * pw (m - j) := by rw [← pw_add, show j + (m - j) = m from by omega]
  have e2 : pw (m - j) = 2 * pw (m - j - 1) := by rw [← pw_succ]; congr 1; omega
  have h1 : (n - pw m) / pw j = n / pw j + -(pw (m - j)) := by
    rw [Int.sub_eq_add_neg, e, ← Int.mul_neg]
    exact Int.add_mul_ediv_left _ _ (by omega)
  rw [h1, e2]
  generalize pw (m - j - 1) = y
  omega

def symI (L : Lay) (i : Nat) : List (Nat × Nat) := symP L.a0 L.c0 L.f0 i ++ symP L.a1 L.c1 L.f1 i ++ symP L.a2 L.c2 L.f2 i ++ symP L.a3 L.c3 L.f3 i
theorem imm_bits (L : Lay) (x : Int) (x0 : 0 ≤ x) (i : Nat) : (immA L x 4).toNat.testBit i = (symI L i).any (ev (fun _ => false) (fun _ => false) (fun _ => false) (fun j => x.toNat.testBit j)) := by
  have hp : ∀ f c a, (putC f c a x).toNat.testBit i = (symP f c a i).any (ev (fun _ => false) (fun _ => false) (fun _ => false) (fun j => x.toNat.testBit j)) := fun f c a =>
    put_bit f c a x i x0 _ _ _ _ (fun j => by simp [ev])
  have h0 : (0 : Int).toNat.testBit i = false := by simp
  unfold symI
  simp only [immA, orI_bit, hp, h0, List.any_append, Bool.false_or, Bool.or_assoc]

def PosOk (f : Int) (i : Nat) : Prop :=
  (symE (lay f) i = [] ∧ (tellC f).toNat.testBit i = true) ∨ (symE (lay f) i = [(0, i - 7)] ∧ (lay f).rd = true ∧ 7 ≤ i ∧ i < 12) ∨ (symE (lay f) i = [(1, i - 15)] ∧ (lay f).rs1 = true ∧ 15 ≤ i ∧ i < 20) ∨ (symE (lay f) i = [(2, i - 20)] ∧ (lay f).rs2 = true ∧ 20 ≤ i ∧ i < 25)
  ∨ ∃ j : Fin 21, symE (lay f) i = [(3, j.val)] ∧ symI (lay f) j.val = [(3, i)] ∧ (j.val : Int) ≤ hiF f
theorem pos_ok {f : Int} (h0 : 1 ≤ f) (h1 : f ≤ 8) {i : Nat} (hi : i < 32) : PosOk f i := by
  have hf : f = 1 ∨ f = 2 ∨ f = 3 ∨ f = 4 ∨ f = 5 ∨ f = 6 ∨ f = 7 ∨ f = 8 := by omega
  unfold PosOk
  rcases hf with rfl | rfl | rfl | rfl | rfl | rfl | rfl | rfl
  · exact (show ∀ q : Fin 32, (symE (lay 1) q.val = [] ∧ (tellC 1).toNat.testBit q.val = true) ∨ (symE (lay 1) q.val = [(0, q.val - 7)] ∧ (lay 1).rd = true ∧ 7 ≤ q.val ∧ q.val < 12) ∨ (symE (lay 1) q.val = [(1, q.val - 15)] ∧ (lay 1).rs1 = true ∧ 15 ≤ q.val ∧ q.val < 20) ∨ (symE (lay 1) q.val = [(2, q.val - 20)] ∧ (lay 1).rs2 = true ∧ 20 ≤ q.val ∧ q.val < 25) ∨ ∃ j : Fin 21, symE (lay 1) q.val = [(3, j.val)] ∧ symI (lay 1) j.val = [(3, q.val)] ∧ (j.val : Int) ≤ hiF 1 by decide +kernel) ⟨i, hi⟩
  · exact (show ∀ q : Fin 32, (symE (lay 2) q.val = [] ∧ (tellC 2).toNat.testBit q.val = true) ∨ (symE (lay 2) q.val = [(0, q.val - 7)] ∧ (lay 2).rd = true ∧ 7 ≤ q.val ∧ q.val < 12) ∨ (symE (lay 2) q.val = [(1, q.val - 15)] ∧ (lay 2).rs1 = true ∧ 15 ≤ q.val ∧ q.val < 20) ∨ (symE (lay 2) q.val = [(2, q.val - 20)] ∧ (lay 2).rs2 = true ∧ 20 ≤ q.val ∧ q.val < 25) ∨ ∃ j : Fin 21, symE (lay 2) q.val = [(3, j.val)] ∧ symI (lay 2) j.val = [(3, q.val)] ∧ (j.val : Int) ≤ hiF 2 by decide +kernel) ⟨i, hi⟩
  · exact (show ∀ q : Fin 32, (symE (lay 3) q.val = [] ∧ (tellC 3).toNat.testBit q.val = true) ∨ (symE (lay 3) q.val = [(0, q.val - 7)] ∧ (lay 3).rd = true ∧ 7 ≤ q.val ∧ q.val < 12) ∨ (symE (lay 3) q.val = [(1, q.val - 15)] ∧ (lay 3).rs1 = true ∧ 15 ≤ q.val ∧ q.val < 20) ∨ (symE (lay 3) q.val = [(2, q.val - 20)] ∧ (lay 3).rs2 = true ∧ 20 ≤ q.val ∧ q.val < 25) ∨ ∃ j : Fin 21, symE (lay 3) q.val = [(3, j.val)] ∧ symI (lay 3) j.val = [(3, q.val)] ∧ (j.val : Int) ≤ hiF 3 by decide +kernel) ⟨i, hi⟩
  · exact (show ∀ q : Fin 32, (symE (lay 4) q.val = [] ∧ (tellC 4).toNat.testBit q.val = true) ∨ (symE (lay 4) q.val = [(0, q.val - 7)] ∧ (lay 4).rd = true ∧ 7 ≤ q.val ∧ q.val < 12) ∨ (symE (lay 4) q.val = [(1, q.val - 15)] ∧ (lay 4).rs1 = true ∧ 15 ≤ q.val ∧ q.val < 20) ∨ (symE (lay 4) q.val = [(2, q.val - 20)] ∧ (lay 4).rs2 = true ∧ 20 ≤ q.val ∧ q.val < 25) ∨ ∃ j : Fin 21, symE (lay 4) q.val = [(3, j.val)] ∧ symI (lay 4) j.val = [(3, q.val)] ∧ (j.val : Int) ≤ hiF 4 by decide +kernel) ⟨i, hi⟩
  · exact (show ∀ q : Fin 32, (symE (lay 5) q.val = [] ∧ (tellC 5).toNat.testBit q.val = true) ∨ (symE (lay 5) q.val = [(0, q.val - 7)] ∧ (lay 5).rd = true ∧ 7 ≤ q.val ∧ q.val < 12) ∨ (symE (lay 5) q.val = [(1, q.val - 15)] ∧ (lay 5).rs1 = true ∧ 15 ≤ q.val ∧ q.val < 20) ∨ (symE (lay 5) q.val = [(2, q.val - 20)] ∧ (lay 5).rs2 = true ∧ 20 ≤ q.val ∧ q.val < 25) ∨ ∃ j : Fin 21, symE (lay 5) q.val = [(3, j.val)] ∧ symI (lay 5) j.val = [(3, q.val)] ∧ (j.val : Int) ≤ hiF 5 by decide +kernel) ⟨i, hi⟩
  · exact (show ∀ q : Fin 32, (symE (lay 6) q.val = [] ∧ (tellC 6).toNat.testBit q.val = true) ∨ (symE (lay 6) q.val = [(0, q.val - 7)] ∧ (lay 6).rd = true ∧ 7 ≤ q.val ∧ q.val < 12) ∨ (symE (lay 6) q.val = [(1, q.val - 15)] ∧ (lay 6).rs1 = true ∧ 15 ≤ q.val ∧ q.val < 20) ∨ (symE (lay 6) q.val = [(2, q.val - 20)] ∧ (lay 6).rs2 = true ∧ 20 ≤ q.val ∧ q.val < 25) ∨ ∃ j : Fin 21, symE (lay 6) q.val = [(3, j.val)] ∧ symI (lay 6) j.val = [(3, q.val)] ∧ (j.val : Int) ≤ hiF 6 by decide +kernel) ⟨i, hi⟩
  · exact (show ∀ q : Fin 32, (symE (lay 7) q.val = [] ∧ (tellC 7).toNat.testBit q.val = true) ∨ (symE (lay 7) q.val = [(0, q.val - 7)] ∧ (lay 7).rd = true ∧ 7 ≤ q.val ∧ q.val < 12) ∨ (symE (lay 7) q.val = [(1, q.val - 15)] ∧ (lay 7).rs1 = true ∧ 15 ≤ q.val ∧ q.val < 20) ∨ (symE (lay 7) q.val = [(2, q.val - 20)] ∧ (lay 7).rs2 = true ∧ 20 ≤ q.val ∧ q.val < 25) ∨ ∃ j : Fin 21, symE (lay 7) q.val = [(3, j.val)] ∧ symI (lay 7) j.val = [(3, q.val)] ∧ (j.val : Int) ≤ hiF 7 by decide +kernel) ⟨i, hi⟩
  · exact (show ∀ q : Fin 32, (symE (lay 8) q.val = [] ∧ (tellC 8).toNat.testBit q.val = true) ∨ (symE (lay 8) q.val = [(0, q.val - 7)] ∧ (lay 8).rd = true ∧ 7 ≤ q.val ∧ q.val < 12) ∨ (symE (lay 8) q.val = [(1, q.val - 15)] ∧ (lay 8).rs1 = true ∧ 15 ≤ q.val ∧ q.val < 20) ∨ (symE (lay 8) q.val = [(2, q.val - 20)] ∧ (lay 8).rs2 = true ∧ 20 ≤ q.val ∧ q.val < 25) ∨ ∃ j : Fin 21, symE (lay 8) q.val = [(3, j.val)] ∧ symI (lay 8) j.val = [(3, q.val)] ∧ (j.val : Int) ≤ hiF 8 by decide +kernel) ⟨i, hi⟩
theorem symE_far (L : Lay) {i : Nat} (hi : 32 ≤ i) : symE L i = [] := by
  unfold symE symP
  simp [show ¬ i < 12 from by omega, show ¬ i < 20 from by omega, show ¬ i < 25 from by omega, show ¬ i < 32 from by omega]
theorem sgn_bit (f n : Int) (h0 : 1 ≤ f) (h1 : f ≤ 8) {j : Nat} (hj : (j : Int) ≤ hiF f) : bt (sgnC (lay f).least (lay f).most n) j = bt n j := by
  have hf : f = 1 ∨ f = 2 ∨ f = 3 ∨ f = 4 ∨ f = 5 ∨ f = 6 ∨ f = 7 ∨ f = 8 := by omega
  unfold sgnC
  split
  · rcases hf with rfl | rfl | rfl | rfl | rfl | rfl | rfl | rfl
    · show bt (n + 2 * 0) j = bt n j; rw [show n + 2 * 0 = n from by omega]
    · have hj' : j < 12 := by have : (j : Int) ≤ 11 := hj; omega
      show bt (n + 2 * (-2048)) j = bt n j
      have e : pw 12 = 4096 := by decide
      rw [show n + 2 * (-2048) = n - pw 12 from by omega]
      exact bt_sub n hj' (by decide)
    · show bt (n + 2 * 0) j = bt n j; rw [show n + 2 * 0 = n from by omega]
    · have hj' : j < 12 := by have : (j : Int) ≤ 11 := hj; omega
      show bt (n + 2 * (-2048)) j = bt n j
      have e : pw 12 = 4096 := by decide
      rw [show n + 2 * (-2048) = n - pw 12 from by omega]
      exact bt_sub n hj' (by decide)
    · have hj' : j < 13 := by have : (j : Int) ≤ 12 := hj; omega
      show bt (n + 2 * (-4096)) j = bt n j
      have e : pw 13 = 8192 := by decide
      rw [show n + 2 * (-4096) = n - pw 13 from by omega]
      exact bt_sub n hj' (by decide)
    · show bt (n + 2 * 0) j = bt n j; rw [show n + 2 * 0 = n from by omega]
    · have hj' : j < 21 := by have : (j : Int) ≤ 20 := hj; omega
      show bt (n + 2 * (-1048576)) j = bt n j
      have e : pw 21 = 2097152 := by decide
      rw [show n + 2 * (-1048576) = n - pw 21 from by omega]
      exact bt_sub n hj' (by decide)
    · show bt (n + 2 * 0) j = bt n j; rw [show n + 2 * 0 = n from by omega]
  · rfl

/-- The bits of what was read. -/
theorem bits_b {k : Nat} {x : Int} (x0 : 0 ≤ x) (x1 : x < 4294967296) (h0 : 1 ≤ k) (h1 : k ≤ 48) (hf : fmtT k ≤ 8) (hm : matchC x k = true) (i : Nat) :
    x.toNat.testBit i = ((bitT k).toNat.testBit i || (symE (lay (fmtT k)) i).any (ev (fun j => ((fldC (lay (fmtT k)) x).d % 4294967296).toNat.testBit j) (fun j => ((fldC (lay (fmtT k)) x).r % 4294967296).toNat.testBit j) (fun j => ((fldC (lay (fmtT k)) x).t % 4294967296).toNat.testBit j) (fun j => ((fldC (lay (fmtT k)) x).imm % 4294967296).toNat.testBit j))) := by
  have ht := tab_ok h0 h1
  obtain ⟨_, _, hlt, hnn⟩ := okM_all h0 h1
  obtain ⟨g1, g2, g3⟩ := reg_sbx x x0 x1
  have ex : x % 4294967296 = x := by omega
  by_cases hi : i < 32
  · have hand : x.toNat &&& (tellC (fmtT k)).toNat = (bitT k).toNat := by
      unfold matchC andI at hm
      rw [beq_iff_eq] at hm
      rw [← hm, Int.toNat_natCast]
    rcases pos_ok ht.f0 hf hi with ⟨hs, htl⟩ | ⟨hs, hu, ha, hb⟩ | ⟨hs, hu, ha, hb⟩ | ⟨hs, hu, ha, hb⟩ | ⟨j, hs, hI, hj⟩
    · rw [hs, ← hand, Nat.testBit_and, htl]; simp
    · rw [hs, no_bit h0 h1 hi (by rw [hs]; simp)]
      have e : (fldC (lay (fmtT k)) x).d = sbx x 7 5 := by show regC (x / 128) (lay (fmtT k)).rd = _; rw [hu, g1]
      simp only [List.any_cons, List.any_nil, Bool.or_false, Bool.false_or]
      show _ = ((fldC (lay (fmtT k)) x).d % 4294967296).toNat.testBit (i - 7)
      apply b01_inj
      rw [← bt_nat, e, bt_sbx x 7 (by omega) (by decide), bt_nat, ex, show 7 + (i - 7) = i from by omega]
    · rw [hs, no_bit h0 h1 hi (by rw [hs]; simp)]
      have e : (fldC (lay (fmtT k)) x).r = sbx x 15 5 := by show regC (x / 32768) (lay (fmtT k)).rs1 = _; rw [hu, g2]
      simp only [List.any_cons, List.any_nil, Bool.or_false, Bool.false_or]
      show _ = ((fldC (lay (fmtT k)) x).r % 4294967296).toNat.testBit (i - 15)
      apply b01_inj
      rw [← bt_nat, e, bt_sbx x 15 (by omega) (by decide), bt_nat, ex, show 15 + (i - 15) = i from by omega]
    · rw [hs, no_bit h0 h1 hi (by rw [hs]; simp)]
      have e : (fldC (lay (fmtT k)) x).t = sbx x 20 5 := by show regC (x / 1048576) (lay (fmtT k)).rs2 = _; rw [hu, g3]
      simp only [List.any_cons, List.any_nil, Bool.or_false, Bool.false_or]
      show _ = ((fldC (lay (fmtT k)) x).t % 4294967296).toNat.testBit (i - 20)
      apply b01_inj
      rw [← bt_nat, e, bt_sbx x 20 (by omega) (by decide), bt_nat, ex, show 20 + (i - 20) = i from by omega]
    · rw [hs, no_bit h0 h1 hi (by rw [hs]; simp)]
      simp only [List.any_cons, List.any_nil, Bool.or_false, Bool.false_or]
      show _ = ((fldC (lay (fmtT k)) x).imm % 4294967296).toNat.testBit j.val
      have hu := immA_u32 (L := lay (fmtT k)) (x := x) 4
      have en : immA (lay (fmtT k)) x 4 % 4294967296 = immA (lay (fmtT k)) x 4 := by have := hu.1; have := hu.2; omega
      have hb := imm_bits (lay (fmtT k)) x x0 j.val
      rw [hI] at hb
      have hb' : (immA (lay (fmtT k)) x 4).toNat.testBit j.val = x.toNat.testBit i := by rw [hb]; simp [ev]
      apply b01_inj
      rw [← bt_nat]
      show _ = bt (sgnC (lay (fmtT k)).least (lay (fmtT k)).most (immA (lay (fmtT k)) x 4)) j.val
      rw [sgn_bit _ _ ht.f0 hf hj, bt_nat, en, hb']
  · have hp : 2 ^ 32 ≤ 2 ^ i := Nat.pow_le_pow_right (by decide) (by omega)
    have e32 : (2 : Nat) ^ 32 = 4294967296 := by decide
    have hx : x.toNat < 2 ^ 32 := by omega
    rw [symE_far _ (by omega), Nat.testBit_lt_two_pow (Nat.lt_of_lt_of_le hx hp), Nat.testBit_lt_two_pow (Nat.lt_of_lt_of_le hlt hp)]; rfl

/-- What was read is legal. -/
theorem legal_b {k : Nat} {x : Int} (x0 : 0 ≤ x) (x1 : x < 4294967296) (h0 : 1 ≤ k) (h1 : k ≤ 48) : legalC k (fldC (lay (fmtT k)) x).d (fldC (lay (fmtT k)) x).r (fldC (lay (fmtT k)) x).t (fldC (lay (fmtT k)) x).imm = true := by
  have ht := tab_ok h0 h1
  have f0 := ht.f0
  have f1 := ht.f1
  have hf : fmtOf (k : Int) = fmtT k := by unfold fmtOf; rw [if_pos (by omega), Int.toNat_natCast]
  unfold legalC
  rw [hf, if_neg (by omega)]
  have hreg : ∀ (y : Int) (u : Bool), fitsC (regC y u) u = true := fun y u => by
    cases u
    · rfl
    · simp [fitsC, regC]; omega
  have e1 : fitsC (fldC (lay (fmtT k)) x).d (lay (fmtT k)).rd = true := hreg _ _
  have e2 : fitsC (fldC (lay (fmtT k)) x).r (lay (fmtT k)).rs1 = true := hreg _ _
  have e3 : fitsC (fldC (lay (fmtT k)) x).t (lay (fmtT k)).rs2 = true := hreg _ _
  rw [e1, e2, e3, Bool.true_and, Bool.true_and, Bool.true_and]
  show holdsC _ _ _ (sgnC (lay (fmtT k)).least (lay (fmtT k)).most (immA (lay (fmtT k)) x 4)) = true
  generalize fmtT k = f at *
  have hc : f = 1 ∨ f = 2 ∨ f = 3 ∨ f = 4 ∨ f = 5 ∨ f = 6 ∨ f = 7 ∨ f = 8 ∨ f = 9 := by omega
  rcases hc with rfl | rfl | rfl | rfl | rfl | rfl | rfl | rfl | rfl
  · show holdsC (0) 0 false (sgnC (0) 0 (immA layR x 4)) = true
    rw [immSR x x0 x1]
    decide
  · show holdsC (-2048) 2047 false (sgnC (-2048) 2047 (immA layI x 4)) = true
    rw [immSI x x0 x1]
    have b0 := sbx_bd x 20 12
    simp only [pw12] at b0
    unfold holdsC sgnC
    rw [decide_eq_true_iff]
    split <;> simp <;> omega
  · show holdsC (0) 31 false (sgnC (0) 31 (immA layH x 4)) = true
    rw [immSH x x0 x1]
    have b0 := sbx_bd x 20 5
    simp only [pw5] at b0
    unfold holdsC sgnC
    rw [decide_eq_true_iff]
    split <;> simp <;> omega
  · show holdsC (-2048) 2047 false (sgnC (-2048) 2047 (immA layS x 4)) = true
    rw [immSS x x0 x1]
    have b0 := sbx_bd x 25 7
    have b1 := sbx_bd x 7 5
    simp only [pw5, pw7] at b0 b1
    unfold holdsC sgnC
    rw [decide_eq_true_iff]
    split <;> simp <;> omega
  · show holdsC (-4096) 4094 true (sgnC (-4096) 4094 (immA layB x 4)) = true
    rw [immSB x x0 x1]
    have b0 := sbx_bd x 31 1
    have b1 := sbx_bd x 25 6
    have b2 := sbx_bd x 8 4
    have b3 := sbx_bd x 7 1
    simp only [pw1, pw4, pw6] at b0 b1 b2 b3
    unfold holdsC sgnC
    rw [decide_eq_true_iff]
    split <;> simp <;> omega
  · show holdsC (0) 1048575 false (sgnC (0) 1048575 (immA layU x 4)) = true
    rw [immSU x x0 x1]
    have b0 := sbx_bd x 12 20
    simp only [pw20] at b0
    unfold holdsC sgnC
    rw [decide_eq_true_iff]
    split <;> simp <;> omega
  · show holdsC (-1048576) 1048574 true (sgnC (-1048576) 1048574 (immA layJ x 4)) = true
    rw [immSJ x x0 x1]
    have b0 := sbx_bd x 31 1
    have b1 := sbx_bd x 21 10
    have b2 := sbx_bd x 20 1
    have b3 := sbx_bd x 12 8
    simp only [pw1, pw8, pw10] at b0 b1 b2 b3
    unfold holdsC sgnC
    rw [decide_eq_true_iff]
    split <;> simp <;> omega
  · show holdsC (0) 0 false (sgnC (0) 0 (immA layN x 4)) = true
    rw [immSN x x0 x1]
    decide
  · show holdsC (0) 0 false (sgnC (0) 0 (immA layN x 4)) = true
    rw [immSN x x0 x1]
    decide

/-- What was read is written as it was, but of a fence. -/
theorem enc_b {k : Nat} {x : Int} (x0 : 0 ≤ x) (x1 : x < 4294967296) (h0 : 1 ≤ k) (h1 : k ≤ 48) (hf : fmtT k ≤ 8) (hm : matchC x k = true) :
    encC k (fldC (lay (fmtT k)) x).d (fldC (lay (fmtT k)) x).r (fldC (lay (fmtT k)) x).t (fldC (lay (fmtT k)) x).imm = x := by
  have hl := legal_b x0 x1 h0 h1 (x := x)
  have hu := enc_u32 hl
  have hb := enc_ok hl
  obtain ⟨ok, hlen⟩ := ok_all h0 h1
  have hbits := bits_b x0 x1 h0 h1 hf hm
  have e32 : pw 32 = 4294967296 := by decide
  obtain ⟨N, rfl⟩ := Int.eq_ofNat_of_zero_le x0
  rw [Int.toNat_natCast] at hbits
  have hb2 := bitsOk_of hbits ok
  have a1 := fill_unique hb (w := 0) (by rw [hlen, e32]; have := hu.1; have := hu.2; omega)
  have a2 := fill_unique hb2 (w := 0) (by rw [hlen, e32]; omega)
  exact a1.trans a2.symm
theorem fence_fmt {k : Nat} (h0 : 1 ≤ k) (h1 : k ≤ 48) (hf : ¬ fmtT k ≤ 8) : k = 46 := by
  have : ∀ j : Fin 49, j.val = 0 ∨ fmtT j ≤ 8 ∨ j.val = 46 := by decide +kernel
  rcases this ⟨k, by omega⟩ with h | h | h
  · simp at h; omega
  · exact absurd h hf
  · exact h

/-- Of every 32 bits. -/
def RoundB (x : Int) (D : Dec) : Prop := D = ⟨0, ⟨0, 0, 0, 0⟩, 2⟩ ∨ (D.err = 0 ∧ legalC D.op D.f.d D.f.r D.f.t D.f.imm = true ∧ (encC D.op D.f.d D.f.r D.f.t D.f.imm = x ∨ D.op = 46))
theorem round_b {x : Int} (x0 : 0 ≤ x) (x1 : x < 4294967296) : RoundB x (decC x) := by
  have h : ∀ n k, 1 ≤ k → k + n = 49 → RoundB x (decCFrom x n k) := by
    intro n
    induction n with
    | zero => intro k _ _; exact Or.inl rfl
    | succ n ih =>
      intro k hk hn
      cases hc : matchC x k with
      | false => rw [decCFrom_no hc]; exact ih (k + 1) (by omega) (by omega)
      | true =>
        rw [decCFrom_yes hc]
        refine Or.inr ⟨rfl, legal_b x0 x1 hk (by omega), ?_⟩
        by_cases hf : fmtT k ≤ 8
        · exact Or.inl (enc_b x0 x1 hk (by omega) hf hc)
        · right; have := fence_fmt hk (by omega) hf; subst this; rfl
  exact h 48 1 (by omega) (by omega)

/-! ### What raw numbers speak of is legal -/
def fmtR (op : Int) : Int := if op ≤ 2 then 6 else if op = 3 then 7 else if 5 ≤ op ∧ op ≤ 10 then 5 else if 16 ≤ op ∧ op ≤ 18 then 4 else if 25 ≤ op ∧ op ≤ 27 then 3 else if 28 ≤ op ∧ op ≤ 45 then 1 else if op < 46 then 2 else if op = 46 then 9 else 8
theorem fmtR_eq {op : Int} (h0 : 1 ≤ op) (h1 : op ≤ 48) : fmtOf op = fmtR op := by
  obtain ⟨k, rfl⟩ := Int.eq_ofNat_of_zero_le (by omega : 0 ≤ op)
  have : ∀ j : Fin 49, j.val = 0 ∨ fmtT j = fmtR (j.val : Int) := by decide +kernel
  unfold fmtOf
  rw [if_pos ⟨h0, h1⟩, Int.toNat_natCast]
  rcases this ⟨k, by omega⟩ with h | h
  · simp at h; omega
  · exact h
theorem fits_pick (c : Int) : fitsC (pickI c 32) true = true := by
  have := pick_bd c 32 (by omega)
  simp [fitsC]; omega
theorem inst_legal (op rd rs1 rs2 imm : Int) (h0 : 1 ≤ op) (h1 : op ≤ 48) : legalC op (instF op rd rs1 rs2 imm).d (instF op rd rs1 rs2 imm).r (instF op rd rs1 rs2 imm).t (instF op rd rs1 rs2 imm).imm = true := by
  have i20 := pick_bd imm 1048576 (by omega)
  have i12 := pick_bd imm 4096 (by omega)
  have i5 := pick_bd imm 32 (by omega)
  have pd := fits_pick rd
  have ps := fits_pick rs1
  have pt := fits_pick rs2
  have z : fitsC 0 false = true := rfl
  unfold legalC
  rw [fmtR_eq h0 h1]
  unfold fmtR instF
  by_cases c1 : op ≤ 2
  · simp only [if_pos c1]
    rw [if_neg (by decide), Bool.and_eq_true, Bool.and_eq_true, Bool.and_eq_true]
    exact ⟨⟨⟨pd, z⟩, z⟩, by show holdsC 0 1048575 false _ = true; simp [holdsC]; omega⟩
  simp only [if_neg c1]
  by_cases c2 : op = 3
  · simp only [if_pos c2]
    rw [if_neg (by decide), Bool.and_eq_true, Bool.and_eq_true, Bool.and_eq_true]
    exact ⟨⟨⟨pd, z⟩, z⟩, by show holdsC (-1048576) 1048574 true _ = true; simp [holdsC]; omega⟩
  simp only [if_neg c2]
  by_cases c3 : 5 ≤ op ∧ op ≤ 10
  · simp only [if_pos c3]
    rw [if_neg (by decide), Bool.and_eq_true, Bool.and_eq_true, Bool.and_eq_true]
    exact ⟨⟨⟨z, ps⟩, pt⟩, by show holdsC (-4096) 4094 true _ = true; simp [holdsC]; omega⟩
  simp only [if_neg c3]
  by_cases c4 : 16 ≤ op ∧ op ≤ 18
  · simp only [if_pos c4]
    rw [if_neg (by decide), Bool.and_eq_true, Bool.and_eq_true, Bool.and_eq_true]
    exact ⟨⟨⟨z, ps⟩, pt⟩, by show holdsC (-2048) 2047 false _ = true; simp [holdsC]; omega⟩
  simp only [if_neg c4]
  by_cases c5 : 25 ≤ op ∧ op ≤ 27
  · simp only [if_pos c5]
    rw [if_neg (by decide), Bool.and_eq_true, Bool.and_eq_true, Bool.and_eq_true]
    exact ⟨⟨⟨pd, ps⟩, z⟩, by show holdsC 0 31 false _ = true; simp [holdsC]; omega⟩
  simp only [if_neg c5]
  by_cases c6 : 28 ≤ op ∧ op ≤ 45
  · simp only [if_pos c6]
    rw [if_neg (by decide), Bool.and_eq_true, Bool.and_eq_true, Bool.and_eq_true]
    exact ⟨⟨⟨pd, ps⟩, pt⟩, rfl⟩
  simp only [if_neg c6]
  by_cases c7 : op < 46
  · simp only [if_pos c7]
    rw [if_neg (by decide), Bool.and_eq_true, Bool.and_eq_true, Bool.and_eq_true]
    exact ⟨⟨⟨pd, ps⟩, z⟩, by show holdsC (-2048) 2047 false _ = true; simp [holdsC]; omega⟩
  simp only [if_neg c7]
  by_cases c8 : op = 46
  · simp only [if_pos c8]; decide
  · simp only [if_neg c8]; decide
end Hm
