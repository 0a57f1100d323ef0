/-
  Z2 Z3 in one text.
-/
import Derived.Test.YtdcmdjeooklmjaaDoorGA
set_option linter.unusedVariables false
set_option linter.unusedSimpArgs false
/-
  The plain mathematics: package code's Encode is the document's.
-/
namespace Hm

/-- Of each letter the bit that a number has there. -/
def bitsOk (d r t imm E : Int) : List UInt8 → Prop
  | [] => True
  | c :: l => E / pw l.length % 2 = fbit d r t imm c l ∧ bitsOk d r t imm E l
theorem fill_unique {d r t imm E : Int} : ∀ {l : List UInt8} {w : Int}, bitsOk d r t imm E l → E / pw l.length = w → E = fill d r t imm l w
  | [], w, _, h => by simpa [pw, fill] using h
  | c :: l, w, ⟨hb, hr⟩, h => by
    unfold fill
    refine fill_unique hr ?_
    have hp := pw_pos l.length
    have e : E / pw (l.length + 1) = E / pw l.length / 2 := by
      rw [pw_succ, Int.mul_comm, Int.ediv_ediv_of_nonneg (by omega)]
    rw [List.length_cons, e] at h
    rw [← hb]
    omega

/-- The sources of bits: field and number. -/
def ev (D R T X : Nat → Bool) (s : Nat × Nat) : Bool := if s.1 = 0 then D s.2 else if s.1 = 1 then R s.2 else if s.1 = 2 then T s.2 else X s.2
def symP (f c a : Int) (i : Nat) : List (Nat × Nat) := if a.toNat ≤ i ∧ i - a.toNat < c.toNat ∧ i < 32 then [(3, f.toNat + (i - a.toNat))] else []
def symE (L : Lay) (i : Nat) : List (Nat × Nat) :=
  (if L.rd = true ∧ 7 ≤ i ∧ i < 12 then [(0, i - 7)] else []) ++ (if L.rs1 = true ∧ 15 ≤ i ∧ i < 20 then [(1, i - 15)] else []) ++ (if L.rs2 = true ∧ 20 ≤ i ∧ i < 25 then [(2, i - 20)] else [])
  ++ symP L.f0 L.c0 L.a0 i ++ symP L.f1 L.c1 L.a1 i ++ symP L.f2 L.c2 L.a2 i ++ symP L.f3 L.c3 L.a3 i
def symF (c : UInt8) (l : List UInt8) : List (Nat × Nat) :=
  if (c.toNat : Int) = 49 then [] else if (c.toNat : Int) = 100 then [(0, cnt l 100)] else if (c.toNat : Int) = 115 then [(1, cnt l 115)] else if (c.toNat : Int) = 116 then [(2, cnt l 116)]
  else if 65 ≤ (c.toNat : Int) ∧ (c.toNat : Int) ≤ 85 then [(3, ((c.toNat : Int) - 65).toNat)] else []
def okAt (k : Nat) : List UInt8 → Bool
  | [] => true
  | c :: l => (symE (lay (fmtT k)) l.length == symF c l) && ((bitT k).toNat.testBit l.length == ((c.toNat : Int) == 49)) && okAt k l
theorem ok_all {k : Nat} (h0 : 1 ≤ k) (h1 : k ≤ 48) : okAt k (bitsL k) = true ∧ (bitsL k).length = 32 := by
  have : ∀ j : Fin 49, j.val = 0 ∨ (okAt j (bitsL j) = true ∧ (bitsL j).length = 32) := by decide +kernel
  rcases this ⟨k, by omega⟩ with h | h
  · simp at h; omega
  · exact h

/-- A bit as a number. -/
def b01 (b : Bool) : Int := if b then 1 else 0
theorem bit_nat (n i : Nat) : (n : Int) / pw i % 2 = b01 (n.testBit i) := by
  have e : (n : Int) / pw i % 2 = ((n / 2 ^ i % 2 : Nat) : Int) := by
    have : pw i = ((2 ^ i : Nat) : Int) := by unfold pw; simp
    rw [this]; exact_mod_cast rfl
  rw [e, Nat.testBit_eq_decide_div_mod_eq, b01]
  have h : n / 2 ^ i % 2 = 0 ∨ n / 2 ^ i % 2 = 1 := by omega
  rcases h with h | h <;> rw [h] <;> simp
theorem bt_nat (n : Int) (i : Nat) : bt n i = b01 ((n % 4294967296).toNat.testBit i) := by
  rw [← bit_nat]
  unfold bt
  rw [Int.toNat_of_nonneg (by omega)]
theorem fbit_sym (d r t imm : Int) (c : UInt8) (l : List UInt8) :
    fbit d r t imm c l = b01 (((c.toNat : Int) == 49) || (symF c l).any (ev (fun j => (d % 4294967296).toNat.testBit j) (fun j => (r % 4294967296).toNat.testBit j) (fun j => (t % 4294967296).toNat.testBit j) (fun j => (imm % 4294967296).toNat.testBit j))) := by
  unfold fbit symF
  by_cases h1 : (c.toNat : Int) = 49
  · simp [h1, b01]
  by_cases h2 : (c.toNat : Int) = 100
  · simp [h2, ev, bt_nat]
  by_cases h3 : (c.toNat : Int) = 115
  · simp [h3, ev, bt_nat]
  by_cases h4 : (c.toNat : Int) = 116
  · simp [h4, ev, bt_nat]
  by_cases h5 : 65 ≤ (c.toNat : Int) ∧ (c.toNat : Int) ≤ 85
  · rw [if_neg h1, if_neg h2, if_neg h3, if_neg h4, if_pos h5, if_neg h1, if_neg h2, if_neg h3, if_neg h4, if_pos h5]
    have : ((c.toNat : Int) == 49) = false := by simpa using h1
    rw [this]
    simp [ev, bt_nat]
  · rw [if_neg h1, if_neg h2, if_neg h3, if_neg h4, if_neg h5, if_neg h1, if_neg h2, if_neg h3, if_neg h4, if_neg h5]
    have : ((c.toNat : Int) == 49) = false := by simpa using h1
    rw [this]
    simp [b01]

theorem bitsOk_of {d r t imm : Int} {k N : Nat} (hN : ∀ i, N.testBit i = ((bitT k).toNat.testBit i || (symE (lay (fmtT k)) i).any (ev (fun j => (d % 4294967296).toNat.testBit j) (fun j => (r % 4294967296).toNat.testBit j) (fun j => (t % 4294967296).toNat.testBit j) (fun j => (imm % 4294967296).toNat.testBit j)))) :
    ∀ {l : List UInt8}, okAt k l = true → bitsOk d r t imm N l
  | [], _ => trivial
  | c :: l, h => by
    unfold okAt at h
    simp only [Bool.and_eq_true, beq_iff_eq] at h
    obtain ⟨⟨h1, h2⟩, h3⟩ := h
    refine ⟨?_, bitsOk_of hN h3⟩
    rw [bit_nat, hN, h1, h2, fbit_sym]
theorem orI_bit {a b : Int} (i : Nat) : (orI a b).toNat.testBit i = (a.toNat.testBit i || b.toNat.testBit i) := by
  unfold orI; rw [Int.toNat_natCast, Nat.testBit_or]
theorem shl_bit (n : Int) (s : Nat) (i : Nat) (h : 0 ≤ n) : (n * pw s).toNat.testBit i = (decide (s ≤ i) && n.toNat.testBit (i - s)) := by
  obtain ⟨m, rfl⟩ := Int.eq_ofNat_of_zero_le h
  have e : ((m : Int) * pw s).toNat = m <<< s := by
    have : pw s = ((2 ^ s : Nat) : Int) := by unfold pw; simp
    rw [this, Nat.shiftLeft_eq]; exact_mod_cast Int.toNat_natCast _
  rw [e, Nat.testBit_shiftLeft, Int.toNat_natCast]
theorem small_bit (n : Int) (j : Nat) (h0 : 0 ≤ n) (h1 : n ≤ 31) (hj : 5 ≤ j) : n.toNat.testBit j = false :=
  Nat.testBit_lt_two_pow (Nat.lt_of_lt_of_le (by omega : n.toNat < 2 ^ 5) (Nat.pow_le_pow_right (by decide) hj))
theorem mod_small (n : Int) (h0 : 0 ≤ n) (h1 : n ≤ 31) : n % 4294967296 = n := by omega
/-- A register's field. -/
theorem reg_bit (n : Int) (s i : Nat) (u : Bool) (f : Nat) (hf : fitsC n u = true) (D R T X : Nat → Bool) (hD : ∀ j, ev D R T X (f, j) = (n % 4294967296).toNat.testBit j) :
    (n * pw s).toNat.testBit i = (if u = true ∧ s ≤ i ∧ i < s + 5 then [(f, i - s)] else []).any (ev D R T X) := by
  have hb := fitsC_bd hf
  rw [shl_bit n s i hb.1]
  by_cases h : u = true ∧ s ≤ i ∧ i < s + 5
  · rw [if_pos h]
    simp [h.2.1, hD, mod_small n hb.1 hb.2]
  · rw [if_neg h]
    simp only [List.any_nil]
    by_cases hu : u = true
    · by_cases hs : s ≤ i
      · have h3 : ¬ i < s + 5 := fun h3 => h ⟨hu, hs, h3⟩
        rw [small_bit n _ hb.1 hb.2 (by omega)]; simp
      · simp [hs]
    · have hn : n = 0 := by cases u <;> simp_all [fitsC]
      subst hn
      simp
/-- A piece of Imm. -/
theorem put_bit (f c a x : Int) (i : Nat) (x0 : 0 ≤ x) (D R T X : Nat → Bool) (hX : ∀ j, ev D R T X (3, j) = x.toNat.testBit j) :
    (putC f c a x).toNat.testBit i = (symP f c a i).any (ev D R T X) := by
  obtain ⟨m, rfl⟩ := Int.eq_ofNat_of_zero_le x0
  have e : (putC f c a m).toNat = ((m / 2 ^ f.toNat % 2 ^ c.toNat) <<< a.toNat) % 2 ^ 32 := by
    have h : ∀ n, pw n = ((2 ^ n : Nat) : Int) := fun n => by unfold pw; simp
    have e1 : putC f c a m = (((m / 2 ^ f.toNat % 2 ^ c.toNat * 2 ^ a.toNat) % 4294967296 : Nat) : Int) := by
      unfold putC
      rw [h, h, h, Int.natCast_emod, Int.natCast_mul, Int.natCast_emod, Int.natCast_ediv]
      rfl
    have e2 : (2 : Nat) ^ 32 = 4294967296 := by decide
    rw [e1, Int.toNat_natCast, Nat.shiftLeft_eq, e2]
  rw [e, Nat.testBit_mod_two_pow, Nat.testBit_shiftLeft, Nat.testBit_mod_two_pow, ← Nat.shiftRight_eq_div_pow, Nat.testBit_shiftRight]
  unfold symP
  by_cases h : a.toNat ≤ i ∧ i - a.toNat < c.toNat ∧ i < 32
  · rw [if_pos h, decide_eq_true h.2.2, decide_eq_true (show i ≥ a.toNat from h.1), decide_eq_true h.2.1]
    rw [List.any_cons, List.any_nil, hX, Int.toNat_natCast]
    generalize m.testBit (f.toNat + (i - a.toNat)) = b
    cases b <;> rfl
  · rw [if_neg h]
    simp only [List.any_nil]
    by_cases h1 : a.toNat ≤ i
    · by_cases h2 : i - a.toNat < c.toNat
      · have h3 : ¬ i < 32 := fun h3 => h ⟨h1, h2, h3⟩
        rw [decide_eq_false h3, Bool.false_and]
      · rw [decide_eq_false h2, Bool.false_and, Bool.and_false, Bool.and_false]
    · rw [decide_eq_false (show ¬ i ≥ a.toNat from h1), Bool.false_and, Bool.and_false]

theorem enc_bits {op rd rs1 rs2 imm : Int} {k : Nat} (hk : op = k) (h0 : 1 ≤ k) (h1 : k ≤ 48) (hl : legalC op rd rs1 rs2 imm = true) (i : Nat) :
    (encA (lay (fmtOf op)) (enc0 op rd rs1 rs2) (imm % 4294967296) 4).toNat.testBit i
      = ((bitT k).toNat.testBit i || (symE (lay (fmtT k)) i).any (ev (fun j => (rd % 4294967296).toNat.testBit j) (fun j => (rs1 % 4294967296).toNat.testBit j) (fun j => (rs2 % 4294967296).toNat.testBit j) (fun j => (imm % 4294967296).toNat.testBit j))) := by
  subst hk
  have hf : fmtOf (k : Int) = fmtT k := by unfold fmtOf; rw [if_pos (by omega), Int.toNat_natCast]
  have hg : bitOf (k : Int) = bitT k := by unfold bitOf; rw [if_pos (by omega), Int.toNat_natCast]
  have hl' := hl
  unfold legalC at hl'
  rw [hf] at hl' ⊢
  split at hl'
  · cases hl'
  simp only [Bool.and_eq_true] at hl'
  obtain ⟨⟨⟨hd, hr⟩, ht⟩, _⟩ := hl'
  generalize hE : ev (fun j => (rd % 4294967296).toNat.testBit j) (fun j => (rs1 % 4294967296).toNat.testBit j) (fun j => (rs2 % 4294967296).toNat.testBit j) (fun j => (imm % 4294967296).toNat.testBit j) = EV
  have hd' : (rd * 128).toNat.testBit i = (if (lay (fmtT k)).rd = true ∧ 7 ≤ i ∧ i < 12 then [(0, i - 7)] else []).any EV := by
    rw [← hE]; exact reg_bit rd 7 i _ 0 hd _ _ _ _ (fun j => by simp [ev])
  have hr' : (rs1 * 32768).toNat.testBit i = (if (lay (fmtT k)).rs1 = true ∧ 15 ≤ i ∧ i < 20 then [(1, i - 15)] else []).any EV := by
    rw [← hE]; exact reg_bit rs1 15 i _ 1 hr _ _ _ _ (fun j => by simp [ev])
  have ht' : (rs2 * 1048576).toNat.testBit i = (if (lay (fmtT k)).rs2 = true ∧ 20 ≤ i ∧ i < 25 then [(2, i - 20)] else []).any EV := by
    rw [← hE]; exact reg_bit rs2 20 i _ 2 ht _ _ _ _ (fun j => by simp [ev])
  have hp : ∀ f c a, (putC f c a (imm % 4294967296)).toNat.testBit i = (symP f c a i).any EV := fun f c a => by
    rw [← hE]; exact put_bit f c a _ i (by omega) _ _ _ _ (fun j => by simp [ev])
  unfold symE
  simp only [List.any_append, encA, enc0, orI_bit, hg, hd', hr', ht', hp, Bool.or_assoc]

theorem enc_eq (op rd rs1 rs2 imm : Int) : encR op rd rs1 rs2 imm = encC op rd rs1 rs2 imm := by
  unfold encR encC
  rw [← legal_eq]
  by_cases hl : legalC op rd rs1 rs2 imm = true
  · rw [if_pos hl, if_pos hl]
    have hop : 1 ≤ op ∧ op ≤ 48 := by
      by_cases h : 1 ≤ op ∧ op ≤ 48
      · exact h
      · rw [legal_eq] at hl; unfold legalR at hl; rw [if_neg h] at hl; cases hl
    obtain ⟨k, rfl⟩ := Int.eq_ofNat_of_zero_le (by omega : 0 ≤ op)
    obtain ⟨ok, hlen⟩ := ok_all (k := k) (by omega) (by omega)
    have hb := legal_bd hl
    have hu : U32 (encA (lay (fmtOf k)) (enc0 k rd rs1 rs2) (imm % 4294967296) 4) := by
      have h0 : U32 (bitOf k) := bit_bd k
      have h1 : U32 (rd * 128) := ⟨by have := hb.d; omega, by have := hb.d; omega⟩
      have h2 : U32 (rs1 * 32768) := ⟨by have := hb.r; omega, by have := hb.r; omega⟩
      have h3 : U32 (rs2 * 1048576) := ⟨by have := hb.t; omega, by have := hb.t; omega⟩
      exact encA_u32 (orI_u32 (orI_u32 (orI_u32 h0 h1) h2) h3) 4
    have hbits := enc_bits (op := k) rfl (by omega) (by omega) hl
    generalize encA (lay (fmtOf k)) (enc0 k rd rs1 rs2) (imm % 4294967296) 4 = E at *
    obtain ⟨N, rfl⟩ := Int.eq_ofNat_of_zero_le hu.1
    rw [Int.toNat_natCast] at hbits
    have hbk := bitsOk_of hbits ok
    rw [Int.toNat_natCast]
    refine (fill_unique hbk ?_).symm
    rw [hlen]
    have e : pw 32 = 4294967296 := by decide
    rw [e]
    have := hu.2
    omega
  · rw [if_neg hl, if_neg hl]
theorem err_eq (op rd rs1 rs2 imm : Int) : errR op rd rs1 rs2 imm = errC op rd rs1 rs2 imm := by
  unfold errR errC; rw [legal_eq]
end Hm

/-
  The plain mathematics: package code's Decode is the document's.
-/
namespace Hm

/-! ### Which bits match -/
def matchL (x : Int) : List UInt8 → Bool
  | [] => true
  | c :: l => !miss c (bt x l.length) && matchL x l
def foldF (x : Int) : List UInt8 → Flds → Flds
  | [], f => f
  | c :: l, f => foldF x l (rstep f c (bt x l.length))
theorem rd_eq (x : Int) : ∀ (l : List UInt8) (f : Flds), rd x l f = if matchL x l then some (foldF x l f) else none
  | [], f => rfl
  | c :: l, f => by
    unfold rd matchL foldF
    cases h : miss c (bt x l.length) with
    | true => simp
    | false => simp [rd_eq x l]

def okM (k : Nat) : List UInt8 → Bool
  | [] => true
  | c :: l => ((tellC (fmtT k)).toNat.testBit l.length == ((c.toNat : Int) == 48 || (c.toNat : Int) == 49)) && ((bitT k).toNat.testBit l.length == ((c.toNat : Int) == 49)) && okM k l
theorem okM_all {k : Nat} (h0 : 1 ≤ k) (h1 : k ≤ 48) : okM k (bitsL k) = true ∧ (bitsL k).length = 32 ∧ (bitT k).toNat < 2 ^ 32 ∧ 0 ≤ bitT k := by
  have : ∀ j : Fin 49, j.val = 0 ∨ (okM j (bitsL j) = true ∧ (bitsL j).length = 32 ∧ (bitT j).toNat < 4294967296 ∧ 0 ≤ bitT j) := by decide +kernel
  rcases this ⟨k, by omega⟩ with h | h
  · simp at h; omega
  · exact ⟨h.1, h.2.1, Nat.lt_of_lt_of_le h.2.2.1 (by decide), h.2.2.2⟩

theorem miss_bit {c : UInt8} {b : Bool} : miss c (b01 b) = (((c.toNat : Int) == 48 || (c.toNat : Int) == 49) && (b != ((c.toNat : Int) == 49))) := by
  unfold miss b01
  by_cases h0 : (c.toNat : Int) = 48
  · rw [h0]; cases b <;> rfl
  · by_cases h1 : (c.toNat : Int) = 49
    · rw [h1]; cases b <;> rfl
    · have e0 : ((c.toNat : Int) == 48) = false := by simpa using h0
      have e1 : ((c.toNat : Int) == 49) = false := by simpa using h1
      rw [e0, e1]; rfl
theorem matchL_iff {x : Int} {k : Nat} : ∀ {l : List UInt8}, okM k l = true → (matchL x l = true ↔ ∀ i, i < l.length → ((x % 4294967296).toNat &&& (tellC (fmtT k)).toNat).testBit i = (bitT k).toNat.testBit i)
  | [], _ => by simp [matchL]
  | c :: l, h => by
    unfold okM at h
    simp only [Bool.and_eq_true, beq_iff_eq] at h
    obtain ⟨⟨h1, h2⟩, h3⟩ := h
    have ih := matchL_iff (x := x) h3
    have hm : (!miss c (bt x l.length)) = true ↔ ((x % 4294967296).toNat &&& (tellC (fmtT k)).toNat).testBit l.length = (bitT k).toNat.testBit l.length := by
      rw [bt_nat, miss_bit, Nat.testBit_and, h1, h2]
      generalize (x % 4294967296).toNat.testBit l.length = b
      by_cases h0 : (c.toNat : Int) = 48
      · rw [h0]; cases b <;> decide
      · by_cases h1 : (c.toNat : Int) = 49
        · rw [h1]; cases b <;> decide
        · have e0 : ((c.toNat : Int) == 48) = false := by simpa using h0
          have e1 : ((c.toNat : Int) == 49) = false := by simpa using h1
          rw [e0, e1]; cases b <;> decide
    unfold matchL
    rw [Bool.and_eq_true, hm, ih, List.length_cons]
    constructor
    · intro ⟨ha, hb⟩ i hi
      by_cases e : i = l.length
      · subst e; exact ha
      · exact hb i (by omega)
    · intro ha
      exact ⟨ha _ (by omega), fun i hi => ha i (by omega)⟩
theorem tell_lt (f : Int) : (tellC f).toNat < 2 ^ 32 := by
  have e : (2 : Nat) ^ 32 = 4294967296 := by decide
  rw [e]
  unfold tellC
  repeat' split
  all_goals decide
theorem match_eq {x : Int} (x0 : 0 ≤ x) (x1 : x < 4294967296) {k : Nat} (h0 : 1 ≤ k) (h1 : k ≤ 48) : matchC x k = matchL x (bitsL k) := by
  obtain ⟨ok, hlen, hlt, hnn⟩ := okM_all h0 h1
  have hx : x % 4294967296 = x := by omega
  rw [Bool.eq_iff_iff, matchL_iff ok, hlen, hx]
  unfold matchC andI
  rw [beq_iff_eq]
  constructor
  · intro h i _
    have : x.toNat &&& (tellC (fmtT k)).toNat = (bitT k).toNat := by rw [← h, Int.toNat_natCast]
    rw [this]
  · intro h
    have : x.toNat &&& (tellC (fmtT k)).toNat = (bitT k).toNat := by
      apply Nat.eq_of_testBit_eq
      intro i
      by_cases hi : i < 32
      · exact h i hi
      · have hp : 2 ^ 32 ≤ 2 ^ i := Nat.pow_le_pow_right (by decide) (by omega)
        rw [Nat.testBit_and, Nat.testBit_lt_two_pow (Nat.lt_of_lt_of_le (tell_lt _) hp), Nat.testBit_lt_two_pow (Nat.lt_of_lt_of_le hlt hp), Bool.and_false]
    rw [this, Int.toNat_of_nonneg hnn]
end Hm
