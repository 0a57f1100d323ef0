/-
  Z2 Z3 Y1 Y2 in one text.
-/
import Derived.Test.YtfeijejeibolfaaDoorGA
import Derived.Test.YtfeijejeibolfaaDoorGC
set_option linter.unusedVariables false
set_option linter.unusedSimpArgs false
/-
  The plain mathematics: package code's Encode is the document's.
-/
namespace Hm

/-- Of each letter the bit that a number has there. -/
def bitsOk (d r t imm E : Int) : List UInt8 → Prop
  | [] => True
  | c :: l => E / pw l.length % 2 = fbit d r t imm c l ∧ bitsOk d r t imm E l
theorem fill_unique {d r t imm E : Int} : ∀ {l : List UInt8} {w : Int}, bitsOk d r t imm E l → E / pw l.length = w → E = fill d r t imm l w
  | [], w, _, h => by simpa [pw, fill] using h
  | c :: l, w, ⟨hb, hr⟩, h => by
    unfold fill
    refine fill_unique hr ?_
    have hp := pw_pos l.length
    have e : E / pw (l.length + 1) = E / pw l.length / 2 := by
      rw [pw_succ, Int.mul_comm, Int.ediv_ediv_of_nonneg (by omega)]
    rw [List.length_cons, e] at h
    rw [← hb]
    omega

/-- The sources of bits: field and number. -/
def ev (D R T X : Nat → Bool) (s : Nat × Nat) : Bool := if s.1 = 0 then D s.2 else if s.1 = 1 then R s.2 else if s.1 = 2 then T s.2 else X s.2
def symP (f c a : Int) (i : Nat) : List (Nat × Nat) := if a.toNat ≤ i ∧ i - a.toNat < c.toNat ∧ i < 32 then [(3, f.toNat + (i - a.toNat))] else []
def symE (L : Lay) (i : Nat) : List (Nat × Nat) :=
  (if L.rd = true ∧ 7 ≤ i ∧ i < 12 then [(0, i - 7)] else []) ++ (if L.rs1 = true ∧ 15 ≤ i ∧ i < 20 then [(1, i - 15)] else []) ++ (if L.rs2 = true ∧ 20 ≤ i ∧ i < 25 then [(2, i - 20)] else [])
  ++ symP L.f0 L.c0 L.a0 i ++ symP L.f1 L.c1 L.a1 i ++ symP L.f2 L.c2 L.a2 i ++ symP L.f3 L.c3 L.a3 i
def symF (c : UInt8) (l : List UInt8) : List (Nat × Nat) :=
  if (c.toNat : Int) = 49 then [] else if (c.toNat : Int) = 100 then [(0, cnt l 100)] else if (c.toNat : Int) = 115 then [(1, cnt l 115)] else if (c.toNat : Int) = 116 then [(2, cnt l 116)]
  else if 65 ≤ (c.toNat : Int) ∧ (c.toNat : Int) ≤ 85 then [(3, ((c.toNat : Int) - 65).toNat)] else []
def okAt (k : Nat) : List UInt8 → Bool
  | [] => true
  | c :: l => (symE (lay (fmtT k)) l.length == symF c l) && ((bitT k).toNat.testBit l.length == ((c.toNat : Int) == 49)) && okAt k l
theorem ok_all {k : Nat} (h0 : 1 ≤ k) (h1 : k ≤ 48) : okAt k (bitsL k) = true ∧ (bitsL k).length = 32 := by
  have : ∀ j : Fin 49, j.val = 0 ∨ (okAt j (bitsL j) = true ∧ (bitsL j).length = 32) := by decide +kernel
  rcases this ⟨k, by omega⟩ with h | h
  · simp at h; omega
  · exact h

/-- A bit as a number. -/
def b01 (b : Bool) : Int := if b then 1 else 0
theorem bit_nat (n i : Nat) : (n : Int) / pw i % 2 = b01 (n.testBit i) := by
  have e : (n : Int) / pw i % 2 = ((n / 2 ^ i % 2 : Nat) : Int) := by
    have : pw i = ((2 ^ i : Nat) : Int) := by unfold pw; simp
    rw [this]; exact_mod_cast rfl
  rw [e, Nat.testBit_eq_decide_div_mod_eq, b01]
  have h : n / 2 ^ i % 2 = 0 ∨ n / 2 ^ i % 2 = 1 := by omega
  rcases h with h | h <;> rw [h] <;> simp
theorem bt_nat (n : Int) (i : Nat) : bt n i = b01 ((n % 4294967296).toNat.testBit i) := by
  rw [← bit_nat]
  unfold bt
  rw [Int.toNat_of_nonneg (by omega)]
theorem fbit_sym (d r t imm : Int) (c : UInt8) (l : List UInt8) :
    fbit d r t imm c l = b01 (((c.toNat : Int) == 49) || (symF c l).any (ev (fun j => (d % 4294967296).toNat.testBit j) (fun j => (r % 4294967296).toNat.testBit j) (fun j => (t % 4294967296).toNat.testBit j) (fun j => (imm % 4294967296).toNat.testBit j))) := by
  unfold fbit symF
  by_cases h1 : (c.toNat : Int) = 49
  · simp [h1, b01]
  by_cases h2 : (c.toNat : Int) = 100
  · simp [h2, ev, bt_nat]
  by_cases h3 : (c.toNat : Int) = 115
  · simp [h3, ev, bt_nat]
  by_cases h4 : (c.toNat : Int) = 116
  · simp [h4, ev, bt_nat]
  by_cases h5 : 65 ≤ (c.toNat : Int) ∧ (c.toNat : Int) ≤ 85
  · rw [if_neg h1, if_neg h2, if_neg h3, if_neg h4, if_pos h5, if_neg h1, if_neg h2, if_neg h3, if_neg h4, if_pos h5]
    have : ((c.toNat : Int) == 49) = false := by simpa using h1
    rw [this]
    simp [ev, bt_nat]
  · rw [if_neg h1, if_neg h2, if_neg h3, if_neg h4, if_neg h5, if_neg h1, if_neg h2, if_neg h3, if_neg h4, if_neg h5]
    have : ((c.toNat : Int) == 49) = false := by simpa using h1
    rw [this]
    simp [b01]

theorem bitsOk_of {d r t imm : Int} {k N : Nat} (hN : ∀ i, N.testBit i = ((bitT k).toNat.testBit i || (symE (lay (fmtT k)) i).any (ev (fun j => (d % 4294967296).toNat.testBit j) (fun j => (r % 4294967296).toNat.testBit j) (fun j => (t % 4294967296).toNat.testBit j) (fun j => (imm % 4294967296).toNat.testBit j)))) :
    ∀ {l : List UInt8}, okAt k l = true → bitsOk d r t imm N l
  | [], _ => trivial
  | c :: l, h => by
    unfold okAt at h
    simp only [Bool.and_eq_true, beq_iff_eq] at h
    obtain ⟨⟨h1, h2⟩, h3⟩ := h
    refine ⟨?_, bitsOk_of hN h3⟩
    rw [bit_nat, hN, h1, h2, fbit_sym]
theorem orI_bit {a b : Int} (i : Nat) : (orI a b).toNat.testBit i = (a.toNat.testBit i || b.toNat.testBit i) := by
  unfold orI; rw [Int.toNat_natCast, Nat.testBit_or]
theorem shl_bit (n : Int) (s : Nat) (i : Nat) (h : 0 ≤ n) : (n * pw s).toNat.testBit i = (decide (s ≤ i) && n.toNat.testBit (i - s)) := by
  obtain ⟨m, rfl⟩ := Int.eq_ofNat_of_zero_le h
  have e : ((m : Int) * pw s).toNat = m <<< s := by
    have : pw s = ((2 ^ s : Nat) : Int) := by unfold pw; simp
    rw [this, Nat.shiftLeft_eq]; exact_mod_cast Int.toNat_natCast _
  rw [e, Nat.testBit_shiftLeft, Int.toNat_natCast]
theorem small_bit (n : Int) (j : Nat) (h0 : 0 ≤ n) (h1 : n ≤ 31) (hj : 5 ≤ j) : n.toNat.testBit j = false :=
  Nat.testBit_lt_two_pow (Nat.lt_of_lt_of_le (by omega : n.toNat < 2 ^ 5) (Nat.pow_le_pow_right (by decide) hj))
theorem mod_small (n : Int) (h0 : 0 ≤ n) (h1 : n ≤ 31) : n % 4294967296 = n := by omega
/-- A register's field. -/
theorem reg_bit (n : Int) (s i : Nat) (u : Bool) (f : Nat) (hf : fitsC n u = true) (D R T X : Nat → Bool) (hD : ∀ j, ev D R T X (f, j) = (n % 4294967296).toNat.testBit j) :
    (n * pw s).toNat.testBit i = (if u = true ∧ s ≤ i ∧ i < s + 5 then [(f, i - s)] else []).any (ev D R T X) := by
  have hb := fitsC_bd hf
  rw [shl_bit n s i hb.1]
  by_cases h : u = true ∧ s ≤ i ∧ i < s + 5
  · rw [if_pos h]
    simp [h.2.1, hD, mod_small n hb.1 hb.2]
  · rw [if_neg h]
    simp only [List.any_nil]
    by_cases hu : u = true
    · by_cases hs : s ≤ i
      · have h3 : ¬ i < s + 5 := fun h3 => h ⟨hu, hs, h3⟩
        rw [small_bit n _ hb.1 hb.2 (by omega)]; simp
      · simp [hs]
    · have hn : n = 0 := by cases u <;> simp_all [fitsC]
      subst hn
      simp
/-- A piece of Imm. -/
theorem put_bit (f c a x : Int) (i : Nat) (x0 : 0 ≤ x) (D R T X : Nat → Bool) (hX : ∀ j, ev D R T X (3, j) = x.toNat.testBit j) :
    (putC f c a x).toNat.testBit i = (symP f c a i).any (ev D R T X) := by
  obtain ⟨m, rfl⟩ := Int.eq_ofNat_of_zero_le x0
  have e : (putC f c a m).toNat = ((m / 2 ^ f.toNat % 2 ^ c.toNat) <<< a.toNat) % 2 ^ 32 := by
    have h : ∀ n, pw n = ((2 ^ n : Nat) : Int) := fun n => by unfold pw; simp
    have e1 : putC f c a m = (((m / 2 ^ f.toNat % 2 ^ c.toNat * 2 ^ a.toNat) % 4294967296 : Nat) : Int) := by
      unfold putC
      rw [h, h, h, Int.natCast_emod, Int.natCast_mul, Int.natCast_emod, Int.natCast_ediv]
      rfl
    have e2 : (2 : Nat) ^ 32 = 4294967296 := by decide
    rw [e1, Int.toNat_natCast, Nat.shiftLeft_eq, e2]
  rw [e, Nat.testBit_mod_two_pow, Nat.testBit_shiftLeft, Nat.testBit_mod_two_pow, ← Nat.shiftRight_eq_div_pow, Nat.testBit_shiftRight]
  unfold symP
  by_cases h : a.toNat ≤ i ∧ i - a.toNat < c.toNat ∧ i < 32
  · rw [if_pos h, decide_eq_true h.2.2, decide_eq_true (show i ≥ a.toNat from h.1), decide_eq_true h.2.1]
    rw [List.any_cons, List.any_nil, hX, Int.toNat_natCast]
    generalize m.testBit (f.toNat + (i - a.toNat)) = b
    cases b <;> rfl
  · rw [if_neg h]
    simp only [List.any_nil]
    by_cases h1 : a.toNat ≤ i
    · by_cases h2 : i - a.toNat < c.toNat
      · have h3 : ¬ i < 32 := fun h3 => h ⟨h1, h2, h3⟩
        rw [decide_eq_false h3, Bool.false_and]
      · rw [decide_eq_false h2, Bool.false_and, Bool.and_false, Bool.and_false]
    · rw [decide_eq_false (show ¬ i ≥ a.toNat from h1), Bool.false_and, Bool.and_false]

theorem enc_bits {op rd rs1 rs2 imm : Int} {k : Nat} (hk : op = k) (h0 : 1 ≤ k) (h1 : k ≤ 48) (hl : legalC op rd rs1 rs2 imm = true) (i : Nat) :
    (encA (lay (fmtOf op)) (enc0 op rd rs1 rs2) (imm % 4294967296) 4).toNat.testBit i
      = ((bitT k).toNat.testBit i || (symE (lay (fmtT k)) i).any (ev (fun j => (rd % 4294967296).toNat.testBit j) (fun j => (rs1 % 4294967296).toNat.testBit j) (fun j => (rs2 % 4294967296).toNat.testBit j) (fun j => (imm % 4294967296).toNat.testBit j))) := by
  subst hk
  have hf : fmtOf (k : Int) = fmtT k := by unfold fmtOf; rw [if_pos (by omega), Int.toNat_natCast]
  have hg : bitOf (k : Int) = bitT k := by unfold bitOf; rw [if_pos (by omega), Int.toNat_natCast]
  have hl' := hl
  unfold legalC at hl'
  rw [hf] at hl' ⊢
  split at hl'
  · cases hl'
  simp only [Bool.and_eq_true] at hl'
  obtain ⟨⟨⟨hd, hr⟩, ht⟩, _⟩ := hl'
  generalize hE : ev (fun j => (rd % 4294967296).toNat.testBit j) (fun j => (rs1 % 4294967296).toNat.testBit j) (fun j => (rs2 % 4294967296).toNat.testBit j) (fun j => (imm % 4294967296).toNat.testBit j) = EV
  have hd' : (rd * 128).toNat.testBit i = (if (lay (fmtT k)).rd = true ∧ 7 ≤ i ∧ i < 12 then [(0, i - 7)] else []).any EV := by
    rw [← hE]; exact reg_bit rd 7 i _ 0 hd _ _ _ _ (fun j => by simp [ev])
  have hr' : (rs1 * 32768).toNat.testBit i = (if (lay (fmtT k)).rs1 = true ∧ 15 ≤ i ∧ i < 20 then [(1, i - 15)] else []).any EV := by
    rw [← hE]; exact reg_bit rs1 15 i _ 1 hr _ _ _ _ (fun j => by simp [ev])
  have ht' : (rs2 * 1048576).toNat.testBit i = (if (lay (fmtT k)).rs2 = true ∧ 20 ≤ i ∧ i < 25 then [(2, i - 20)] else []).any EV := by
    rw [← hE]; exact reg_bit rs2 20 i _ 2 ht _ _ _ _ (fun j => by simp [ev])
  have hp : ∀ f c a, (putC f c a (imm % 4294967296)).toNat.testBit i = (symP f c a i).any EV := fun f c a => by
    rw [← hE]; exact put_bit f c a _ i (by omega) _ _ _ _ (fun j => by simp [ev])
  unfold symE
  simp only [List.any_append, encA, enc0, orI_bit, hg, hd', hr', ht', hp, Bool.or_assoc]

theorem enc_eq (op rd rs1 rs2 imm : Int) : encR op rd rs1 rs2 imm = encC op rd rs1 rs2 imm := by
  unfold encR encC
  rw [← legal_eq]
  by_cases hl : legalC op rd rs1 rs2 imm = true
  · rw [if_pos hl, if_pos hl]
    have hop : 1 ≤ op ∧ op ≤ 48 := by
      by_cases h : 1 ≤ op ∧ op ≤ 48
      · exact h
      · rw [legal_eq] at hl; unfold legalR at hl; rw [if_neg h] at hl; cases hl
    obtain ⟨k, rfl⟩ := Int.eq_ofNat_of_zero_le (by omega : 0 ≤ op)
    obtain ⟨ok, hlen⟩ := ok_all (k := k) (by omega) (by omega)
    have hb := legal_bd hl
    have hu : U32 (encA (lay (fmtOf k)) (enc0 k rd rs1 rs2) (imm % 4294967296) 4) := by
      have h0 : U32 (bitOf k) := bit_bd k
      have h1 : U32 (rd * 128) := ⟨by have := hb.d; omega, by have := hb.d; omega⟩
      have h2 : U32 (rs1 * 32768) := ⟨by have := hb.r; omega, by have := hb.r; omega⟩
      have h3 : U32 (rs2 * 1048576) := ⟨by have := hb.t; omega, by have := hb.t; omega⟩
      exact encA_u32 (orI_u32 (orI_u32 (orI_u32 h0 h1) h2) h3) 4
    have hbits := enc_bits (op := k) rfl (by omega) (by omega) hl
    generalize encA (lay (fmtOf k)) (enc0 k rd rs1 rs2) (imm % 4294967296) 4 = E at *
    obtain ⟨N, rfl⟩ := Int.eq_ofNat_of_zero_le hu.1
    rw [Int.toNat_natCast] at hbits
    have hbk := bitsOk_of hbits ok
    rw [Int.toNat_natCast]
    refine (fill_unique hbk ?_).symm
    rw [hlen]
    have e : pw 32 = 4294967296 := by decide
    rw [e]
    have := hu.2
    omega
  · rw [if_neg hl, if_neg hl]
theorem err_eq (op rd rs1 rs2 imm : Int) : errR op rd rs1 rs2 imm = errC op rd rs1 rs2 imm := by
  unfold errR errC; rw [legal_eq]
end Hm

/-
  The plain mathematics: package code's Decode is the document's.
-/
namespace Hm

/-! ### Which bits match -/
def matchL (x : Int) : List UInt8 → Bool
  | [] => true
  | c :: l => !miss c (bt x l.length) && matchL x l
def foldF (x : Int) : List UInt8 → Flds → Flds
  | [], f => f
  | c :: l, f => foldF x l (rstep f c (bt x l.length))
theorem rd_eq (x : Int) : ∀ (l : List UInt8) (f : Flds), rd x l f = if matchL x l then some (foldF x l f) else none
  | [], f => rfl
  | c :: l, f => by
    unfold rd matchL foldF
    cases h : miss c (bt x l.length) with
    | true => simp
    | false => simp [rd_eq x l]

def okM (k : Nat) : List UInt8 → Bool
  | [] => true
  | c :: l => ((tellC (fmtT k)).toNat.testBit l.length == ((c.toNat : Int) == 48 || (c.toNat : Int) == 49)) && ((bitT k).toNat.testBit l.length == ((c.toNat : Int) == 49)) && okM k l
theorem okM_all {k : Nat} (h0 : 1 ≤ k) (h1 : k ≤ 48) : okM k (bitsL k) = true ∧ (bitsL k).length = 32 ∧ (bitT k).toNat < 2 ^ 32 ∧ 0 ≤ bitT k := by
  have : ∀ j : Fin 49, j.val = 0 ∨ (okM j (bitsL j) = true ∧ (bitsL j).length = 32 ∧ (bitT j).toNat < 4294967296 ∧ 0 ≤ bitT j) := by decide +kernel
  rcases this ⟨k, by omega⟩ with h | h
  · simp at h; omega
  · exact ⟨h.1, h.2.1, Nat.lt_of_lt_of_le h.2.2.1 (by decide), h.2.2.2⟩

theorem miss_bit {c : UInt8} {b : Bool} : miss c (b01 b) = (((c.toNat : Int) == 48 || (c.toNat : Int) == 49) && (b != ((c.toNat : Int) == 49))) := by
  unfold miss b01
  by_cases h0 : (c.toNat : Int) = 48
  · rw [h0]; cases b <;> rfl
  · by_cases h1 : (c.toNat : Int) = 49
    · rw [h1]; cases b <;> rfl
    · have e0 : ((c.toNat : Int) == 48) = false := by simpa using h0
      have e1 : ((c.toNat : Int) == 49) = false := by simpa using h1
      rw [e0, e1]; rfl
theorem matchL_iff {x : Int} {k : Nat} : ∀ {l : List UInt8}, okM k l = true → (matchL x l = true ↔ ∀ i, i < l.length → ((x % 4294967296).toNat &&& (tellC (fmtT k)).toNat).testBit i = (bitT k).toNat.testBit i)
  | [], _ => by simp [matchL]
  | c :: l, h => by
    unfold okM at h
    simp only [Bool.and_eq_true, beq_iff_eq] at h
    obtain ⟨⟨h1, h2⟩, h3⟩ := h
    have ih := matchL_iff (x := x) h3
    have hm : (!miss c (bt x l.length)) = true ↔ ((x % 4294967296).toNat &&& (tellC (fmtT k)).toNat).testBit l.length = (bitT k).toNat.testBit l.length := by
      rw [bt_nat, miss_bit, Nat.testBit_and, h1, h2]
      generalize (x % 4294967296).toNat.testBit l.length = b
      by_cases h0 : (c.toNat : Int) = 48
      · rw [h0]; cases b <;> decide
      · by_cases h1 : (c.toNat : Int) = 49
        · rw [h1]; cases b <;> decide
        · have e0 : ((c.toNat : Int) == 48) = false := by simpa using h0
          have e1 : ((c.toNat : Int) == 49) = false := by simpa using h1
          rw [e0, e1]; cases b <;> decide
    unfold matchL
    rw [Bool.and_eq_true, hm, ih, List.length_cons]
    constructor
    · intro ⟨ha, hb⟩ i hi
      by_cases e : i = l.length
      · subst e; exact ha
      · exact hb i (by omega)
    · intro ha
      exact ⟨ha _ (by omega), fun i hi => ha i (by omega)⟩
theorem tell_lt (f : Int) : (tellC f).toNat < 2 ^ 32 := by
  have e : (2 : Nat) ^ 32 = 4294967296 := by decide
  rw [e]
  unfold tellC
  repeat' split
  all_goals decide
theorem match_eq {x : Int} (x0 : 0 ≤ x) (x1 : x < 4294967296) {k : Nat} (h0 : 1 ≤ k) (h1 : k ≤ 48) : matchC x k = matchL x (bitsL k) := by
  obtain ⟨ok, hlen, hlt, hnn⟩ := okM_all h0 h1
  have hx : x % 4294967296 = x := by omega
  rw [Bool.eq_iff_iff, matchL_iff ok, hlen, hx]
  unfold matchC andI
  rw [beq_iff_eq]
  constructor
  · intro h i _
    have : x.toNat &&& (tellC (fmtT k)).toNat = (bitT k).toNat := by rw [← h, Int.toNat_natCast]
    rw [this]
  · intro h
    have : x.toNat &&& (tellC (fmtT k)).toNat = (bitT k).toNat := by
      apply Nat.eq_of_testBit_eq
      intro i
      by_cases hi : i < 32
      · exact h i hi
      · have hp : 2 ^ 32 ≤ 2 ^ i := Nat.pow_le_pow_right (by decide) (by omega)
        rw [Nat.testBit_and, Nat.testBit_lt_two_pow (Nat.lt_of_lt_of_le (tell_lt _) hp), Nat.testBit_lt_two_pow (Nat.lt_of_lt_of_le hlt hp), Bool.and_false]
    rw [this, Int.toNat_of_nonneg hnn]
end Hm

/-
  Mathematics of short instructions on package code's side: bits of masks, of pieces. Nothing of the dump is imported.
-/
namespace Hm
theorem bt_b {n : Int} (h : U32 n) (j : Nat) : bt n j = b01 (n.toNat.testBit j) := by
  rw [bt_nat, show n % 4294967296 = n by unfold U32 at h; omega]
theorem bt_or {a b : Int} (ha : U32 a) (hb : U32 b) (j : Nat) : bt (orI a b) j = if bt a j = 1 then 1 else bt b j := by
  rw [bt_b (orI_u32 ha hb), bt_b ha, bt_b hb, orI_bit]
  cases a.toNat.testBit j <;> cases b.toNat.testBit j <;> rfl
theorem andI_u32 {a b : Int} (ha : U32 a) : U32 (andI a b) := by
  have h1 : a.toNat < 2 ^ 32 := by have := ha.2; have := ha.1; omega
  have h2 : a.toNat &&& b.toNat ≤ a.toNat := Nat.and_le_left
  unfold andI U32
  omega
theorem bt_and {a m : Int} (ha : U32 a) (hm : U32 m) (j : Nat) : bt (andI a m) j = if bt m j = 1 then bt a j else 0 := by
  rw [bt_b (andI_u32 ha), bt_b ha, bt_b hm]
  unfold andI
  rw [Int.toNat_natCast, Nat.testBit_and]
  cases a.toNat.testBit j <;> cases m.toNat.testBit j <;> rfl
theorem bt_put {f c a x : Int} (hx : U32 x) (j : Nat) : bt (putC f c a x) j = if a.toNat ≤ j ∧ j - a.toNat < c.toNat ∧ j < 32 then bt x (f.toNat + (j - a.toNat)) else 0 := by
  rw [bt_b (putC_u32 _ _ _ _), put_bit f c a x j hx.1 (fun _ => false) (fun _ => false) (fun _ => false) (fun i => x.toNat.testBit i) (fun _ => rfl)]
  unfold symP
  split
  · rw [bt_b hx, List.any_cons, List.any_nil, Bool.or_false]; rfl
  · rfl
theorem gat_step (S : Spr) {x : Int} (hx : U32 x) (k j : Nat) : bt (gatA S x (k + 1)) j = if bt (gatA S x k) j = 1 then 1 else if (S.f k).toNat ≤ j ∧ j - (S.f k).toNat < (S.c k).toNat ∧ j < 32 then bt x ((S.a k).toNat + (j - (S.f k).toNat)) else 0 := by
  rw [← bt_put hx]; exact bt_or (gatA_u32 S x k) (putC_u32 _ _ _ _) j
theorem sput_step (S : Spr) {x : Int} (hx : U32 x) (k j : Nat) : bt (sputA S x (k + 1)) j = if bt (sputA S x k) j = 1 then 1 else if (S.a k).toNat ≤ j ∧ j - (S.a k).toNat < (S.c k).toNat ∧ j < 32 then bt x ((S.f k).toNat + (j - (S.a k).toNat)) else 0 := by
  rw [← bt_put hx]; exact bt_or (sputA_u32 S x k) (putC_u32 _ _ _ _) j
theorem bt_zero (j : Nat) : bt 0 j = 0 := by unfold bt; simp
theorem putC_u16 {f c a x : Int} (h : c.toNat + a.toNat ≤ 16) : U16 (putC f c a x) := by
  have hc := pw_pos c.toNat
  have ha := pw_pos a.toNat
  have h1 := Int.emod_nonneg (x / pw f.toNat) (show pw c.toNat ≠ 0 by omega)
  have h2 := Int.emod_lt_of_pos (x / pw f.toNat) (show 0 < pw c.toNat by omega)
  have h3 : pw c.toNat * pw a.toNat ≤ 65536 := by
    rw [show pw c.toNat * pw a.toNat = pw (c.toNat + a.toNat) by unfold pw; rw [Int.pow_add]]
    exact pw_mono _ 16 h
  unfold putC U16
  generalize x / pw f.toNat % pw c.toNat = y at *
  have h4 := Int.mul_le_mul_of_nonneg_right (show y ≤ pw c.toNat - 1 by omega) (show 0 ≤ pw a.toNat by omega)
  rw [Int.sub_mul, Int.one_mul] at h4
  have h5 := Int.mul_nonneg h1 (show 0 ≤ pw a.toNat by omega)
  omega
theorem gat_u16 (s x : Int) : ∀ k, k ≤ 8 → U16 (gatA (spr s) x k)
  | 0, _ => show U16 0 from ⟨by decide, by decide⟩
  | k + 1, h => orI_u16 (gat_u16 s x k (by omega)) (putC_u16 (by
      have key : ∀ S : Spr, (∀ k : Fin 8, (S.c k).toNat + (S.f k).toNat ≤ 16) → ∀ k, k < 8 → (S.c k).toNat + (S.f k).toNat ≤ 16 := fun S h k hk => h ⟨k, hk⟩
      refine key (spr s) ?_ k (by omega)
      unfold spr
      repeat' split
      all_goals decide))
theorem sputA_u16 (s x : Int) : ∀ k, k ≤ 8 → U16 (sputA (spr s) x k)
  | 0, _ => show U16 0 from ⟨by decide, by decide⟩
  | k + 1, h => orI_u16 (sputA_u16 s x k (by omega)) (putC_u16 (by
      have key : ∀ S : Spr, (∀ k : Fin 8, (S.c k).toNat + (S.a k).toNat ≤ 16) → ∀ k, k < 8 → (S.c k).toNat + (S.a k).toNat ≤ 16 := fun S h k hk => h ⟨k, hk⟩
      refine key (spr s) ?_ k (by omega)
      unfold spr
      repeat' split
      all_goals decide))
theorem u16_32 {a : Int} (h : U16 a) : U32 a := ⟨h.1, by have := h.2; omega⟩
/-- Each letter of a text of 16 against a mask and its bits. -/
def okS16 (m v : Nat) : List UInt8 → Bool
  | [] => true
  | c :: l => (m.testBit l.length == ((c.toNat : Int) == 48 || (c.toNat : Int) == 49)) && (v.testBit l.length == ((c.toNat : Int) == 49)) && okS16 m v l
theorem okS16_all {k : Nat} (hk : k < 26) : okS16 (rowC k).mask.toNat (rowC k).bits.toNat (shortR k).bits = true := by
  have : ∀ j : Fin 26, okS16 (rowC j).mask.toNat (rowC j).bits.toNat (shortR j).bits = true := by decide +kernel
  exact this ⟨k, hk⟩
theorem op_same {k : Nat} (hk : k < 26) : (rowC k).op = (shortR k).op := by
  have : ∀ j : Fin 26, (rowC j).op = (shortR j).op := by decide +kernel
  exact this ⟨k, hk⟩
theorem not_all {k : Nat} (hk : k < 26) : (rowC k).not' = 0 ∨ (rowC k).not' = 1 ∨ (rowC k).not' = 2 ∨ (rowC k).not' = 5 ∨ (rowC k).not' = 8 ∨ (rowC k).not' = 16 := by
  have : ∀ j : Fin 26, (rowC j).not' = 0 ∨ (rowC j).not' = 1 ∨ (rowC j).not' = 2 ∨ (rowC j).not' = 5 ∨ (rowC j).not' = 8 ∨ (rowC j).not' = 16 := by decide +kernel
  exact this ⟨k, hk⟩
theorem matchS_iff {x : Int} {m v : Nat} : ∀ {l : List UInt8}, okS16 m v l = true → (matchL x l = true ↔ ∀ i, i < l.length → ((x % 4294967296).toNat &&& m).testBit i = v.testBit i)
  | [], _ => by simp [matchL]
  | c :: l, h => by
    unfold okS16 at h
    simp only [Bool.and_eq_true, beq_iff_eq] at h
    obtain ⟨⟨h1, h2⟩, h3⟩ := h
    have ih := matchS_iff (x := x) h3
    have hm : (!miss c (bt x l.length)) = true ↔ ((x % 4294967296).toNat &&& m).testBit l.length = v.testBit l.length := by
      rw [bt_nat, miss_bit, Nat.testBit_and, h1, h2]
      generalize (x % 4294967296).toNat.testBit l.length = b
      by_cases h0 : (c.toNat : Int) = 48
      · rw [h0]; cases b <;> decide
      · by_cases h1 : (c.toNat : Int) = 49
        · rw [h1]; cases b <;> decide
        · have e0 : ((c.toNat : Int) == 48) = false := by simpa using h0
          have e1 : ((c.toNat : Int) == 49) = false := by simpa using h1
          rw [e0, e1]; cases b <;> decide
    unfold matchL
    rw [Bool.and_eq_true, hm, ih, List.length_cons]
    constructor
    · intro ⟨ha, hb⟩ i hi
      by_cases e : i = l.length
      · subst e; exact ha
      · exact hb i (by omega)
    · intro ha
      exact ⟨ha _ (by omega), fun i hi => ha i (by omega)⟩
theorem matchS_eq {x : Int} (x0 : 0 ≤ x) (x1 : x < 65536) {k : Nat} (hk : k < 26) : matchS (rowC k) x = matchL x (shortR k).bits := by
  have hi := matchS_iff (x := x) (okS16_all hk)
  rw [short_len hk, show x % 4294967296 = x by omega] at hi
  have hr := row_ok hk
  have h1 : x.toNat &&& (rowC k).mask.toNat < 2 ^ 16 := Nat.lt_of_le_of_lt Nat.and_le_left (by omega)
  have h2 : (rowC k).bits.toNat < 2 ^ 16 := by have := hr.bits; omega
  rw [Bool.eq_iff_iff, hi]
  unfold matchS andI
  rw [beq_iff_eq]
  constructor
  · intro h i _
    rw [← h, Int.toNat_natCast]
  · intro h
    have e : x.toNat &&& (rowC k).mask.toNat = (rowC k).bits.toNat := by
      apply Nat.eq_of_testBit_eq
      intro i
      by_cases hi : i < 16
      · exact h i hi
      · rw [Nat.testBit_lt_two_pow (Nat.lt_of_lt_of_le h1 (Nat.pow_le_pow_right (by decide) (by omega))), Nat.testBit_lt_two_pow (Nat.lt_of_lt_of_le h2 (Nat.pow_le_pow_right (by decide) (by omega)))]
    rw [e]
    have := hr.bits
    omega
end Hm

/-
  Mathematics of short instructions on package code's side: each place and each spread by the parcel's bits (made by gen_Y2.py). Nothing of the dump is imported.
-/
namespace Hm
def or1 (a b : Int) : Int := if a = 1 then 1 else b
theorem or1_0 (b : Int) : or1 0 b = b := by simp [or1]
theorem or1_1 (b : Int) : or1 1 b = 1 := by simp [or1]
theorem or1_b0 {a : Int} (h : 0 ≤ a ∧ a ≤ 1) : or1 a 0 = a := by unfold or1; split <;> omega
theorem or1_bb (a : Int) : or1 a a = a := by unfold or1; split <;> simp_all
theorem or1_bt (n : Int) (j : Nat) : or1 (bt n j) 0 = bt n j := or1_b0 (bt_bd n j)
def pbG (S : Spr) (x : Int) (k j : Nat) : Int := if (S.f k).toNat ≤ j ∧ j - (S.f k).toNat < (S.c k).toNat ∧ j < 32 then bt x ((S.a k).toNat + (j - (S.f k).toNat)) else 0
def pbP (S : Spr) (x : Int) (k j : Nat) : Int := if (S.a k).toNat ≤ j ∧ j - (S.a k).toNat < (S.c k).toNat ∧ j < 32 then bt x ((S.f k).toNat + (j - (S.a k).toNat)) else 0
theorem gat8 (S : Spr) {x : Int} (hx : U32 x) (j : Nat) : bt (gatA S x 8) j = or1 (or1 (or1 (or1 (or1 (or1 (or1 (pbG S x 0 j) (pbG S x 1 j)) (pbG S x 2 j)) (pbG S x 3 j)) (pbG S x 4 j)) (pbG S x 5 j)) (pbG S x 6 j)) (pbG S x 7 j) := by
  rw [gat_step S hx 7, gat_step S hx 6, gat_step S hx 5, gat_step S hx 4, gat_step S hx 3, gat_step S hx 2, gat_step S hx 1, gat_step S hx 0, show gatA S x 0 = 0 from rfl, bt_zero]
  rfl
theorem sput8 (S : Spr) {x : Int} (hx : U32 x) (j : Nat) : bt (sputA S x 8) j = or1 (or1 (or1 (or1 (or1 (or1 (or1 (pbP S x 0 j) (pbP S x 1 j)) (pbP S x 2 j)) (pbP S x 3 j)) (pbP S x 4 j)) (pbP S x 5 j)) (pbP S x 6 j)) (pbP S x 7 j) := by
  rw [sput_step S hx 7, sput_step S hx 6, sput_step S hx 5, sput_step S hx 4, sput_step S hx 3, sput_step S hx 2, sput_step S hx 1, sput_step S hx 0, show sputA S x 0 = 0 from rfl, bt_zero]
  rfl
theorem bt_m32 (n : Int) (j : Nat) : bt (n % 4294967296) j = bt n j := by unfold bt; rw [Int.emod_emod_of_dvd _ (Int.dvd_refl _)]
theorem sputC_bt (s n : Int) (j : Nat) : bt (sputC s n) j = bt (sputA (spr s) (n % 4294967296) 8) j := by
  have h := sputA_u16 s (n % 4294967296) 8 (Nat.le_refl _)
  unfold sputC
  rw [show sputA (spr s) (n % 4294967296) 8 % 65536 = sputA (spr s) (n % 4294967296) 8 by unfold U16 at h; omega]
theorem take_0 (x : Int) (h0 : 0 ≤ x) (h1 : x < 65536) : takeP 0 x = 0 := by
  have hs := sum16 x h0 h1
  have hb := bt_bd x
  show x / pw 0 % pw 0 + 0 = _
  simp only [pw, Int.reducePow]
  generalize bt x = b at *
  have B0 := hb 0
  have B1 := hb 1
  have B2 := hb 2
  have B3 := hb 3
  have B4 := hb 4
  have B5 := hb 5
  have B6 := hb 6
  have B7 := hb 7
  have B8 := hb 8
  have B9 := hb 9
  have B10 := hb 10
  have B11 := hb 11
  have B12 := hb 12
  have B13 := hb 13
  have B14 := hb 14
  have B15 := hb 15
  clear hb
  omega
theorem take_1 (x : Int) (h0 : 0 ≤ x) (h1 : x < 65536) : takeP 1 x = 1 := by
  have hs := sum16 x h0 h1
  have hb := bt_bd x
  show x / pw 0 % pw 0 + 1 = _
  simp only [pw, Int.reducePow]
  generalize bt x = b at *
  have B0 := hb 0
  have B1 := hb 1
  have B2 := hb 2
  have B3 := hb 3
  have B4 := hb 4
  have B5 := hb 5
  have B6 := hb 6
  have B7 := hb 7
  have B8 := hb 8
  have B9 := hb 9
  have B10 := hb 10
  have B11 := hb 11
  have B12 := hb 12
  have B13 := hb 13
  have B14 := hb 14
  have B15 := hb 15
  clear hb
  omega
theorem take_2 (x : Int) (h0 : 0 ≤ x) (h1 : x < 65536) : takeP 2 x = 2 := by
  have hs := sum16 x h0 h1
  have hb := bt_bd x
  show x / pw 0 % pw 0 + 2 = _
  simp only [pw, Int.reducePow]
  generalize bt x = b at *
  have B0 := hb 0
  have B1 := hb 1
  have B2 := hb 2
  have B3 := hb 3
  have B4 := hb 4
  have B5 := hb 5
  have B6 := hb 6
  have B7 := hb 7
  have B8 := hb 8
  have B9 := hb 9
  have B10 := hb 10
  have B11 := hb 11
  have B12 := hb 12
  have B13 := hb 13
  have B14 := hb 14
  have B15 := hb 15
  clear hb
  omega
theorem take_3 (x : Int) (h0 : 0 ≤ x) (h1 : x < 65536) : takeP 3 x = 0 + 1 * bt x 7 + 2 * bt x 8 + 4 * bt x 9 + 8 * bt x 10 + 16 * bt x 11 := by
  have hs := sum16 x h0 h1
  have hb := bt_bd x
  show x / pw 7 % pw 5 + 0 = _
  simp only [pw, Int.reducePow]
  generalize bt x = b at *
  have B0 := hb 0
  have B1 := hb 1
  have B2 := hb 2
  have B3 := hb 3
  have B4 := hb 4
  have B5 := hb 5
  have B6 := hb 6
  have B7 := hb 7
  have B8 := hb 8
  have B9 := hb 9
  have B10 := hb 10
  have B11 := hb 11
  have B12 := hb 12
  have B13 := hb 13
  have B14 := hb 14
  have B15 := hb 15
  clear hb
  omega
theorem take_4 (x : Int) (h0 : 0 ≤ x) (h1 : x < 65536) : takeP 4 x = 0 + 1 * bt x 2 + 2 * bt x 3 + 4 * bt x 4 + 8 * bt x 5 + 16 * bt x 6 := by
  have hs := sum16 x h0 h1
  have hb := bt_bd x
  show x / pw 2 % pw 5 + 0 = _
  simp only [pw, Int.reducePow]
  generalize bt x = b at *
  have B0 := hb 0
  have B1 := hb 1
  have B2 := hb 2
  have B3 := hb 3
  have B4 := hb 4
  have B5 := hb 5
  have B6 := hb 6
  have B7 := hb 7
  have B8 := hb 8
  have B9 := hb 9
  have B10 := hb 10
  have B11 := hb 11
  have B12 := hb 12
  have B13 := hb 13
  have B14 := hb 14
  have B15 := hb 15
  clear hb
  omega
theorem take_5 (x : Int) (h0 : 0 ≤ x) (h1 : x < 65536) : takeP 5 x = 8 + 1 * bt x 7 + 2 * bt x 8 + 4 * bt x 9 := by
  have hs := sum16 x h0 h1
  have hb := bt_bd x
  show x / pw 7 % pw 3 + 8 = _
  simp only [pw, Int.reducePow]
  generalize bt x = b at *
  have B0 := hb 0
  have B1 := hb 1
  have B2 := hb 2
  have B3 := hb 3
  have B4 := hb 4
  have B5 := hb 5
  have B6 := hb 6
  have B7 := hb 7
  have B8 := hb 8
  have B9 := hb 9
  have B10 := hb 10
  have B11 := hb 11
  have B12 := hb 12
  have B13 := hb 13
  have B14 := hb 14
  have B15 := hb 15
  clear hb
  omega
theorem take_6 (x : Int) (h0 : 0 ≤ x) (h1 : x < 65536) : takeP 6 x = 8 + 1 * bt x 2 + 2 * bt x 3 + 4 * bt x 4 := by
  have hs := sum16 x h0 h1
  have hb := bt_bd x
  show x / pw 2 % pw 3 + 8 = _
  simp only [pw, Int.reducePow]
  generalize bt x = b at *
  have B0 := hb 0
  have B1 := hb 1
  have B2 := hb 2
  have B3 := hb 3
  have B4 := hb 4
  have B5 := hb 5
  have B6 := hb 6
  have B7 := hb 7
  have B8 := hb 8
  have B9 := hb 9
  have B10 := hb 10
  have B11 := hb 11
  have B12 := hb 12
  have B13 := hb 13
  have B14 := hb 14
  have B15 := hb 15
  clear hb
  omega
theorem gat_0 (x : Int) (hx : U32 x) : gatA (spr 0) x 8 = 0 := by
  have h := gat_u16 0 x 8 (Nat.le_refl _)
  have hs := sum16 _ h.1 h.2
  have e0 : bt (gatA (spr 0) x 8) 0 = 0 := by rw [gat8 _ hx]; simp [pbG, spr, spr0, sprOf, or1_0, or1_bt]
  have e1 : bt (gatA (spr 0) x 8) 1 = 0 := by rw [gat8 _ hx]; simp [pbG, spr, spr0, sprOf, or1_0, or1_bt]
  have e2 : bt (gatA (spr 0) x 8) 2 = 0 := by rw [gat8 _ hx]; simp [pbG, spr, spr0, sprOf, or1_0, or1_bt]
  have e3 : bt (gatA (spr 0) x 8) 3 = 0 := by rw [gat8 _ hx]; simp [pbG, spr, spr0, sprOf, or1_0, or1_bt]
  have e4 : bt (gatA (spr 0) x 8) 4 = 0 := by rw [gat8 _ hx]; simp [pbG, spr, spr0, sprOf, or1_0, or1_bt]
  have e5 : bt (gatA (spr 0) x 8) 5 = 0 := by rw [gat8 _ hx]; simp [pbG, spr, spr0, sprOf, or1_0, or1_bt]
  have e6 : bt (gatA (spr 0) x 8) 6 = 0 := by rw [gat8 _ hx]; simp [pbG, spr, spr0, sprOf, or1_0, or1_bt]
  have e7 : bt (gatA (spr 0) x 8) 7 = 0 := by rw [gat8 _ hx]; simp [pbG, spr, spr0, sprOf, or1_0, or1_bt]
  have e8 : bt (gatA (spr 0) x 8) 8 = 0 := by rw [gat8 _ hx]; simp [pbG, spr, spr0, sprOf, or1_0, or1_bt]
  have e9 : bt (gatA (spr 0) x 8) 9 = 0 := by rw [gat8 _ hx]; simp [pbG, spr, spr0, sprOf, or1_0, or1_bt]
  have e10 : bt (gatA (spr 0) x 8) 10 = 0 := by rw [gat8 _ hx]; simp [pbG, spr, spr0, sprOf, or1_0, or1_bt]
  have e11 : bt (gatA (spr 0) x 8) 11 = 0 := by rw [gat8 _ hx]; simp [pbG, spr, spr0, sprOf, or1_0, or1_bt]
  have e12 : bt (gatA (spr 0) x 8) 12 = 0 := by rw [gat8 _ hx]; simp [pbG, spr, spr0, sprOf, or1_0, or1_bt]
  have e13 : bt (gatA (spr 0) x 8) 13 = 0 := by rw [gat8 _ hx]; simp [pbG, spr, spr0, sprOf, or1_0, or1_bt]
  have e14 : bt (gatA (spr 0) x 8) 14 = 0 := by rw [gat8 _ hx]; simp [pbG, spr, spr0, sprOf, or1_0, or1_bt]
  have e15 : bt (gatA (spr 0) x 8) 15 = 0 := by rw [gat8 _ hx]; simp [pbG, spr, spr0, sprOf, or1_0, or1_bt]
  rw [e0, e1, e2, e3, e4, e5, e6, e7, e8, e9, e10, e11, e12, e13, e14, e15] at hs
  omega
theorem stake_0 (x : Int) (hx : U32 x) : stakeC 0 x = 0 := by
  unfold stakeC
  rw [show (spr 0).signed = false from rfl, if_neg (by decide)]
  exact gat_0 x hx
theorem gat_1 (x : Int) (hx : U32 x) : gatA (spr 1) x 8 = 1 * bt x 2 + 2 * bt x 3 + 4 * bt x 4 + 8 * bt x 5 + 16 * bt x 6 := by
  have h := gat_u16 1 x 8 (Nat.le_refl _)
  have hs := sum16 _ h.1 h.2
  have e0 : bt (gatA (spr 1) x 8) 0 = bt x 2 := by rw [gat8 _ hx]; simp [pbG, spr, spr1, sprOf, or1_0, or1_bt]
  have e1 : bt (gatA (spr 1) x 8) 1 = bt x 3 := by rw [gat8 _ hx]; simp [pbG, spr, spr1, sprOf, or1_0, or1_bt]
  have e2 : bt (gatA (spr 1) x 8) 2 = bt x 4 := by rw [gat8 _ hx]; simp [pbG, spr, spr1, sprOf, or1_0, or1_bt]
  have e3 : bt (gatA (spr 1) x 8) 3 = bt x 5 := by rw [gat8 _ hx]; simp [pbG, spr, spr1, sprOf, or1_0, or1_bt]
  have e4 : bt (gatA (spr 1) x 8) 4 = bt x 6 := by rw [gat8 _ hx]; simp [pbG, spr, spr1, sprOf, or1_0, or1_bt]
  have e5 : bt (gatA (spr 1) x 8) 5 = 0 := by rw [gat8 _ hx]; simp [pbG, spr, spr1, sprOf, or1_0, or1_bt]
  have e6 : bt (gatA (spr 1) x 8) 6 = 0 := by rw [gat8 _ hx]; simp [pbG, spr, spr1, sprOf, or1_0, or1_bt]
  have e7 : bt (gatA (spr 1) x 8) 7 = 0 := by rw [gat8 _ hx]; simp [pbG, spr, spr1, sprOf, or1_0, or1_bt]
  have e8 : bt (gatA (spr 1) x 8) 8 = 0 := by rw [gat8 _ hx]; simp [pbG, spr, spr1, sprOf, or1_0, or1_bt]
  have e9 : bt (gatA (spr 1) x 8) 9 = 0 := by rw [gat8 _ hx]; simp [pbG, spr, spr1, sprOf, or1_0, or1_bt]
  have e10 : bt (gatA (spr 1) x 8) 10 = 0 := by rw [gat8 _ hx]; simp [pbG, spr, spr1, sprOf, or1_0, or1_bt]
  have e11 : bt (gatA (spr 1) x 8) 11 = 0 := by rw [gat8 _ hx]; simp [pbG, spr, spr1, sprOf, or1_0, or1_bt]
  have e12 : bt (gatA (spr 1) x 8) 12 = 0 := by rw [gat8 _ hx]; simp [pbG, spr, spr1, sprOf, or1_0, or1_bt]
  have e13 : bt (gatA (spr 1) x 8) 13 = 0 := by rw [gat8 _ hx]; simp [pbG, spr, spr1, sprOf, or1_0, or1_bt]
  have e14 : bt (gatA (spr 1) x 8) 14 = 0 := by rw [gat8 _ hx]; simp [pbG, spr, spr1, sprOf, or1_0, or1_bt]
  have e15 : bt (gatA (spr 1) x 8) 15 = 0 := by rw [gat8 _ hx]; simp [pbG, spr, spr1, sprOf, or1_0, or1_bt]
  rw [e0, e1, e2, e3, e4, e5, e6, e7, e8, e9, e10, e11, e12, e13, e14, e15] at hs
  omega
theorem stake_1 (x : Int) (hx : U32 x) : stakeC 1 x = 1 * bt x 2 + 2 * bt x 3 + 4 * bt x 4 + 8 * bt x 5 + 16 * bt x 6 := by
  unfold stakeC
  rw [show (spr 1).signed = false from rfl, if_neg (by decide)]
  exact gat_1 x hx
theorem gat_2 (x : Int) (hx : U32 x) : gatA (spr 2) x 8 = 1 * bt x 2 + 2 * bt x 3 + 4 * bt x 4 + 8 * bt x 5 + 16 * bt x 6 + 32 * bt x 12 := by
  have h := gat_u16 2 x 8 (Nat.le_refl _)
  have hs := sum16 _ h.1 h.2
  have e0 : bt (gatA (spr 2) x 8) 0 = bt x 2 := by rw [gat8 _ hx]; simp [pbG, spr, spr2, sprOf, or1_0, or1_bt]
  have e1 : bt (gatA (spr 2) x 8) 1 = bt x 3 := by rw [gat8 _ hx]; simp [pbG, spr, spr2, sprOf, or1_0, or1_bt]
  have e2 : bt (gatA (spr 2) x 8) 2 = bt x 4 := by rw [gat8 _ hx]; simp [pbG, spr, spr2, sprOf, or1_0, or1_bt]
  have e3 : bt (gatA (spr 2) x 8) 3 = bt x 5 := by rw [gat8 _ hx]; simp [pbG, spr, spr2, sprOf, or1_0, or1_bt]
  have e4 : bt (gatA (spr 2) x 8) 4 = bt x 6 := by rw [gat8 _ hx]; simp [pbG, spr, spr2, sprOf, or1_0, or1_bt]
  have e5 : bt (gatA (spr 2) x 8) 5 = bt x 12 := by rw [gat8 _ hx]; simp [pbG, spr, spr2, sprOf, or1_0, or1_bt]
  have e6 : bt (gatA (spr 2) x 8) 6 = 0 := by rw [gat8 _ hx]; simp [pbG, spr, spr2, sprOf, or1_0, or1_bt]
  have e7 : bt (gatA (spr 2) x 8) 7 = 0 := by rw [gat8 _ hx]; simp [pbG, spr, spr2, sprOf, or1_0, or1_bt]
  have e8 : bt (gatA (spr 2) x 8) 8 = 0 := by rw [gat8 _ hx]; simp [pbG, spr, spr2, sprOf, or1_0, or1_bt]
  have e9 : bt (gatA (spr 2) x 8) 9 = 0 := by rw [gat8 _ hx]; simp [pbG, spr, spr2, sprOf, or1_0, or1_bt]
  have e10 : bt (gatA (spr 2) x 8) 10 = 0 := by rw [gat8 _ hx]; simp [pbG, spr, spr2, sprOf, or1_0, or1_bt]
  have e11 : bt (gatA (spr 2) x 8) 11 = 0 := by rw [gat8 _ hx]; simp [pbG, spr, spr2, sprOf, or1_0, or1_bt]
  have e12 : bt (gatA (spr 2) x 8) 12 = 0 := by rw [gat8 _ hx]; simp [pbG, spr, spr2, sprOf, or1_0, or1_bt]
  have e13 : bt (gatA (spr 2) x 8) 13 = 0 := by rw [gat8 _ hx]; simp [pbG, spr, spr2, sprOf, or1_0, or1_bt]
  have e14 : bt (gatA (spr 2) x 8) 14 = 0 := by rw [gat8 _ hx]; simp [pbG, spr, spr2, sprOf, or1_0, or1_bt]
  have e15 : bt (gatA (spr 2) x 8) 15 = 0 := by rw [gat8 _ hx]; simp [pbG, spr, spr2, sprOf, or1_0, or1_bt]
  rw [e0, e1, e2, e3, e4, e5, e6, e7, e8, e9, e10, e11, e12, e13, e14, e15] at hs
  omega
theorem stake_2 (x : Int) (hx : U32 x) : stakeC 2 x = 1 * bt x 2 + 2 * bt x 3 + 4 * bt x 4 + 8 * bt x 5 + 16 * bt x 6 + 32 * bt x 12 - 64 * bt x 12 := by
  have hb := bt_bd x
  unfold stakeC
  rw [show (spr 2).signed = true from rfl, if_pos rfl, gat_2 x hx, show pw (32 - wid 2) = 67108864 by decide]
  generalize bt x = b at *
  have B2 := hb 2
  have B3 := hb 3
  have B4 := hb 4
  have B5 := hb 5
  have B6 := hb 6
  have B12 := hb 12
  clear hb
  split <;> omega
theorem gat_3 (x : Int) (hx : U32 x) : gatA (spr 3) x 8 = 4 * bt x 6 + 8 * bt x 5 + 16 * bt x 11 + 32 * bt x 12 + 64 * bt x 7 + 128 * bt x 8 + 256 * bt x 9 + 512 * bt x 10 := by
  have h := gat_u16 3 x 8 (Nat.le_refl _)
  have hs := sum16 _ h.1 h.2
  have e0 : bt (gatA (spr 3) x 8) 0 = 0 := by rw [gat8 _ hx]; simp [pbG, spr, spr3, sprOf, or1_0, or1_bt]
  have e1 : bt (gatA (spr 3) x 8) 1 = 0 := by rw [gat8 _ hx]; simp [pbG, spr, spr3, sprOf, or1_0, or1_bt]
  have e2 : bt (gatA (spr 3) x 8) 2 = bt x 6 := by rw [gat8 _ hx]; simp [pbG, spr, spr3, sprOf, or1_0, or1_bt]
  have e3 : bt (gatA (spr 3) x 8) 3 = bt x 5 := by rw [gat8 _ hx]; simp [pbG, spr, spr3, sprOf, or1_0, or1_bt]
  have e4 : bt (gatA (spr 3) x 8) 4 = bt x 11 := by rw [gat8 _ hx]; simp [pbG, spr, spr3, sprOf, or1_0, or1_bt]
  have e5 : bt (gatA (spr 3) x 8) 5 = bt x 12 := by rw [gat8 _ hx]; simp [pbG, spr, spr3, sprOf, or1_0, or1_bt]
  have e6 : bt (gatA (spr 3) x 8) 6 = bt x 7 := by rw [gat8 _ hx]; simp [pbG, spr, spr3, sprOf, or1_0, or1_bt]
  have e7 : bt (gatA (spr 3) x 8) 7 = bt x 8 := by rw [gat8 _ hx]; simp [pbG, spr, spr3, sprOf, or1_0, or1_bt]
  have e8 : bt (gatA (spr 3) x 8) 8 = bt x 9 := by rw [gat8 _ hx]; simp [pbG, spr, spr3, sprOf, or1_0, or1_bt]
  have e9 : bt (gatA (spr 3) x 8) 9 = bt x 10 := by rw [gat8 _ hx]; simp [pbG, spr, spr3, sprOf, or1_0, or1_bt]
  have e10 : bt (gatA (spr 3) x 8) 10 = 0 := by rw [gat8 _ hx]; simp [pbG, spr, spr3, sprOf, or1_0, or1_bt]
  have e11 : bt (gatA (spr 3) x 8) 11 = 0 := by rw [gat8 _ hx]; simp [pbG, spr, spr3, sprOf, or1_0, or1_bt]
  have e12 : bt (gatA (spr 3) x 8) 12 = 0 := by rw [gat8 _ hx]; simp [pbG, spr, spr3, sprOf, or1_0, or1_bt]
  have e13 : bt (gatA (spr 3) x 8) 13 = 0 := by rw [gat8 _ hx]; simp [pbG, spr, spr3, sprOf, or1_0, or1_bt]
  have e14 : bt (gatA (spr 3) x 8) 14 = 0 := by rw [gat8 _ hx]; simp [pbG, spr, spr3, sprOf, or1_0, or1_bt]
  have e15 : bt (gatA (spr 3) x 8) 15 = 0 := by rw [gat8 _ hx]; simp [pbG, spr, spr3, sprOf, or1_0, or1_bt]
  rw [e0, e1, e2, e3, e4, e5, e6, e7, e8, e9, e10, e11, e12, e13, e14, e15] at hs
  omega
theorem stake_3 (x : Int) (hx : U32 x) : stakeC 3 x = 4 * bt x 6 + 8 * bt x 5 + 16 * bt x 11 + 32 * bt x 12 + 64 * bt x 7 + 128 * bt x 8 + 256 * bt x 9 + 512 * bt x 10 := by
  unfold stakeC
  rw [show (spr 3).signed = false from rfl, if_neg (by decide)]
  exact gat_3 x hx
theorem gat_4 (x : Int) (hx : U32 x) : gatA (spr 4) x 8 = 4 * bt x 6 + 8 * bt x 10 + 16 * bt x 11 + 32 * bt x 12 + 64 * bt x 5 := by
  have h := gat_u16 4 x 8 (Nat.le_refl _)
  have hs := sum16 _ h.1 h.2
  have e0 : bt (gatA (spr 4) x 8) 0 = 0 := by rw [gat8 _ hx]; simp [pbG, spr, spr4, sprOf, or1_0, or1_bt]
  have e1 : bt (gatA (spr 4) x 8) 1 = 0 := by rw [gat8 _ hx]; simp [pbG, spr, spr4, sprOf, or1_0, or1_bt]
  have e2 : bt (gatA (spr 4) x 8) 2 = bt x 6 := by rw [gat8 _ hx]; simp [pbG, spr, spr4, sprOf, or1_0, or1_bt]
  have e3 : bt (gatA (spr 4) x 8) 3 = bt x 10 := by rw [gat8 _ hx]; simp [pbG, spr, spr4, sprOf, or1_0, or1_bt]
  have e4 : bt (gatA (spr 4) x 8) 4 = bt x 11 := by rw [gat8 _ hx]; simp [pbG, spr, spr4, sprOf, or1_0, or1_bt]
  have e5 : bt (gatA (spr 4) x 8) 5 = bt x 12 := by rw [gat8 _ hx]; simp [pbG, spr, spr4, sprOf, or1_0, or1_bt]
  have e6 : bt (gatA (spr 4) x 8) 6 = bt x 5 := by rw [gat8 _ hx]; simp [pbG, spr, spr4, sprOf, or1_0, or1_bt]
  have e7 : bt (gatA (spr 4) x 8) 7 = 0 := by rw [gat8 _ hx]; simp [pbG, spr, spr4, sprOf, or1_0, or1_bt]
  have e8 : bt (gatA (spr 4) x 8) 8 = 0 := by rw [gat8 _ hx]; simp [pbG, spr, spr4, sprOf, or1_0, or1_bt]
  have e9 : bt (gatA (spr 4) x 8) 9 = 0 := by rw [gat8 _ hx]; simp [pbG, spr, spr4, sprOf, or1_0, or1_bt]
  have e10 : bt (gatA (spr 4) x 8) 10 = 0 := by rw [gat8 _ hx]; simp [pbG, spr, spr4, sprOf, or1_0, or1_bt]
  have e11 : bt (gatA (spr 4) x 8) 11 = 0 := by rw [gat8 _ hx]; simp [pbG, spr, spr4, sprOf, or1_0, or1_bt]
  have e12 : bt (gatA (spr 4) x 8) 12 = 0 := by rw [gat8 _ hx]; simp [pbG, spr, spr4, sprOf, or1_0, or1_bt]
  have e13 : bt (gatA (spr 4) x 8) 13 = 0 := by rw [gat8 _ hx]; simp [pbG, spr, spr4, sprOf, or1_0, or1_bt]
  have e14 : bt (gatA (spr 4) x 8) 14 = 0 := by rw [gat8 _ hx]; simp [pbG, spr, spr4, sprOf, or1_0, or1_bt]
  have e15 : bt (gatA (spr 4) x 8) 15 = 0 := by rw [gat8 _ hx]; simp [pbG, spr, spr4, sprOf, or1_0, or1_bt]
  rw [e0, e1, e2, e3, e4, e5, e6, e7, e8, e9, e10, e11, e12, e13, e14, e15] at hs
  omega
theorem stake_4 (x : Int) (hx : U32 x) : stakeC 4 x = 4 * bt x 6 + 8 * bt x 10 + 16 * bt x 11 + 32 * bt x 12 + 64 * bt x 5 := by
  unfold stakeC
  rw [show (spr 4).signed = false from rfl, if_neg (by decide)]
  exact gat_4 x hx
theorem gat_5 (x : Int) (hx : U32 x) : gatA (spr 5) x 8 = 4 * bt x 4 + 8 * bt x 5 + 16 * bt x 6 + 32 * bt x 12 + 64 * bt x 2 + 128 * bt x 3 := by
  have h := gat_u16 5 x 8 (Nat.le_refl _)
  have hs := sum16 _ h.1 h.2
  have e0 : bt (gatA (spr 5) x 8) 0 = 0 := by rw [gat8 _ hx]; simp [pbG, spr, spr5, sprOf, or1_0, or1_bt]
  have e1 : bt (gatA (spr 5) x 8) 1 = 0 := by rw [gat8 _ hx]; simp [pbG, spr, spr5, sprOf, or1_0, or1_bt]
  have e2 : bt (gatA (spr 5) x 8) 2 = bt x 4 := by rw [gat8 _ hx]; simp [pbG, spr, spr5, sprOf, or1_0, or1_bt]
  have e3 : bt (gatA (spr 5) x 8) 3 = bt x 5 := by rw [gat8 _ hx]; simp [pbG, spr, spr5, sprOf, or1_0, or1_bt]
  have e4 : bt (gatA (spr 5) x 8) 4 = bt x 6 := by rw [gat8 _ hx]; simp [pbG, spr, spr5, sprOf, or1_0, or1_bt]
  have e5 : bt (gatA (spr 5) x 8) 5 = bt x 12 := by rw [gat8 _ hx]; simp [pbG, spr, spr5, sprOf, or1_0, or1_bt]
  have e6 : bt (gatA (spr 5) x 8) 6 = bt x 2 := by rw [gat8 _ hx]; simp [pbG, spr, spr5, sprOf, or1_0, or1_bt]
  have e7 : bt (gatA (spr 5) x 8) 7 = bt x 3 := by rw [gat8 _ hx]; simp [pbG, spr, spr5, sprOf, or1_0, or1_bt]
  have e8 : bt (gatA (spr 5) x 8) 8 = 0 := by rw [gat8 _ hx]; simp [pbG, spr, spr5, sprOf, or1_0, or1_bt]
  have e9 : bt (gatA (spr 5) x 8) 9 = 0 := by rw [gat8 _ hx]; simp [pbG, spr, spr5, sprOf, or1_0, or1_bt]
  have e10 : bt (gatA (spr 5) x 8) 10 = 0 := by rw [gat8 _ hx]; simp [pbG, spr, spr5, sprOf, or1_0, or1_bt]
  have e11 : bt (gatA (spr 5) x 8) 11 = 0 := by rw [gat8 _ hx]; simp [pbG, spr, spr5, sprOf, or1_0, or1_bt]
  have e12 : bt (gatA (spr 5) x 8) 12 = 0 := by rw [gat8 _ hx]; simp [pbG, spr, spr5, sprOf, or1_0, or1_bt]
  have e13 : bt (gatA (spr 5) x 8) 13 = 0 := by rw [gat8 _ hx]; simp [pbG, spr, spr5, sprOf, or1_0, or1_bt]
  have e14 : bt (gatA (spr 5) x 8) 14 = 0 := by rw [gat8 _ hx]; simp [pbG, spr, spr5, sprOf, or1_0, or1_bt]
  have e15 : bt (gatA (spr 5) x 8) 15 = 0 := by rw [gat8 _ hx]; simp [pbG, spr, spr5, sprOf, or1_0, or1_bt]
  rw [e0, e1, e2, e3, e4, e5, e6, e7, e8, e9, e10, e11, e12, e13, e14, e15] at hs
  omega
theorem stake_5 (x : Int) (hx : U32 x) : stakeC 5 x = 4 * bt x 4 + 8 * bt x 5 + 16 * bt x 6 + 32 * bt x 12 + 64 * bt x 2 + 128 * bt x 3 := by
  unfold stakeC
  rw [show (spr 5).signed = false from rfl, if_neg (by decide)]
  exact gat_5 x hx
theorem gat_6 (x : Int) (hx : U32 x) : gatA (spr 6) x 8 = 4 * bt x 9 + 8 * bt x 10 + 16 * bt x 11 + 32 * bt x 12 + 64 * bt x 7 + 128 * bt x 8 := by
  have h := gat_u16 6 x 8 (Nat.le_refl _)
  have hs := sum16 _ h.1 h.2
  have e0 : bt (gatA (spr 6) x 8) 0 = 0 := by rw [gat8 _ hx]; simp [pbG, spr, spr6, sprOf, or1_0, or1_bt]
  have e1 : bt (gatA (spr 6) x 8) 1 = 0 := by rw [gat8 _ hx]; simp [pbG, spr, spr6, sprOf, or1_0, or1_bt]
  have e2 : bt (gatA (spr 6) x 8) 2 = bt x 9 := by rw [gat8 _ hx]; simp [pbG, spr, spr6, sprOf, or1_0, or1_bt]
  have e3 : bt (gatA (spr 6) x 8) 3 = bt x 10 := by rw [gat8 _ hx]; simp [pbG, spr, spr6, sprOf, or1_0, or1_bt]
  have e4 : bt (gatA (spr 6) x 8) 4 = bt x 11 := by rw [gat8 _ hx]; simp [pbG, spr, spr6, sprOf, or1_0, or1_bt]
  have e5 : bt (gatA (spr 6) x 8) 5 = bt x 12 := by rw [gat8 _ hx]; simp [pbG, spr, spr6, sprOf, or1_0, or1_bt]
  have e6 : bt (gatA (spr 6) x 8) 6 = bt x 7 := by rw [gat8 _ hx]; simp [pbG, spr, spr6, sprOf, or1_0, or1_bt]
  have e7 : bt (gatA (spr 6) x 8) 7 = bt x 8 := by rw [gat8 _ hx]; simp [pbG, spr, spr6, sprOf, or1_0, or1_bt]
  have e8 : bt (gatA (spr 6) x 8) 8 = 0 := by rw [gat8 _ hx]; simp [pbG, spr, spr6, sprOf, or1_0, or1_bt]
  have e9 : bt (gatA (spr 6) x 8) 9 = 0 := by rw [gat8 _ hx]; simp [pbG, spr, spr6, sprOf, or1_0, or1_bt]
  have e10 : bt (gatA (spr 6) x 8) 10 = 0 := by rw [gat8 _ hx]; simp [pbG, spr, spr6, sprOf, or1_0, or1_bt]
  have e11 : bt (gatA (spr 6) x 8) 11 = 0 := by rw [gat8 _ hx]; simp [pbG, spr, spr6, sprOf, or1_0, or1_bt]
  have e12 : bt (gatA (spr 6) x 8) 12 = 0 := by rw [gat8 _ hx]; simp [pbG, spr, spr6, sprOf, or1_0, or1_bt]
  have e13 : bt (gatA (spr 6) x 8) 13 = 0 := by rw [gat8 _ hx]; simp [pbG, spr, spr6, sprOf, or1_0, or1_bt]
  have e14 : bt (gatA (spr 6) x 8) 14 = 0 := by rw [gat8 _ hx]; simp [pbG, spr, spr6, sprOf, or1_0, or1_bt]
  have e15 : bt (gatA (spr 6) x 8) 15 = 0 := by rw [gat8 _ hx]; simp [pbG, spr, spr6, sprOf, or1_0, or1_bt]
  rw [e0, e1, e2, e3, e4, e5, e6, e7, e8, e9, e10, e11, e12, e13, e14, e15] at hs
  omega
theorem stake_6 (x : Int) (hx : U32 x) : stakeC 6 x = 4 * bt x 9 + 8 * bt x 10 + 16 * bt x 11 + 32 * bt x 12 + 64 * bt x 7 + 128 * bt x 8 := by
  unfold stakeC
  rw [show (spr 6).signed = false from rfl, if_neg (by decide)]
  exact gat_6 x hx
theorem gat_7 (x : Int) (hx : U32 x) : gatA (spr 7) x 8 = 16 * bt x 6 + 32 * bt x 2 + 64 * bt x 5 + 128 * bt x 3 + 256 * bt x 4 + 512 * bt x 12 := by
  have h := gat_u16 7 x 8 (Nat.le_refl _)
  have hs := sum16 _ h.1 h.2
  have e0 : bt (gatA (spr 7) x 8) 0 = 0 := by rw [gat8 _ hx]; simp [pbG, spr, spr7, sprOf, or1_0, or1_bt]
  have e1 : bt (gatA (spr 7) x 8) 1 = 0 := by rw [gat8 _ hx]; simp [pbG, spr, spr7, sprOf, or1_0, or1_bt]
  have e2 : bt (gatA (spr 7) x 8) 2 = 0 := by rw [gat8 _ hx]; simp [pbG, spr, spr7, sprOf, or1_0, or1_bt]
  have e3 : bt (gatA (spr 7) x 8) 3 = 0 := by rw [gat8 _ hx]; simp [pbG, spr, spr7, sprOf, or1_0, or1_bt]
  have e4 : bt (gatA (spr 7) x 8) 4 = bt x 6 := by rw [gat8 _ hx]; simp [pbG, spr, spr7, sprOf, or1_0, or1_bt]
  have e5 : bt (gatA (spr 7) x 8) 5 = bt x 2 := by rw [gat8 _ hx]; simp [pbG, spr, spr7, sprOf, or1_0, or1_bt]
  have e6 : bt (gatA (spr 7) x 8) 6 = bt x 5 := by rw [gat8 _ hx]; simp [pbG, spr, spr7, sprOf, or1_0, or1_bt]
  have e7 : bt (gatA (spr 7) x 8) 7 = bt x 3 := by rw [gat8 _ hx]; simp [pbG, spr, spr7, sprOf, or1_0, or1_bt]
  have e8 : bt (gatA (spr 7) x 8) 8 = bt x 4 := by rw [gat8 _ hx]; simp [pbG, spr, spr7, sprOf, or1_0, or1_bt]
  have e9 : bt (gatA (spr 7) x 8) 9 = bt x 12 := by rw [gat8 _ hx]; simp [pbG, spr, spr7, sprOf, or1_0, or1_bt]
  have e10 : bt (gatA (spr 7) x 8) 10 = 0 := by rw [gat8 _ hx]; simp [pbG, spr, spr7, sprOf, or1_0, or1_bt]
  have e11 : bt (gatA (spr 7) x 8) 11 = 0 := by rw [gat8 _ hx]; simp [pbG, spr, spr7, sprOf, or1_0, or1_bt]
  have e12 : bt (gatA (spr 7) x 8) 12 = 0 := by rw [gat8 _ hx]; simp [pbG, spr, spr7, sprOf, or1_0, or1_bt]
  have e13 : bt (gatA (spr 7) x 8) 13 = 0 := by rw [gat8 _ hx]; simp [pbG, spr, spr7, sprOf, or1_0, or1_bt]
  have e14 : bt (gatA (spr 7) x 8) 14 = 0 := by rw [gat8 _ hx]; simp [pbG, spr, spr7, sprOf, or1_0, or1_bt]
  have e15 : bt (gatA (spr 7) x 8) 15 = 0 := by rw [gat8 _ hx]; simp [pbG, spr, spr7, sprOf, or1_0, or1_bt]
  rw [e0, e1, e2, e3, e4, e5, e6, e7, e8, e9, e10, e11, e12, e13, e14, e15] at hs
  omega
theorem stake_7 (x : Int) (hx : U32 x) : stakeC 7 x = 16 * bt x 6 + 32 * bt x 2 + 64 * bt x 5 + 128 * bt x 3 + 256 * bt x 4 + 512 * bt x 12 - 1024 * bt x 12 := by
  have hb := bt_bd x
  unfold stakeC
  rw [show (spr 7).signed = true from rfl, if_pos rfl, gat_7 x hx, show pw (32 - wid 7) = 4194304 by decide]
  generalize bt x = b at *
  have B2 := hb 2
  have B3 := hb 3
  have B4 := hb 4
  have B5 := hb 5
  have B6 := hb 6
  have B12 := hb 12
  clear hb
  split <;> omega
theorem gat_8 (x : Int) (hx : U32 x) : gatA (spr 8) x 8 = 2 * bt x 3 + 4 * bt x 4 + 8 * bt x 10 + 16 * bt x 11 + 32 * bt x 2 + 64 * bt x 5 + 128 * bt x 6 + 256 * bt x 12 := by
  have h := gat_u16 8 x 8 (Nat.le_refl _)
  have hs := sum16 _ h.1 h.2
  have e0 : bt (gatA (spr 8) x 8) 0 = 0 := by rw [gat8 _ hx]; simp [pbG, spr, spr8, sprOf, or1_0, or1_bt]
  have e1 : bt (gatA (spr 8) x 8) 1 = bt x 3 := by rw [gat8 _ hx]; simp [pbG, spr, spr8, sprOf, or1_0, or1_bt]
  have e2 : bt (gatA (spr 8) x 8) 2 = bt x 4 := by rw [gat8 _ hx]; simp [pbG, spr, spr8, sprOf, or1_0, or1_bt]
  have e3 : bt (gatA (spr 8) x 8) 3 = bt x 10 := by rw [gat8 _ hx]; simp [pbG, spr, spr8, sprOf, or1_0, or1_bt]
  have e4 : bt (gatA (spr 8) x 8) 4 = bt x 11 := by rw [gat8 _ hx]; simp [pbG, spr, spr8, sprOf, or1_0, or1_bt]
  have e5 : bt (gatA (spr 8) x 8) 5 = bt x 2 := by rw [gat8 _ hx]; simp [pbG, spr, spr8, sprOf, or1_0, or1_bt]
  have e6 : bt (gatA (spr 8) x 8) 6 = bt x 5 := by rw [gat8 _ hx]; simp [pbG, spr, spr8, sprOf, or1_0, or1_bt]
  have e7 : bt (gatA (spr 8) x 8) 7 = bt x 6 := by rw [gat8 _ hx]; simp [pbG, spr, spr8, sprOf, or1_0, or1_bt]
  have e8 : bt (gatA (spr 8) x 8) 8 = bt x 12 := by rw [gat8 _ hx]; simp [pbG, spr, spr8, sprOf, or1_0, or1_bt]
  have e9 : bt (gatA (spr 8) x 8) 9 = 0 := by rw [gat8 _ hx]; simp [pbG, spr, spr8, sprOf, or1_0, or1_bt]
  have e10 : bt (gatA (spr 8) x 8) 10 = 0 := by rw [gat8 _ hx]; simp [pbG, spr, spr8, sprOf, or1_0, or1_bt]
  have e11 : bt (gatA (spr 8) x 8) 11 = 0 := by rw [gat8 _ hx]; simp [pbG, spr, spr8, sprOf, or1_0, or1_bt]
  have e12 : bt (gatA (spr 8) x 8) 12 = 0 := by rw [gat8 _ hx]; simp [pbG, spr, spr8, sprOf, or1_0, or1_bt]
  have e13 : bt (gatA (spr 8) x 8) 13 = 0 := by rw [gat8 _ hx]; simp [pbG, spr, spr8, sprOf, or1_0, or1_bt]
  have e14 : bt (gatA (spr 8) x 8) 14 = 0 := by rw [gat8 _ hx]; simp [pbG, spr, spr8, sprOf, or1_0, or1_bt]
  have e15 : bt (gatA (spr 8) x 8) 15 = 0 := by rw [gat8 _ hx]; simp [pbG, spr, spr8, sprOf, or1_0, or1_bt]
  rw [e0, e1, e2, e3, e4, e5, e6, e7, e8, e9, e10, e11, e12, e13, e14, e15] at hs
  omega
theorem stake_8 (x : Int) (hx : U32 x) : stakeC 8 x = 2 * bt x 3 + 4 * bt x 4 + 8 * bt x 10 + 16 * bt x 11 + 32 * bt x 2 + 64 * bt x 5 + 128 * bt x 6 + 256 * bt x 12 - 512 * bt x 12 := by
  have hb := bt_bd x
  unfold stakeC
  rw [show (spr 8).signed = true from rfl, if_pos rfl, gat_8 x hx, show pw (32 - wid 8) = 8388608 by decide]
  generalize bt x = b at *
  have B2 := hb 2
  have B3 := hb 3
  have B4 := hb 4
  have B5 := hb 5
  have B6 := hb 6
  have B10 := hb 10
  have B11 := hb 11
  have B12 := hb 12
  clear hb
  split <;> omega
theorem gat_9 (x : Int) (hx : U32 x) : gatA (spr 9) x 8 = 2 * bt x 3 + 4 * bt x 4 + 8 * bt x 5 + 16 * bt x 11 + 32 * bt x 2 + 64 * bt x 7 + 128 * bt x 6 + 256 * bt x 9 + 512 * bt x 10 + 1024 * bt x 8 + 2048 * bt x 12 := by
  have h := gat_u16 9 x 8 (Nat.le_refl _)
  have hs := sum16 _ h.1 h.2
  have e0 : bt (gatA (spr 9) x 8) 0 = 0 := by rw [gat8 _ hx]; simp [pbG, spr, spr9, sprOf, or1_0, or1_bt]
  have e1 : bt (gatA (spr 9) x 8) 1 = bt x 3 := by rw [gat8 _ hx]; simp [pbG, spr, spr9, sprOf, or1_0, or1_bt]
  have e2 : bt (gatA (spr 9) x 8) 2 = bt x 4 := by rw [gat8 _ hx]; simp [pbG, spr, spr9, sprOf, or1_0, or1_bt]
  have e3 : bt (gatA (spr 9) x 8) 3 = bt x 5 := by rw [gat8 _ hx]; simp [pbG, spr, spr9, sprOf, or1_0, or1_bt]
  have e4 : bt (gatA (spr 9) x 8) 4 = bt x 11 := by rw [gat8 _ hx]; simp [pbG, spr, spr9, sprOf, or1_0, or1_bt]
  have e5 : bt (gatA (spr 9) x 8) 5 = bt x 2 := by rw [gat8 _ hx]; simp [pbG, spr, spr9, sprOf, or1_0, or1_bt]
  have e6 : bt (gatA (spr 9) x 8) 6 = bt x 7 := by rw [gat8 _ hx]; simp [pbG, spr, spr9, sprOf, or1_0, or1_bt]
  have e7 : bt (gatA (spr 9) x 8) 7 = bt x 6 := by rw [gat8 _ hx]; simp [pbG, spr, spr9, sprOf, or1_0, or1_bt]
  have e8 : bt (gatA (spr 9) x 8) 8 = bt x 9 := by rw [gat8 _ hx]; simp [pbG, spr, spr9, sprOf, or1_0, or1_bt]
  have e9 : bt (gatA (spr 9) x 8) 9 = bt x 10 := by rw [gat8 _ hx]; simp [pbG, spr, spr9, sprOf, or1_0, or1_bt]
  have e10 : bt (gatA (spr 9) x 8) 10 = bt x 8 := by rw [gat8 _ hx]; simp [pbG, spr, spr9, sprOf, or1_0, or1_bt]
  have e11 : bt (gatA (spr 9) x 8) 11 = bt x 12 := by rw [gat8 _ hx]; simp [pbG, spr, spr9, sprOf, or1_0, or1_bt]
  have e12 : bt (gatA (spr 9) x 8) 12 = 0 := by rw [gat8 _ hx]; simp [pbG, spr, spr9, sprOf, or1_0, or1_bt]
  have e13 : bt (gatA (spr 9) x 8) 13 = 0 := by rw [gat8 _ hx]; simp [pbG, spr, spr9, sprOf, or1_0, or1_bt]
  have e14 : bt (gatA (spr 9) x 8) 14 = 0 := by rw [gat8 _ hx]; simp [pbG, spr, spr9, sprOf, or1_0, or1_bt]
  have e15 : bt (gatA (spr 9) x 8) 15 = 0 := by rw [gat8 _ hx]; simp [pbG, spr, spr9, sprOf, or1_0, or1_bt]
  rw [e0, e1, e2, e3, e4, e5, e6, e7, e8, e9, e10, e11, e12, e13, e14, e15] at hs
  omega
theorem stake_9 (x : Int) (hx : U32 x) : stakeC 9 x = 2 * bt x 3 + 4 * bt x 4 + 8 * bt x 5 + 16 * bt x 11 + 32 * bt x 2 + 64 * bt x 7 + 128 * bt x 6 + 256 * bt x 9 + 512 * bt x 10 + 1024 * bt x 8 + 2048 * bt x 12 - 4096 * bt x 12 := by
  have hb := bt_bd x
  unfold stakeC
  rw [show (spr 9).signed = true from rfl, if_pos rfl, gat_9 x hx, show pw (32 - wid 9) = 1048576 by decide]
  generalize bt x = b at *
  have B2 := hb 2
  have B3 := hb 3
  have B4 := hb 4
  have B5 := hb 5
  have B6 := hb 6
  have B7 := hb 7
  have B8 := hb 8
  have B9 := hb 9
  have B10 := hb 10
  have B11 := hb 11
  have B12 := hb 12
  clear hb
  split <;> omega
theorem bput_0 (n : Int) (j : Nat) (hj : j < 16) : bt (putP 0 n) j = 0 := by
  have hj' : j = 0 ∨ j = 1 ∨ j = 2 ∨ j = 3 ∨ j = 4 ∨ j = 5 ∨ j = 6 ∨ j = 7 ∨ j = 8 ∨ j = 9 ∨ j = 10 ∨ j = 11 ∨ j = 12 ∨ j = 13 ∨ j = 14 ∨ j = 15 := by omega
  rw [bt_flr _ j (by omega)]
  show ((n - 0) % 65536 % pw 0 * pw 0 % 65536) / pw j % 2 = _
  rcases hj' with rfl | rfl | rfl | rfl | rfl | rfl | rfl | rfl | rfl | rfl | rfl | rfl | rfl | rfl | rfl | rfl <;> simp [pw, bt_flr] <;> omega
theorem bput_1 (n : Int) (j : Nat) (hj : j < 16) : bt (putP 1 n) j = 0 := by
  have hj' : j = 0 ∨ j = 1 ∨ j = 2 ∨ j = 3 ∨ j = 4 ∨ j = 5 ∨ j = 6 ∨ j = 7 ∨ j = 8 ∨ j = 9 ∨ j = 10 ∨ j = 11 ∨ j = 12 ∨ j = 13 ∨ j = 14 ∨ j = 15 := by omega
  rw [bt_flr _ j (by omega)]
  show ((n - 1) % 65536 % pw 0 * pw 0 % 65536) / pw j % 2 = _
  rcases hj' with rfl | rfl | rfl | rfl | rfl | rfl | rfl | rfl | rfl | rfl | rfl | rfl | rfl | rfl | rfl | rfl <;> simp [pw, bt_flr] <;> omega
theorem bput_2 (n : Int) (j : Nat) (hj : j < 16) : bt (putP 2 n) j = 0 := by
  have hj' : j = 0 ∨ j = 1 ∨ j = 2 ∨ j = 3 ∨ j = 4 ∨ j = 5 ∨ j = 6 ∨ j = 7 ∨ j = 8 ∨ j = 9 ∨ j = 10 ∨ j = 11 ∨ j = 12 ∨ j = 13 ∨ j = 14 ∨ j = 15 := by omega
  rw [bt_flr _ j (by omega)]
  show ((n - 2) % 65536 % pw 0 * pw 0 % 65536) / pw j % 2 = _
  rcases hj' with rfl | rfl | rfl | rfl | rfl | rfl | rfl | rfl | rfl | rfl | rfl | rfl | rfl | rfl | rfl | rfl <;> simp [pw, bt_flr] <;> omega
theorem bput_3 (n : Int) (j : Nat) (hj : j < 16) : bt (putP 3 n) j = if 7 ≤ j ∧ j < 12 then bt n (j - 7) else 0 := by
  have hj' : j = 0 ∨ j = 1 ∨ j = 2 ∨ j = 3 ∨ j = 4 ∨ j = 5 ∨ j = 6 ∨ j = 7 ∨ j = 8 ∨ j = 9 ∨ j = 10 ∨ j = 11 ∨ j = 12 ∨ j = 13 ∨ j = 14 ∨ j = 15 := by omega
  rw [bt_flr _ j (by omega)]
  show ((n - 0) % 65536 % pw 5 * pw 7 % 65536) / pw j % 2 = _
  rcases hj' with rfl | rfl | rfl | rfl | rfl | rfl | rfl | rfl | rfl | rfl | rfl | rfl | rfl | rfl | rfl | rfl <;> simp [pw, bt_flr] <;> omega
theorem bput_4 (n : Int) (j : Nat) (hj : j < 16) : bt (putP 4 n) j = if 2 ≤ j ∧ j < 7 then bt n (j - 2) else 0 := by
  have hj' : j = 0 ∨ j = 1 ∨ j = 2 ∨ j = 3 ∨ j = 4 ∨ j = 5 ∨ j = 6 ∨ j = 7 ∨ j = 8 ∨ j = 9 ∨ j = 10 ∨ j = 11 ∨ j = 12 ∨ j = 13 ∨ j = 14 ∨ j = 15 := by omega
  rw [bt_flr _ j (by omega)]
  show ((n - 0) % 65536 % pw 5 * pw 2 % 65536) / pw j % 2 = _
  rcases hj' with rfl | rfl | rfl | rfl | rfl | rfl | rfl | rfl | rfl | rfl | rfl | rfl | rfl | rfl | rfl | rfl <;> simp [pw, bt_flr] <;> omega
theorem bput_5 (n : Int) (j : Nat) (hj : j < 16) : bt (putP 5 n) j = if 7 ≤ j ∧ j < 10 then bt n (j - 7) else 0 := by
  have hj' : j = 0 ∨ j = 1 ∨ j = 2 ∨ j = 3 ∨ j = 4 ∨ j = 5 ∨ j = 6 ∨ j = 7 ∨ j = 8 ∨ j = 9 ∨ j = 10 ∨ j = 11 ∨ j = 12 ∨ j = 13 ∨ j = 14 ∨ j = 15 := by omega
  rw [bt_flr _ j (by omega)]
  show ((n - 8) % 65536 % pw 3 * pw 7 % 65536) / pw j % 2 = _
  rcases hj' with rfl | rfl | rfl | rfl | rfl | rfl | rfl | rfl | rfl | rfl | rfl | rfl | rfl | rfl | rfl | rfl <;> simp [pw, bt_flr] <;> omega
theorem bput_6 (n : Int) (j : Nat) (hj : j < 16) : bt (putP 6 n) j = if 2 ≤ j ∧ j < 5 then bt n (j - 2) else 0 := by
  have hj' : j = 0 ∨ j = 1 ∨ j = 2 ∨ j = 3 ∨ j = 4 ∨ j = 5 ∨ j = 6 ∨ j = 7 ∨ j = 8 ∨ j = 9 ∨ j = 10 ∨ j = 11 ∨ j = 12 ∨ j = 13 ∨ j = 14 ∨ j = 15 := by omega
  rw [bt_flr _ j (by omega)]
  show ((n - 8) % 65536 % pw 3 * pw 2 % 65536) / pw j % 2 = _
  rcases hj' with rfl | rfl | rfl | rfl | rfl | rfl | rfl | rfl | rfl | rfl | rfl | rfl | rfl | rfl | rfl | rfl <;> simp [pw, bt_flr] <;> omega
end Hm
