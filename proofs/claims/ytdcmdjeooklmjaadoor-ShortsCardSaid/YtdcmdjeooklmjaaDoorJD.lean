/-
  Y1 Y2 in one text.
-/
import Derived.Test.YtdcmdjeooklmjaaDoorGB
import Derived.Test.YtdcmdjeooklmjaaDoorGC
import Derived.Test.YtdcmdjeooklmjaaDoorGD
set_option linter.unusedVariables false
set_option linter.unusedSimpArgs false
/-
  Mathematics of short instructions on package code's side: bits of masks, of pieces. Nothing of the dump is imported.
-/
namespace Hm
theorem bt_b {n : Int} (h : U32 n) (j : Nat) : bt n j = b01 (n.toNat.testBit j) := by
  rw [bt_nat, show n % 4294967296 = n by unfold U32 at h; omega]
theorem bt_or {a b : Int} (ha : U32 a) (hb : U32 b) (j : Nat) : bt (orI a b) j = if bt a j = 1 then 1 else bt b j := by
  rw [bt_b (orI_u32 ha hb), bt_b ha, bt_b hb, orI_bit]
  cases a.toNat.testBit j <;> cases b.toNat.testBit j <;> rfl
theorem andI_u32 {a b : Int} (ha : U32 a) : U32 (andI a b) := by
  have h1 : a.toNat < 2 ^ 32 := by have := ha.2; have := ha.1; omega
  have h2 : a.toNat &&& b.toNat ≤ a.toNat := Nat.and_le_left
  unfold andI U32
  omega
theorem bt_and {a m : Int} (ha : U32 a) (hm : U32 m) (j : Nat) : bt (andI a m) j = if bt m j = 1 then bt a j else 0 := by
  rw [bt_b (andI_u32 ha), bt_b ha, bt_b hm]
  unfold andI
  rw [Int.toNat_natCast, Nat.testBit_and]
  cases a.toNat.testBit j <;> cases m.toNat.testBit j <;> rfl
theorem bt_put {f c a x : Int} (hx : U32 x) (j : Nat) : bt (putC f c a x) j = if a.toNat ≤ j ∧ j - a.toNat < c.toNat ∧ j < 32 then bt x (f.toNat + (j - a.toNat)) else 0 := by
  rw [bt_b (putC_u32 _ _ _ _), put_bit f c a x j hx.1 (fun _ => false) (fun _ => false) (fun _ => false) (fun i => x.toNat.testBit i) (fun _ => rfl)]
  unfold symP
  split
  · rw [bt_b hx, List.any_cons, List.any_nil, Bool.or_false]; rfl
  · rfl
theorem gat_step (S : Spr) {x : Int} (hx : U32 x) (k j : Nat) : bt (gatA S x (k + 1)) j = if bt (gatA S x k) j = 1 then 1 else if (S.f k).toNat ≤ j ∧ j - (S.f k).toNat < (S.c k).toNat ∧ j < 32 then bt x ((S.a k).toNat + (j - (S.f k).toNat)) else 0 := by
  rw [← bt_put hx]; exact bt_or (gatA_u32 S x k) (putC_u32 _ _ _ _) j
theorem sput_step (S : Spr) {x : Int} (hx : U32 x) (k j : Nat) : bt (sputA S x (k + 1)) j = if bt (sputA S x k) j = 1 then 1 else if (S.a k).toNat ≤ j ∧ j - (S.a k).toNat < (S.c k).toNat ∧ j < 32 then bt x ((S.f k).toNat + (j - (S.a k).toNat)) else 0 := by
  rw [← bt_put hx]; exact bt_or (sputA_u32 S x k) (putC_u32 _ _ _ _) j
theorem bt_zero (j : Nat) : bt 0 j = 0 := by unfold bt; simp
theorem putC_u16 {f c a x : Int} (h : c.toNat + a.toNat ≤ 16) : U16 (putC f c a x) := by
  have hc := pw_pos c.toNat
  have ha := pw_pos a.toNat
  have h1 := Int.emod_nonneg (x / pw f.toNat) (show pw c.toNat ≠ 0 by omega)
  have h2 := Int.emod_lt_of_pos (x / pw f.toNat) (show 0 < pw c.toNat by omega)
  have h3 : pw c.toNat * pw a.toNat ≤ 65536 := by
    rw [show pw c.toNat * pw a.toNat = pw (c.toNat + a.toNat) by unfold pw; rw [Int.pow_add]]
    exact pw_mono _ 16 h
  unfold putC U16
  generalize x / pw f.toNat % pw c.toNat = y at *
  have h4 := Int.mul_le_mul_of_nonneg_right (show y ≤ pw c.toNat - 1 by omega) (show 0 ≤ pw a.toNat by omega)
  rw [Int.sub_mul, Int.one_mul] at h4
  have h5 := Int.mul_nonneg h1 (show 0 ≤ pw a.toNat by omega)
  omega
theorem gat_u16 (s x : Int) : ∀ k, k ≤ 8 → U16 (gatA (spr s) x k)
  | 0, _ => show U16 0 from ⟨by decide, by decide⟩
  | k + 1, h => orI_u16 (gat_u16 s x k (by omega)) (putC_u16 (by
      have key : ∀ S : Spr, (∀ k : Fin 8, (S.c k).toNat + (S.f k).toNat ≤ 16) → ∀ k, k < 8 → (S.c k).toNat + (S.f k).toNat ≤ 16 := fun S h k hk => h ⟨k, hk⟩
      refine key (spr s) ?_ k (by omega)
      unfold spr
      repeat' split
      all_goals decide))
theorem sputA_u16 (s x : Int) : ∀ k, k ≤ 8 → U16 (sputA (spr s) x k)
  | 0, _ => show U16 0 from ⟨by decide, by decide⟩
  | k + 1, h => orI_u16 (sputA_u16 s x k (by omega)) (putC_u16 (by
      have key : ∀ S : Spr, (∀ k : Fin 8, (S.c k).toNat + (S.a k).toNat ≤ 16) → ∀ k, k < 8 → (S.c k).toNat + (S.a k).toNat ≤ 16 := fun S h k hk => h ⟨k, hk⟩
      refine key (spr s) ?_ k (by omega)
      unfold spr
      repeat' split
      all_goals decide))
theorem u16_32 {a : Int} (h : U16 a) : U32 a := ⟨h.1, by have := h.2; omega⟩
/-- Each letter of a text of 16 against a mask and its bits. -/
def okS16 (m v : Nat) : List UInt8 → Bool
  | [] => true
  | c :: l => (m.testBit l.length == ((c.toNat : Int) == 48 || (c.toNat : Int) == 49)) && (v.testBit l.length == ((c.toNat : Int) == 49)) && okS16 m v l
theorem okS16_all {k : Nat} (hk : k < 26) : okS16 (rowC k).mask.toNat (rowC k).bits.toNat (shortR k).bits = true := by
  have : ∀ j : Fin 26, okS16 (rowC j).mask.toNat (rowC j).bits.toNat (shortR j).bits = true := by decide +kernel
  exact this ⟨k, hk⟩
theorem op_same {k : Nat} (hk : k < 26) : (rowC k).op = (shortR k).op := by
  have : ∀ j : Fin 26, (rowC j).op = (shortR j).op := by decide +kernel
  exact this ⟨k, hk⟩
theorem not_all {k : Nat} (hk : k < 26) : (rowC k).not' = 0 ∨ (rowC k).not' = 1 ∨ (rowC k).not' = 2 ∨ (rowC k).not' = 5 ∨ (rowC k).not' = 8 ∨ (rowC k).not' = 16 := by
  have : ∀ j : Fin 26, (rowC j).not' = 0 ∨ (rowC j).not' = 1 ∨ (rowC j).not' = 2 ∨ (rowC j).not' = 5 ∨ (rowC j).not' = 8 ∨ (rowC j).not' = 16 := by decide +kernel
  exact this ⟨k, hk⟩
theorem matchS_iff {x : Int} {m v : Nat} : ∀ {l : List UInt8}, okS16 m v l = true → (matchL x l = true ↔ ∀ i, i < l.length → ((x % 4294967296).toNat &&& m).testBit i = v.testBit i)
  | [], _ => by simp [matchL]
  | c :: l, h => by
    unfold okS16 at h
    simp only [Bool.and_eq_true, beq_iff_eq] at h
    obtain ⟨⟨h1, h2⟩, h3⟩ := h
    have ih := matchS_iff (x := x) h3
    have hm : (!miss c (bt x l.length)) = true ↔ ((x % 4294967296).toNat &&& m).testBit l.length = v.testBit l.length := by
      rw [bt_nat, miss_bit, Nat.testBit_and, h1, h2]
      generalize (x % 4294967296).toNat.testBit l.length = b
      by_cases h0 : (c.toNat : Int) = 48
      · rw [h0]; cases b <;> decide
      · by_cases h1 : (c.toNat : Int) = 49
        · rw [h1]; cases b <;> decide
        · have e0 : ((c.toNat : Int) == 48) = false := by simpa using h0
          have e1 : ((c.toNat : Int) == 49) = false := by simpa using h1
          rw [e0, e1]; cases b <;> decide
    unfold matchL
    rw [Bool.and_eq_true, hm, ih, List.length_cons]
    constructor
    · intro ⟨ha, hb⟩ i hi
      by_cases e : i = l.length
      · subst e; exact ha
      · exact hb i (by omega)
    · intro ha
      exact ⟨ha _ (by omega), fun i hi => ha i (by omega)⟩
theorem matchS_eq {x : Int} (x0 : 0 ≤ x) (x1 : x < 65536) {k : Nat} (hk : k < 26) : matchS (rowC k) x = matchL x (shortR k).bits := by
  have hi := matchS_iff (x := x) (okS16_all hk)
  rw [short_len hk, show x % 4294967296 = x by omega] at hi
  have hr := row_ok hk
  have h1 : x.toNat &&& (rowC k).mask.toNat < 2 ^ 16 := Nat.lt_of_le_of_lt Nat.and_le_left (by omega)
  have h2 : (rowC k).bits.toNat < 2 ^ 16 := by have := hr.bits; omega
  rw [Bool.eq_iff_iff, hi]
  unfold matchS andI
  rw [beq_iff_eq]
  constructor
  · intro h i _
    rw [← h, Int.toNat_natCast]
  · intro h
    have e : x.toNat &&& (rowC k).mask.toNat = (rowC k).bits.toNat := by
      apply Nat.eq_of_testBit_eq
      intro i
      by_cases hi : i < 16
      · exact h i hi
      · rw [Nat.testBit_lt_two_pow (Nat.lt_of_lt_of_le h1 (Nat.pow_le_pow_right (by decide) (by omega))), Nat.testBit_lt_two_pow (Nat.lt_of_lt_of_le h2 (Nat.pow_le_pow_right (by decide) (by omega)))]
    rw [e]
    have := hr.bits
    omega
end Hm

/-
  Mathematics of short instructions on package code's side: each place and each spread by the parcel's bits (made by gen_Y2.py). Nothing of the dump is imported.
-/
namespace Hm
def or1 (a b : Int) : Int := if a = 1 then 1 else b
theorem or1_0 (b : Int) : or1 0 b = b := by simp [or1]
theorem or1_1 (b : Int) : or1 1 b = 1 := by simp [or1]
theorem or1_b0 {a : Int} (h : 0 ≤ a ∧ a ≤ 1) : or1 a 0 = a := by unfold or1; split <;> omega
theorem or1_bb (a : Int) : or1 a a = a := by unfold or1; split <;> simp_all
theorem or1_bt (n : Int) (j : Nat) : or1 (bt n j) 0 = bt n j := or1_b0 (bt_bd n j)
def pbG (S : Spr) (x : Int) (k j : Nat) : Int := if (S.f k).toNat ≤ j ∧ j - (S.f k).toNat < (S.c k).toNat ∧ j < 32 then bt x ((S.a k).toNat + (j - (S.f k).toNat)) else 0
def pbP (S : Spr) (x : Int) (k j : Nat) : Int := if (S.a k).toNat ≤ j ∧ j - (S.a k).toNat < (S.c k).toNat ∧ j < 32 then bt x ((S.f k).toNat + (j - (S.a k).toNat)) else 0
theorem gat8 (S : Spr) {x : Int} (hx : U32 x) (j : Nat) : bt (gatA S x 8) j = or1 (or1 (or1 (or1 (or1 (or1 (or1 (pbG S x 0 j) (pbG S x 1 j)) (pbG S x 2 j)) (pbG S x 3 j)) (pbG S x 4 j)) (pbG S x 5 j)) (pbG S x 6 j)) (pbG S x 7 j) := by
  rw [gat_step S hx 7, gat_step S hx 6, gat_step S hx 5, gat_step S hx 4, gat_step S hx 3, gat_step S hx 2, gat_step S hx 1, gat_step S hx 0, show gatA S x 0 = 0 from rfl, bt_zero]
  rfl
theorem sput8 (S : Spr) {x : Int} (hx : U32 x) (j : Nat) : bt (sputA S x 8) j = or1 (or1 (or1 (or1 (or1 (or1 (or1 (pbP S x 0 j) (pbP S x 1 j)) (pbP S x 2 j)) (pbP S x 3 j)) (pbP S x 4 j)) (pbP S x 5 j)) (pbP S x 6 j)) (pbP S x 7 j) := by
  rw [sput_step S hx 7, sput_step S hx 6, sput_step S hx 5, sput_step S hx 4, sput_step S hx 3, sput_step S hx 2, sput_step S hx 1, sput_step S hx 0, show sputA S x 0 = 0 from rfl, bt_zero]
  rfl
theorem bt_m32 (n : Int) (j : Nat) : bt (n % 4294967296) j = bt n j := by unfold bt; rw [Int.emod_emod_of_dvd _ (Int.dvd_refl _)]
theorem sputC_bt (s n : Int) (j : Nat) : bt (sputC s n) j = bt (sputA (spr s) (n % 4294967296) 8) j := by
  have h := sputA_u16 s (n % 4294967296) 8 (Nat.le_refl _)
  unfold sputC
  rw [show sputA (spr s) (n % 4294967296) 8 % 65536 = sputA (spr s) (n % 4294967296) 8 by unfold U16 at h; omega]
theorem take_0 (x : Int) (h0 : 0 ≤ x) (h1 : x < 65536) : takeP 0 x = 0 := by
  have hs := sum16 x h0 h1
  have hb := bt_bd x
  show x / pw 0 % pw 0 + 0 = _
  simp only [pw, Int.reducePow]
  generalize bt x = b at *
  have B0 := hb 0
  have B1 := hb 1
  have B2 := hb 2
  have B3 := hb 3
  have B4 := hb 4
  have B5 := hb 5
  have B6 := hb 6
  have B7 := hb 7
  have B8 := hb 8
  have B9 := hb 9
  have B10 := hb 10
  have B11 := hb 11
  have B12 := hb 12
  have B13 := hb 13
  have B14 := hb 14
  have B15 := hb 15
  clear hb
  omega
theorem take_1 (x : Int) (h0 : 0 ≤ x) (h1 : x < 65536) : takeP 1 x = 1 := by
  have hs := sum16 x h0 h1
  have hb := bt_bd x
  show x / pw 0 % pw 0 + 1 = _
  simp only [pw, Int.reducePow]
  generalize bt x = b at *
  have B0 := hb 0
  have B1 := hb 1
  have B2 := hb 2
  have B3 := hb 3
  have B4 := hb 4
  have B5 := hb 5
  have B6 := hb 6
  have B7 := hb 7
  have B8 := hb 8
  have B9 := hb 9
  have B10 := hb 10
  have B11 := hb 11
  have B12 := hb 12
  have B13 := hb 13
  have B14 := hb 14
  have B15 := hb 15
  clear hb
  omega
theorem take_2 (x : Int) (h0 : 0 ≤ x) (h1 : x < 65536) : takeP 2 x = 2 := by
  have hs := sum16 x h0 h1
  have hb := bt_bd x
  show x / pw 0 % pw 0 + 2 = _
  simp only [pw, Int.reducePow]
  generalize bt x = b at *
  have B0 := hb 0
  have B1 := hb 1
  have B2 := hb 2
  have B3 := hb 3
  have B4 := hb 4
  have B5 := hb 5
  have B6 := hb 6
  have B7 := hb 7
  have B8 := hb 8
  have B9 := hb 9
  have B10 := hb 10
  have B11 := hb 11
  have B12 := hb 12
  have B13 := hb 13
  have B14 := hb 14
  have B15 := hb 15
  clear hb
  omega
theorem take_3 (x : Int) (h0 : 0 ≤ x) (h1 : x < 65536) : takeP 3 x = 0 + 1 * bt x 7 + 2 * bt x 8 + 4 * bt x 9 + 8 * bt x 10 + 16 * bt x 11 := by
  have hs := sum16 x h0 h1
  have hb := bt_bd x
  show x / pw 7 % pw 5 + 0 = _
  simp only [pw, Int.reducePow]
  generalize bt x = b at *
  have B0 := hb 0
  have B1 := hb 1
  have B2 := hb 2
  have B3 := hb 3
  have B4 := hb 4
  have B5 := hb 5
  have B6 := hb 6
  have B7 := hb 7
  have B8 := hb 8
  have B9 := hb 9
  have B10 := hb 10
  have B11 := hb 11
  have B12 := hb 12
  have B13 := hb 13
  have B14 := hb 14
  have B15 := hb 15
  clear hb
  omega
theorem take_4 (x : Int) (h0 : 0 ≤ x) (h1 : x < 65536) : takeP 4 x = 0 + 1 * bt x 2 + 2 * bt x 3 + 4 * bt x 4 + 8 * bt x 5 + 16 * bt x 6 := by
  have hs := sum16 x h0 h1
  have hb := bt_bd x
  show x / pw 2 % pw 5 + 0 = _
  simp only [pw, Int.reducePow]
  generalize bt x = b at *
  have B0 := hb 0
  have B1 := hb 1
  have B2 := hb 2
  have B3 := hb 3
  have B4 := hb 4
  have B5 := hb 5
  have B6 := hb 6
  have B7 := hb 7
  have B8 := hb 8
  have B9 := hb 9
  have B10 := hb 10
  have B11 := hb 11
  have B12 := hb 12
  have B13 := hb 13
  have B14 := hb 14
  have B15 := hb 15
  clear hb
  omega
theorem take_5 (x : Int) (h0 : 0 ≤ x) (h1 : x < 65536) : takeP 5 x = 8 + 1 * bt x 7 + 2 * bt x 8 + 4 * bt x 9 := by
  have hs := sum16 x h0 h1
  have hb := bt_bd x
  show x / pw 7 % pw 3 + 8 = _
  simp only [pw, Int.reducePow]
  generalize bt x = b at *
  have B0 := hb 0
  have B1 := hb 1
  have B2 := hb 2
  have B3 := hb 3
  have B4 := hb 4
  have B5 := hb 5
  have B6 := hb 6
  have B7 := hb 7
  have B8 := hb 8
  have B9 := hb 9
  have B10 := hb 10
  have B11 := hb 11
  have B12 := hb 12
  have B13 := hb 13
  have B14 := hb 14
  have B15 := hb 15
  clear hb
  omega
theorem take_6 (x : Int) (h0 : 0 ≤ x) (h1 : x < 65536) : takeP 6 x = 8 + 1 * bt x 2 + 2 * bt x 3 + 4 * bt x 4 := by
  have hs := sum16 x h0 h1
  have hb := bt_bd x
  show x / pw 2 % pw 3 + 8 = _
  simp only [pw, Int.reducePow]
  generalize bt x = b at *
  have B0 := hb 0
  have B1 := hb 1
  have B2 := hb 2
  have B3 := hb 3
  have B4 := hb 4
  have B5 := hb 5
  have B6 := hb 6
  have B7 := hb 7
  have B8 := hb 8
  have B9 := hb 9
  have B10 := hb 10
  have B11 := hb 11
  have B12 := hb 12
  have B13 := hb 13
  have B14 := hb 14
  have B15 := hb 15
  clear hb
  omega
theorem gat_0 (x : Int) (hx : U32 x) : gatA (spr 0) x 8 = 0 := by
  have h := gat_u16 0 x 8 (Nat.le_refl _)
  have hs := sum16 _ h.1 h.2
  have e0 : bt (gatA (spr 0) x 8) 0 = 0 := by rw [gat8 _ hx]; simp [pbG, spr, spr0, sprOf, or1_0, or1_bt]
  have e1 : bt (gatA (spr 0) x 8) 1 = 0 := by rw [gat8 _ hx]; simp [pbG, spr, spr0, sprOf, or1_0, or1_bt]
  have e2 : bt (gatA (spr 0) x 8) 2 = 0 := by rw [gat8 _ hx]; simp [pbG, spr, spr0, sprOf, or1_0, or1_bt]
  have e3 : bt (gatA (spr 0) x 8) 3 = 0 := by rw [gat8 _ hx]; simp [pbG, spr, spr0, sprOf, or1_0, or1_bt]
  have e4 : bt (gatA (spr 0) x 8) 4 = 0 := by rw [gat8 _ hx]; simp [pbG, spr, spr0, sprOf, or1_0, or1_bt]
  have e5 : bt (gatA (spr 0) x 8) 5 = 0 := by rw [gat8 _ hx]; simp [pbG, spr, spr0, sprOf, or1_0, or1_bt]
  have e6 : bt (gatA (spr 0) x 8) 6 = 0 := by rw [gat8 _ hx]; simp [pbG, spr, spr0, sprOf, or1_0, or1_bt]
  have e7 : bt (gatA (spr 0) x 8) 7 = 0 := by rw [gat8 _ hx]; simp [pbG, spr, spr0, sprOf, or1_0, or1_bt]
  have e8 : bt (gatA (spr 0) x 8) 8 = 0 := by rw [gat8 _ hx]; simp [pbG, spr, spr0, sprOf, or1_0, or1_bt]
  have e9 : bt (gatA (spr 0) x 8) 9 = 0 := by rw [gat8 _ hx]; simp [pbG, spr, spr0, sprOf, or1_0, or1_bt]
  have e10 : bt (gatA (spr 0) x 8) 10 = 0 := by rw [gat8 _ hx]; simp [pbG, spr, spr0, sprOf, or1_0, or1_bt]
  have e11 : bt (gatA (spr 0) x 8) 11 = 0 := by rw [gat8 _ hx]; simp [pbG, spr, spr0, sprOf, or1_0, or1_bt]
  have e12 : bt (gatA (spr 0) x 8) 12 = 0 := by rw [gat8 _ hx]; simp [pbG, spr, spr0, sprOf, or1_0, or1_bt]
  have e13 : bt (gatA (spr 0) x 8) 13 = 0 := by rw [gat8 _ hx]; simp [pbG, spr, spr0, sprOf, or1_0, or1_bt]
  have e14 : bt (gatA (spr 0) x 8) 14 = 0 := by rw [gat8 _ hx]; simp [pbG, spr, spr0, sprOf, or1_0, or1_bt]
  have e15 : bt (gatA (spr 0) x 8) 15 = 0 := by rw [gat8 _ hx]; simp [pbG, spr, spr0, sprOf, or1_0, or1_bt]
  rw [e0, e1, e2, e3, e4, e5, e6, e7, e8, e9, e10, e11, e12, e13, e14, e15] at hs
  omega
theorem stake_0 (x : Int) (hx : U32 x) : stakeC 0 x = 0 := by
  unfold stakeC
  rw [show (spr 0).signed = false from rfl, if_neg (by decide)]
  exact gat_0 x hx
theorem gat_1 (x : Int) (hx : U32 x) : gatA (spr 1) x 8 = 1 * bt x 2 + 2 * bt x 3 + 4 * bt x 4 + 8 * bt x 5 + 16 * bt x 6 := by
  have h := gat_u16 1 x 8 (Nat.le_refl _)
  have hs := sum16 _ h.1 h.2
  have e0 : bt (gatA (spr 1) x 8) 0 = bt x 2 := by rw [gat8 _ hx]; simp [pbG, spr, spr1, sprOf, or1_0, or1_bt]
  have e1 : bt (gatA (spr 1) x 8) 1 = bt x 3 := by rw [gat8 _ hx]; simp [pbG, spr, spr1, sprOf, or1_0, or1_bt]
  have e2 : bt (gatA (spr 1) x 8) 2 = bt x 4 := by rw [gat8 _ hx]; simp [pbG, spr, spr1, sprOf, or1_0, or1_bt]
  have e3 : bt (gatA (spr 1) x 8) 3 = bt x 5 := by rw [gat8 _ hx]; simp [pbG, spr, spr1, sprOf, or1_0, or1_bt]
  have e4 : bt (gatA (spr 1) x 8) 4 = bt x 6 := by rw [gat8 _ hx]; simp [pbG, spr, spr1, sprOf, or1_0, or1_bt]
  have e5 : bt (gatA (spr 1) x 8) 5 = 0 := by rw [gat8 _ hx]; simp [pbG, spr, spr1, sprOf, or1_0, or1_bt]
  have e6 : bt (gatA (spr 1) x 8) 6 = 0 := by rw [gat8 _ hx]; simp [pbG, spr, spr1, sprOf, or1_0, or1_bt]
  have e7 : bt (gatA (spr 1) x 8) 7 = 0 := by rw [gat8 _ hx]; simp [pbG, spr, spr1, sprOf, or1_0, or1_bt]
  have e8 : bt (gatA (spr 1) x 8) 8 = 0 := by rw [gat8 _ hx]; simp [pbG, spr, spr1, sprOf, or1_0, or1_bt]
  have e9 : bt (gatA (spr 1) x 8) 9 = 0 := by rw [gat8 _ hx]; simp [pbG, spr, spr1, sprOf, or1_0, or1_bt]
  have e10 : bt (gatA (spr 1) x 8) 10 = 0 := by rw [gat8 _ hx]; simp [pbG, spr, spr1, sprOf, or1_0, or1_bt]
  have e11 : bt (gatA (spr 1) x 8) 11 = 0 := by rw [gat8 _ hx]; simp [pbG, spr, spr1, sprOf, or1_0, or1_bt]
  have e12 : bt (gatA (spr 1) x 8) 12 = 0 := by rw [gat8 _ hx]; simp [pbG, spr, spr1, sprOf, or1_0, or1_bt]
  have e13 : bt (gatA (spr 1) x 8) 13 = 0 := by rw [gat8 _ hx]; simp [pbG, spr, spr1, sprOf, or1_0, or1_bt]
  have e14 : bt (gatA (spr 1) x 8) 14 = 0 := by rw [gat8 _ hx]; simp [pbG, spr, spr1, sprOf, or1_0, or1_bt]
  have e15 : bt (gatA (spr 1) x 8) 15 = 0 := by rw [gat8 _ hx]; simp [pbG, spr, spr1, sprOf, or1_0, or1_bt]
  rw [e0, e1, e2, e3, e4, e5, e6, e7, e8, e9, e10, e11, e12, e13, e14, e15] at hs
  omega
theorem stake_1 (x : Int) (hx : U32 x) : stakeC 1 x = 1 * bt x 2 + 2 * bt x 3 + 4 * bt x 4 + 8 * bt x 5 + 16 * bt x 6 := by
  unfold stakeC
  rw [show (spr 1).signed = false from rfl, if_neg (by decide)]
  exact gat_1 x hx
theorem gat_2 (x : Int) (hx : U32 x) : gatA (spr 2) x 8 = 1 * bt x 2 + 2 * bt x 3 + 4 * bt x 4 + 8 * bt x 5 + 16 * bt x 6 + 32 * bt x 12 := by
  have h := gat_u16 2 x 8 (Nat.le_refl _)
  have hs := sum16 _ h.1 h.2
  have e0 : bt (gatA (spr 2) x 8) 0 = bt x 2 := by rw [gat8 _ hx]; simp [pbG, spr, spr2, sprOf, or1_0, or1_bt]
  have e1 : bt (gatA (spr 2) x 8) 1 = bt x 3 := by rw [gat8 _ hx]; simp [pbG, spr, spr2, sprOf, or1_0, or1_bt]
  have e2 : bt (gatA (spr 2) x 8) 2 = bt x 4 := by rw [gat8 _ hx]; simp [pbG, spr, spr2, sprOf, or1_0, or1_bt]
  have e3 : bt (gatA (spr 2) x 8) 3 = bt x 5 := by rw [gat8 _ hx]; simp [pbG, spr, spr2, sprOf, or1_0, or1_bt]
  have e4 : bt (gatA (spr 2) x 8) 4 = bt x 6 := by rw [gat8 _ hx]; simp [pbG, spr, spr2, sprOf, or1_0, or1_bt]
  have e5 : bt (gatA (spr 2) x 8) 5 = bt x 12 := by rw [gat8 _ hx]; simp [pbG, spr, spr2, sprOf, or1_0, or1_bt]
  have e6 : bt (gatA (spr 2) x 8) 6 = 0 := by rw [gat8 _ hx]; simp [pbG, spr, spr2, sprOf, or1_0, or1_bt]
  have e7 : bt (gatA (spr 2) x 8) 7 = 0 := by rw [gat8 _ hx]; simp [pbG, spr, spr2, sprOf, or1_0, or1_bt]
  have e8 : bt (gatA (spr 2) x 8) 8 = 0 := by rw [gat8 _ hx]; simp [pbG, spr, spr2, sprOf, or1_0, or1_bt]
  have e9 : bt (gatA (spr 2) x 8) 9 = 0 := by rw [gat8 _ hx]; simp [pbG, spr, spr2, sprOf, or1_0, or1_bt]
  have e10 : bt (gatA (spr 2) x 8) 10 = 0 := by rw [gat8 _ hx]; simp [pbG, spr, spr2, sprOf, or1_0, or1_bt]
  have e11 : bt (gatA (spr 2) x 8) 11 = 0 := by rw [gat8 _ hx]; simp [pbG, spr, spr2, sprOf, or1_0, or1_bt]
  have e12 : bt (gatA (spr 2) x 8) 12 = 0 := by rw [gat8 _ hx]; simp [pbG, spr, spr2, sprOf, or1_0, or1_bt]
  have e13 : bt (gatA (spr 2) x 8) 13 = 0 := by rw [gat8 _ hx]; simp [pbG, spr, spr2, sprOf, or1_0, or1_bt]
  have e14 : bt (gatA (spr 2) x 8) 14 = 0 := by rw [gat8 _ hx]; simp [pbG, spr, spr2, sprOf, or1_0, or1_bt]
  have e15 : bt (gatA (spr 2) x 8) 15 = 0 := by rw [gat8 _ hx]; simp [pbG, spr, spr2, sprOf, or1_0, or1_bt]
  rw [e0, e1, e2, e3, e4, e5, e6, e7, e8, e9, e10, e11, e12, e13, e14, e15] at hs
  omega
theorem stake_2 (x : Int) (hx : U32 x) : stakeC 2 x = 1 * bt x 2 + 2 * bt x 3 + 4 * bt x 4 + 8 * bt x 5 + 16 * bt x 6 + 32 * bt x 12 - 64 * bt x 12 := by
  have hb := bt_bd x
  unfold stakeC
  rw [show (spr 2).signed = true from rfl, if_pos rfl, gat_2 x hx, show pw (32 - wid 2) = 67108864 by decide]
  generalize bt x = b at *
  have B2 := hb 2
  have B3 := hb 3
  have B4 := hb 4
  have B5 := hb 5
  have B6 := hb 6
  have B12 := hb 12
  clear hb
  split <;> omega
theorem gat_3 (x : Int) (hx : U32 x) : gatA (spr 3) x 8 = 4 * bt x 6 + 8 * bt x 5 + 16 * bt x 11 + 32 * bt x 12 + 64 * bt x 7 + 128 * bt x 8 + 256 * bt x 9 + 512 * bt x 10 := by
  have h := gat_u16 3 x 8 (Nat.le_refl _)
  have hs := sum16 _ h.1 h.2
  have e0 : bt (gatA (spr 3) x 8) 0 = 0 := by rw [gat8 _ hx]; simp [pbG, spr, spr3, sprOf, or1_0, or1_bt]
  have e1 : bt (gatA (spr 3) x 8) 1 = 0 := by rw [gat8 _ hx]; simp [pbG, spr, spr3, sprOf, or1_0, or1_bt]
  have e2 : bt (gatA (spr 3) x 8) 2 = bt x 6 := by rw [gat8 _ hx]; simp [pbG, spr, spr3, sprOf, or1_0, or1_bt]
  have e3 : bt (gatA (spr 3) x 8) 3 = bt x 5 := by rw [gat8 _ hx]; simp [pbG, spr, spr3, sprOf, or1_0, or1_bt]
  have e4 : bt (gatA (spr 3) x 8) 4 = bt x 11 := by rw [gat8 _ hx]; simp [pbG, spr, spr3, sprOf, or1_0, or1_bt]
  have e5 : bt (gatA (spr 3) x 8) 5 = bt x 12 := by rw [gat8 _ hx]; simp [pbG, spr, spr3, sprOf, or1_0, or1_bt]
  have e6 : bt (gatA (spr 3) x 8) 6 = bt x 7 := by rw [gat8 _ hx]; simp [pbG, spr, spr3, sprOf, or1_0, or1_bt]
  have e7 : bt (gatA (spr 3) x 8) 7 = bt x 8 := by rw [gat8 _ hx]; simp [pbG, spr, spr3, sprOf, or1_0, or1_bt]
  have e8 : bt (gatA (spr 3) x 8) 8 = bt x 9 := by rw [gat8 _ hx]; simp [pbG, spr, spr3, sprOf, or1_0, or1_bt]
  have e9 : bt (gatA (spr 3) x 8) 9 = bt x 10 := by rw [gat8 _ hx]; simp [pbG, spr, spr3, sprOf, or1_0, or1_bt]
  have e10 : bt (gatA (spr 3) x 8) 10 = 0 := by rw [gat8 _ hx]; simp [pbG, spr, spr3, sprOf, or1_0, or1_bt]
  have e11 : bt (gatA (spr 3) x 8) 11 = 0 := by rw [gat8 _ hx]; simp [pbG, spr, spr3, sprOf, or1_0, or1_bt]
  have e12 : bt (gatA (spr 3) x 8) 12 = 0 := by rw [gat8 _ hx]; simp [pbG, spr, spr3, sprOf, or1_0, or1_bt]
  have e13 : bt (gatA (spr 3) x 8) 13 = 0 := by rw [gat8 _ hx]; simp [pbG, spr, spr3, sprOf, or1_0, or1_bt]
  have e14 : bt (gatA (spr 3) x 8) 14 = 0 := by rw [gat8 _ hx]; simp [pbG, spr, spr3, sprOf, or1_0, or1_bt]
  have e15 : bt (gatA (spr 3) x 8) 15 = 0 := by rw [gat8 _ hx]; simp [pbG, spr, spr3, sprOf, or1_0, or1_bt]
  rw [e0, e1, e2, e3, e4, e5, e6, e7, e8, e9, e10, e11, e12, e13, e14, e15] at hs
  omega
theorem stake_3 (x : Int) (hx : U32 x) : stakeC 3 x = 4 * bt x 6 + 8 * bt x 5 + 16 * bt x 11 + 32 * bt x 12 + 64 * bt x 7 + 128 * bt x 8 + 256 * bt x 9 + 512 * bt x 10 := by
  unfold stakeC
  rw [show (spr 3).signed = false from rfl, if_neg (by decide)]
  exact gat_3 x hx
theorem gat_4 (x : Int) (hx : U32 x) : gatA (spr 4) x 8 = 4 * bt x 6 + 8 * bt x 10 + 16 * bt x 11 + 32 * bt x 12 + 64 * bt x 5 := by
  have h := gat_u16 4 x 8 (Nat.le_refl _)
  have hs := sum16 _ h.1 h.2
  have e0 : bt (gatA (spr 4) x 8) 0 = 0 := by rw [gat8 _ hx]; simp [pbG, spr, spr4, sprOf, or1_0, or1_bt]
  have e1 : bt (gatA (spr 4) x 8) 1 = 0 := by rw [gat8 _ hx]; simp [pbG, spr, spr4, sprOf, or1_0, or1_bt]
  have e2 : bt (gatA (spr 4) x 8) 2 = bt x 6 := by rw [gat8 _ hx]; simp [pbG, spr, spr4, sprOf, or1_0, or1_bt]
  have e3 : bt (gatA (spr 4) x 8) 3 = bt x 10 := by rw [gat8 _ hx]; simp [pbG, spr, spr4, sprOf, or1_0, or1_bt]
  have e4 : bt (gatA (spr 4) x 8) 4 = bt x 11 := by rw [gat8 _ hx]; simp [pbG, spr, spr4, sprOf, or1_0, or1_bt]
  have e5 : bt (gatA (spr 4) x 8) 5 = bt x 12 := by rw [gat8 _ hx]; simp [pbG, spr, spr4, sprOf, or1_0, or1_bt]
  have e6 : bt (gatA (spr 4) x 8) 6 = bt x 5 := by rw [gat8 _ hx]; simp [pbG, spr, spr4, sprOf, or1_0, or1_bt]
  have e7 : bt (gatA (spr 4) x 8) 7 = 0 := by rw [gat8 _ hx]; simp [pbG, spr, spr4, sprOf, or1_0, or1_bt]
  have e8 : bt (gatA (spr 4) x 8) 8 = 0 := by rw [gat8 _ hx]; simp [pbG, spr, spr4, sprOf, or1_0, or1_bt]
  have e9 : bt (gatA (spr 4) x 8) 9 = 0 := by rw [gat8 _ hx]; simp [pbG, spr, spr4, sprOf, or1_0, or1_bt]
  have e10 : bt (gatA (spr 4) x 8) 10 = 0 := by rw [gat8 _ hx]; simp [pbG, spr, spr4, sprOf, or1_0, or1_bt]
  have e11 : bt (gatA (spr 4) x 8) 11 = 0 := by rw [gat8 _ hx]; simp [pbG, spr, spr4, sprOf, or1_0, or1_bt]
  have e12 : bt (gatA (spr 4) x 8) 12 = 0 := by rw [gat8 _ hx]; simp [pbG, spr, spr4, sprOf, or1_0, or1_bt]
  have e13 : bt (gatA (spr 4) x 8) 13 = 0 := by rw [gat8 _ hx]; simp [pbG, spr, spr4, sprOf, or1_0, or1_bt]
  have e14 : bt (gatA (spr 4) x 8) 14 = 0 := by rw [gat8 _ hx]; simp [pbG, spr, spr4, sprOf, or1_0, or1_bt]
  have e15 : bt (gatA (spr 4) x 8) 15 = 0 := by rw [gat8 _ hx]; simp [pbG, spr, spr4, sprOf, or1_0, or1_bt]
  rw [e0, e1, e2, e3, e4, e5, e6, e7, e8, e9, e10, e11, e12, e13, e14, e15] at hs
  omega
theorem stake_4 (x : Int) (hx : U32 x) : stakeC 4 x = 4 * bt x 6 + 8 * bt x 10 + 16 * bt x 11 + 32 * bt x 12 + 64 * bt x 5 := by
  unfold stakeC
  rw [show (spr 4).signed = false from rfl, if_neg (by decide)]
  exact gat_4 x hx
theorem gat_5 (x : Int) (hx : U32 x) : gatA (spr 5) x 8 = 4 * bt x 4 + 8 * bt x 5 + 16 * bt x 6 + 32 * bt x 12 + 64 * bt x 2 + 128 * bt x 3 := by
  have h := gat_u16 5 x 8 (Nat.le_refl _)
  have hs := sum16 _ h.1 h.2
  have e0 : bt (gatA (spr 5) x 8) 0 = 0 := by rw [gat8 _ hx]; simp [pbG, spr, spr5, sprOf, or1_0, or1_bt]
  have e1 : bt (gatA (spr 5) x 8) 1 = 0 := by rw [gat8 _ hx]; simp [pbG, spr, spr5, sprOf, or1_0, or1_bt]
  have e2 : bt (gatA (spr 5) x 8) 2 = bt x 4 := by rw [gat8 _ hx]; simp [pbG, spr, spr5, sprOf, or1_0, or1_bt]
  have e3 : bt (gatA (spr 5) x 8) 3 = bt x 5 := by rw [gat8 _ hx]; simp [pbG, spr, spr5, sprOf, or1_0, or1_bt]
  have e4 : bt (gatA (spr 5) x 8) 4 = bt x 6 := by rw [gat8 _ hx]; simp [pbG, spr, spr5, sprOf, or1_0, or1_bt]
  have e5 : bt (gatA (spr 5) x 8) 5 = bt x 12 := by rw [gat8 _ hx]; simp [pbG, spr, spr5, sprOf, or1_0, or1_bt]
  have e6 : bt (gatA (spr 5) x 8) 6 = bt x 2 := by rw [gat8 _ hx]; simp [pbG, spr, spr5, sprOf, or1_0, or1_bt]
  have e7 : bt (gatA (spr 5) x 8) 7 = bt x 3 := by rw [gat8 _ hx]; simp [pbG, spr, spr5, sprOf, or1_0, or1_bt]
  have e8 : bt (gatA (spr 5) x 8) 8 = 0 := by rw [gat8 _ hx]; simp [pbG, spr, spr5, sprOf, or1_0, or1_bt]
  have e9 : bt (gatA (spr 5) x 8) 9 = 0 := by rw [gat8 _ hx]; simp [pbG, spr, spr5, sprOf, or1_0, or1_bt]
  have e10 : bt (gatA (spr 5) x 8) 10 = 0 := by rw [gat8 _ hx]; simp [pbG, spr, spr5, sprOf, or1_0, or1_bt]
  have e11 : bt (gatA (spr 5) x 8) 11 = 0 := by rw [gat8 _ hx]; simp [pbG, spr, spr5, sprOf, or1_0, or1_bt]
  have e12 : bt (gatA (spr 5) x 8) 12 = 0 := by rw [gat8 _ hx]; simp [pbG, spr, spr5, sprOf, or1_0, or1_bt]
  have e13 : bt (gatA (spr 5) x 8) 13 = 0 := by rw [gat8 _ hx]; simp [pbG, spr, spr5, sprOf, or1_0, or1_bt]
  have e14 : bt (gatA (spr 5) x 8) 14 = 0 := by rw [gat8 _ hx]; simp [pbG, spr, spr5, sprOf, or1_0, or1_bt]
  have e15 : bt (gatA (spr 5) x 8) 15 = 0 := by rw [gat8 _ hx]; simp [pbG, spr, spr5, sprOf, or1_0, or1_bt]
  rw [e0, e1, e2, e3, e4, e5, e6, e7, e8, e9, e10, e11, e12, e13, e14, e15] at hs
  omega
theorem stake_5 (x : Int) (hx : U32 x) : stakeC 5 x = 4 * bt x 4 + 8 * bt x 5 + 16 * bt x 6 + 32 * bt x 12 + 64 * bt x 2 + 128 * bt x 3 := by
  unfold stakeC
  rw [show (spr 5).signed = false from rfl, if_neg (by decide)]
  exact gat_5 x hx
theorem gat_6 (x : Int) (hx : U32 x) : gatA (spr 6) x 8 = 4 * bt x 9 + 8 * bt x 10 + 16 * bt x 11 + 32 * bt x 12 + 64 * bt x 7 + 128 * bt x 8 := by
  have h := gat_u16 6 x 8 (Nat.le_refl _)
  have hs := sum16 _ h.1 h.2
  have e0 : bt (gatA (spr 6) x 8) 0 = 0 := by rw [gat8 _ hx]; simp [pbG, spr, spr6, sprOf, or1_0, or1_bt]
  have e1 : bt (gatA (spr 6) x 8) 1 = 0 := by rw [gat8 _ hx]; simp [pbG, spr, spr6, sprOf, or1_0, or1_bt]
  have e2 : bt (gatA (spr 6) x 8) 2 = bt x 9 := by rw [gat8 _ hx]; simp [pbG, spr, spr6, sprOf, or1_0, or1_bt]
  have e3 : bt (gatA (spr 6) x 8) 3 = bt x 10 := by rw [gat8 _ hx]; simp [pbG, spr, spr6, sprOf, or1_0, or1_bt]
  have e4 : bt (gatA (spr 6) x 8) 4 = bt x 11 := by rw [gat8 _ hx]; simp [pbG, spr, spr6, sprOf, or1_0, or1_bt]
  have e5 : bt (gatA (spr 6) x 8) 5 = bt x 12 := by rw [gat8 _ hx]; simp [pbG, spr, spr6, sprOf, or1_0, or1_bt]
  have e6 : bt (gatA (spr 6) x 8) 6 = bt x 7 := by rw [gat8 _ hx]; simp [pbG, spr, spr6, sprOf, or1_0, or1_bt]
  have e7 : bt (gatA (spr 6) x 8) 7 = bt x 8 := by rw [gat8 _ hx]; simp [pbG, spr, spr6, sprOf, or1_0, or1_bt]
  have e8 : bt (gatA (spr 6) x 8) 8 = 0 := by rw [gat8 _ hx]; simp [pbG, spr, spr6, sprOf, or1_0, or1_bt]
  have e9 : bt (gatA (spr 6) x 8) 9 = 0 := by rw [gat8 _ hx]; simp [pbG, spr, spr6, sprOf, or1_0, or1_bt]
  have e10 : bt (gatA (spr 6) x 8) 10 = 0 := by rw [gat8 _ hx]; simp [pbG, spr, spr6, sprOf, or1_0, or1_bt]
  have e11 : bt (gatA (spr 6) x 8) 11 = 0 := by rw [gat8 _ hx]; simp [pbG, spr, spr6, sprOf, or1_0, or1_bt]
  have e12 : bt (gatA (spr 6) x 8) 12 = 0 := by rw [gat8 _ hx]; simp [pbG, spr, spr6, sprOf, or1_0, or1_bt]
  have e13 : bt (gatA (spr 6) x 8) 13 = 0 := by rw [gat8 _ hx]; simp [pbG, spr, spr6, sprOf, or1_0, or1_bt]
  have e14 : bt (gatA (spr 6) x 8) 14 = 0 := by rw [gat8 _ hx]; simp [pbG, spr, spr6, sprOf, or1_0, or1_bt]
  have e15 : bt (gatA (spr 6) x 8) 15 = 0 := by rw [gat8 _ hx]; simp [pbG, spr, spr6, sprOf, or1_0, or1_bt]
  rw [e0, e1, e2, e3, e4, e5, e6, e7, e8, e9, e10, e11, e12, e13, e14, e15] at hs
  omega
theorem stake_6 (x : Int) (hx : U32 x) : stakeC 6 x = 4 * bt x 9 + 8 * bt x 10 + 16 * bt x 11 + 32 * bt x 12 + 64 * bt x 7 + 128 * bt x 8 := by
  unfold stakeC
  rw [show (spr 6).signed = false from rfl, if_neg (by decide)]
  exact gat_6 x hx
theorem gat_7 (x : Int) (hx : U32 x) : gatA (spr 7) x 8 = 16 * bt x 6 + 32 * bt x 2 + 64 * bt x 5 + 128 * bt x 3 + 256 * bt x 4 + 512 * bt x 12 := by
  have h := gat_u16 7 x 8 (Nat.le_refl _)
  have hs := sum16 _ h.1 h.2
  have e0 : bt (gatA (spr 7) x 8) 0 = 0 := by rw [gat8 _ hx]; simp [pbG, spr, spr7, sprOf, or1_0, or1_bt]
  have e1 : bt (gatA (spr 7) x 8) 1 = 0 := by rw [gat8 _ hx]; simp [pbG, spr, spr7, sprOf, or1_0, or1_bt]
  have e2 : bt (gatA (spr 7) x 8) 2 = 0 := by rw [gat8 _ hx]; simp [pbG, spr, spr7, sprOf, or1_0, or1_bt]
  have e3 : bt (gatA (spr 7) x 8) 3 = 0 := by rw [gat8 _ hx]; simp [pbG, spr, spr7, sprOf, or1_0, or1_bt]
  have e4 : bt (gatA (spr 7) x 8) 4 = bt x 6 := by rw [gat8 _ hx]; simp [pbG, spr, spr7, sprOf, or1_0, or1_bt]
  have e5 : bt (gatA (spr 7) x 8) 5 = bt x 2 := by rw [gat8 _ hx]; simp [pbG, spr, spr7, sprOf, or1_0, or1_bt]
  have e6 : bt (gatA (spr 7) x 8) 6 = bt x 5 := by rw [gat8 _ hx]; simp [pbG, spr, spr7, sprOf, or1_0, or1_bt]
  have e7 : bt (gatA (spr 7) x 8) 7 = bt x 3 := by rw [gat8 _ hx]; simp [pbG, spr, spr7, sprOf, or1_0, or1_bt]
  have e8 : bt (gatA (spr 7) x 8) 8 = bt x 4 := by rw [gat8 _ hx]; simp [pbG, spr, spr7, sprOf, or1_0, or1_bt]
  have e9 : bt (gatA (spr 7) x 8) 9 = bt x 12 := by rw [gat8 _ hx]; simp [pbG, spr, spr7, sprOf, or1_0, or1_bt]
  have e10 : bt (gatA (spr 7) x 8) 10 = 0 := by rw [gat8 _ hx]; simp [pbG, spr, spr7, sprOf, or1_0, or1_bt]
  have e11 : bt (gatA (spr 7) x 8) 11 = 0 := by rw [gat8 _ hx]; simp [pbG, spr, spr7, sprOf, or1_0, or1_bt]
  have e12 : bt (gatA (spr 7) x 8) 12 = 0 := by rw [gat8 _ hx]; simp [pbG, spr, spr7, sprOf, or1_0, or1_bt]
  have e13 : bt (gatA (spr 7) x 8) 13 = 0 := by rw [gat8 _ hx]; simp [pbG, spr, spr7, sprOf, or1_0, or1_bt]
  have e14 : bt (gatA (spr 7) x 8) 14 = 0 := by rw [gat8 _ hx]; simp [pbG, spr, spr7, sprOf, or1_0, or1_bt]
  have e15 : bt (gatA (spr 7) x 8) 15 = 0 := by rw [gat8 _ hx]; simp [pbG, spr, spr7, sprOf, or1_0, or1_bt]
  rw [e0, e1, e2, e3, e4, e5, e6, e7, e8, e9, e10, e11, e12, e13, e14, e15] at hs
  omega
theorem stake_7 (x : Int) (hx : U32 x) : stakeC 7 x = 16 * bt x 6 + 32 * bt x 2 + 64 * bt x 5 + 128 * bt x 3 + 256 * bt x 4 + 512 * bt x 12 - 1024 * bt x 12 := by
  have hb := bt_bd x
  unfold stakeC
  rw [show (spr 7).signed = true from rfl, if_pos rfl, gat_7 x hx, show pw (32 - wid 7) = 4194304 by decide]
  generalize bt x = b at *
  have B2 := hb 2
  have B3 := hb 3
  have B4 := hb 4
  have B5 := hb 5
  have B6 := hb 6
  have B12 := hb 12
  clear hb
  split <;> omega
theorem gat_8 (x : Int) (hx : U32 x) : gatA (spr 8) x 8 = 2 * bt x 3 + 4 * bt x 4 + 8 * bt x 10 + 16 * bt x 11 + 32 * bt x 2 + 64 * bt x 5 + 128 * bt x 6 + 256 * bt x 12 := by
  have h := gat_u16 8 x 8 (Nat.le_refl _)
  have hs := sum16 _ h.1 h.2
  have e0 : bt (gatA (spr 8) x 8) 0 = 0 := by rw [gat8 _ hx]; simp [pbG, spr, spr8, sprOf, or1_0, or1_bt]
  have e1 : bt (gatA (spr 8) x 8) 1 = bt x 3 := by rw [gat8 _ hx]; simp [pbG, spr, spr8, sprOf, or1_0, or1_bt]
  have e2 : bt (gatA (spr 8) x 8) 2 = bt x 4 := by rw [gat8 _ hx]; simp [pbG, spr, spr8, sprOf, or1_0, or1_bt]
  have e3 : bt (gatA (spr 8) x 8) 3 = bt x 10 := by rw [gat8 _ hx]; simp [pbG, spr, spr8, sprOf, or1_0, or1_bt]
  have e4 : bt (gatA (spr 8) x 8) 4 = bt x 11 := by rw [gat8 _ hx]; simp [pbG, spr, spr8, sprOf, or1_0, or1_bt]
  have e5 : bt (gatA (spr 8) x 8) 5 = bt x 2 := by rw [gat8 _ hx]; simp [pbG, spr, spr8, sprOf, or1_0, or1_bt]
  have e6 : bt (gatA (spr 8) x 8) 6 = bt x 5 := by rw [gat8 _ hx]; simp [pbG, spr, spr8, sprOf, or1_0, or1_bt]
  have e7 : bt (gatA (spr 8) x 8) 7 = bt x 6 := by rw [gat8 _ hx]; simp [pbG, spr, spr8, sprOf, or1_0, or1_bt]
  have e8 : bt (gatA (spr 8) x 8) 8 = bt x 12 := by rw [gat8 _ hx]; simp [pbG, spr, spr8, sprOf, or1_0, or1_bt]
  have e9 : bt (gatA (spr 8) x 8) 9 = 0 := by rw [gat8 _ hx]; simp [pbG, spr, spr8, sprOf, or1_0, or1_bt]
  have e10 : bt (gatA (spr 8) x 8) 10 = 0 := by rw [gat8 _ hx]; simp [pbG, spr, spr8, sprOf, or1_0, or1_bt]
  have e11 : bt (gatA (spr 8) x 8) 11 = 0 := by rw [gat8 _ hx]; simp [pbG, spr, spr8, sprOf, or1_0, or1_bt]
  have e12 : bt (gatA (spr 8) x 8) 12 = 0 := by rw [gat8 _ hx]; simp [pbG, spr, spr8, sprOf, or1_0, or1_bt]
  have e13 : bt (gatA (spr 8) x 8) 13 = 0 := by rw [gat8 _ hx]; simp [pbG, spr, spr8, sprOf, or1_0, or1_bt]
  have e14 : bt (gatA (spr 8) x 8) 14 = 0 := by rw [gat8 _ hx]; simp [pbG, spr, spr8, sprOf, or1_0, or1_bt]
  have e15 : bt (gatA (spr 8) x 8) 15 = 0 := by rw [gat8 _ hx]; simp [pbG, spr, spr8, sprOf, or1_0, or1_bt]
  rw [e0, e1, e2, e3, e4, e5, e6, e7, e8, e9, e10, e11, e12, e13, e14, e15] at hs
  omega
theorem stake_8 (x : Int) (hx : U32 x) : stakeC 8 x = 2 * bt x 3 + 4 * bt x 4 + 8 * bt x 10 + 16 * bt x 11 + 32 * bt x 2 + 64 * bt x 5 + 128 * bt x 6 + 256 * bt x 12 - 512 * bt x 12 := by
  have hb := bt_bd x
  unfold stakeC
  rw [show (spr 8).signed = true from rfl, if_pos rfl, gat_8 x hx, show pw (32 - wid 8) = 8388608 by decide]
  generalize bt x = b at *
  have B2 := hb 2
  have B3 := hb 3
  have B4 := hb 4
  have B5 := hb 5
  have B6 := hb 6
  have B10 := hb 10
  have B11 := hb 11
  have B12 := hb 12
  clear hb
  split <;> omega
theorem gat_9 (x : Int) (hx : U32 x) : gatA (spr 9) x 8 = 2 * bt x 3 + 4 * bt x 4 + 8 * bt x 5 + 16 * bt x 11 + 32 * bt x 2 + 64 * bt x 7 + 128 * bt x 6 + 256 * bt x 9 + 512 * bt x 10 + 1024 * bt x 8 + 2048 * bt x 12 := by
  have h := gat_u16 9 x 8 (Nat.le_refl _)
  have hs := sum16 _ h.1 h.2
  have e0 : bt (gatA (spr 9) x 8) 0 = 0 := by rw [gat8 _ hx]; simp [pbG, spr, spr9, sprOf, or1_0, or1_bt]
  have e1 : bt (gatA (spr 9) x 8) 1 = bt x 3 := by rw [gat8 _ hx]; simp [pbG, spr, spr9, sprOf, or1_0, or1_bt]
  have e2 : bt (gatA (spr 9) x 8) 2 = bt x 4 := by rw [gat8 _ hx]; simp [pbG, spr, spr9, sprOf, or1_0, or1_bt]
  have e3 : bt (gatA (spr 9) x 8) 3 = bt x 5 := by rw [gat8 _ hx]; simp [pbG, spr, spr9, sprOf, or1_0, or1_bt]
  have e4 : bt (gatA (spr 9) x 8) 4 = bt x 11 := by rw [gat8 _ hx]; simp [pbG, spr, spr9, sprOf, or1_0, or1_bt]
  have e5 : bt (gatA (spr 9) x 8) 5 = bt x 2 := by rw [gat8 _ hx]; simp [pbG, spr, spr9, sprOf, or1_0, or1_bt]
  have e6 : bt (gatA (spr 9) x 8) 6 = bt x 7 := by rw [gat8 _ hx]; simp [pbG, spr, spr9, sprOf, or1_0, or1_bt]
  have e7 : bt (gatA (spr 9) x 8) 7 = bt x 6 := by rw [gat8 _ hx]; simp [pbG, spr, spr9, sprOf, or1_0, or1_bt]
  have e8 : bt (gatA (spr 9) x 8) 8 = bt x 9 := by rw [gat8 _ hx]; simp [pbG, spr, spr9, sprOf, or1_0, or1_bt]
  have e9 : bt (gatA (spr 9) x 8) 9 = bt x 10 := by rw [gat8 _ hx]; simp [pbG, spr, spr9, sprOf, or1_0, or1_bt]
  have e10 : bt (gatA (spr 9) x 8) 10 = bt x 8 := by rw [gat8 _ hx]; simp [pbG, spr, spr9, sprOf, or1_0, or1_bt]
  have e11 : bt (gatA (spr 9) x 8) 11 = bt x 12 := by rw [gat8 _ hx]; simp [pbG, spr, spr9, sprOf, or1_0, or1_bt]
  have e12 : bt (gatA (spr 9) x 8) 12 = 0 := by rw [gat8 _ hx]; simp [pbG, spr, spr9, sprOf, or1_0, or1_bt]
  have e13 : bt (gatA (spr 9) x 8) 13 = 0 := by rw [gat8 _ hx]; simp [pbG, spr, spr9, sprOf, or1_0, or1_bt]
  have e14 : bt (gatA (spr 9) x 8) 14 = 0 := by rw [gat8 _ hx]; simp [pbG, spr, spr9, sprOf, or1_0, or1_bt]
  have e15 : bt (gatA (spr 9) x 8) 15 = 0 := by rw [gat8 _ hx]; simp [pbG, spr, spr9, sprOf, or1_0, or1_bt]
  rw [e0, e1, e2, e3, e4, e5, e6, e7, e8, e9, e10, e11, e12, e13, e14, e15] at hs
  omega
theorem stake_9 (x : Int) (hx : U32 x) : stakeC 9 x = 2 * bt x 3 + 4 * bt x 4 + 8 * bt x 5 + 16 * bt x 11 + 32 * bt x 2 + 64 * bt x 7 + 128 * bt x 6 + 256 * bt x 9 + 512 * bt x 10 + 1024 * bt x 8 + 2048 * bt x 12 - 4096 * bt x 12 := by
  have hb := bt_bd x
  unfold stakeC
  rw [show (spr 9).signed = true from rfl, if_pos rfl, gat_9 x hx, show pw (32 - wid 9) = 1048576 by decide]
  generalize bt x = b at *
  have B2 := hb 2
  have B3 := hb 3
  have B4 := hb 4
  have B5 := hb 5
  have B6 := hb 6
  have B7 := hb 7
  have B8 := hb 8
  have B9 := hb 9
  have B10 := hb 10
  have B11 := hb 11
  have B12 := hb 12
  clear hb
  split <;> omega
theorem bput_0 (n : Int) (j : Nat) (hj : j < 16) : bt (putP 0 n) j = 0 := by
  have hj' : j = 0 ∨ j = 1 ∨ j = 2 ∨ j = 3 ∨ j = 4 ∨ j = 5 ∨ j = 6 ∨ j = 7 ∨ j = 8 ∨ j = 9 ∨ j = 10 ∨ j = 11 ∨ j = 12 ∨ j = 13 ∨ j = 14 ∨ j = 15 := by omega
  rw [bt_flr _ j (by omega)]
  show ((n - 0) % 65536 % pw 0 * pw 0 % 65536) / pw j % 2 = _
  rcases hj' with rfl | rfl | rfl | rfl | rfl | rfl | rfl | rfl | rfl | rfl | rfl | rfl | rfl | rfl | rfl | rfl <;> simp [pw, bt_flr] <;> omega
theorem bput_1 (n : Int) (j : Nat) (hj : j < 16) : bt (putP 1 n) j = 0 := by
  have hj' : j = 0 ∨ j = 1 ∨ j = 2 ∨ j = 3 ∨ j = 4 ∨ j = 5 ∨ j = 6 ∨ j = 7 ∨ j = 8 ∨ j = 9 ∨ j = 10 ∨ j = 11 ∨ j = 12 ∨ j = 13 ∨ j = 14 ∨ j = 15 := by omega
  rw [bt_flr _ j (by omega)]
  show ((n - 1) % 65536 % pw 0 * pw 0 % 65536) / pw j % 2 = _
  rcases hj' with rfl | rfl | rfl | rfl | rfl | rfl | rfl | rfl | rfl | rfl | rfl | rfl | rfl | rfl | rfl | rfl <;> simp [pw, bt_flr] <;> omega
theorem bput_2 (n : Int) (j : Nat) (hj : j < 16) : bt (putP 2 n) j = 0 := by
  have hj' : j = 0 ∨ j = 1 ∨ j = 2 ∨ j = 3 ∨ j = 4 ∨ j = 5 ∨ j = 6 ∨ j = 7 ∨ j = 8 ∨ j = 9 ∨ j = 10 ∨ j = 11 ∨ j = 12 ∨ j = 13 ∨ j = 14 ∨ j = 15 := by omega
  rw [bt_flr _ j (by omega)]
  show ((n - 2) % 65536 % pw 0 * pw 0 % 65536) / pw j % 2 = _
  rcases hj' with rfl | rfl | rfl | rfl | rfl | rfl | rfl | rfl | rfl | rfl | rfl | rfl | rfl | rfl | rfl | rfl <;> simp [pw, bt_flr] <;> omega
theorem bput_3 (n : Int) (j : Nat) (hj : j < 16) : bt (putP 3 n) j = if 7 ≤ j ∧ j < 12 then bt n (j - 7) else 0 := by
  have hj' : j = 0 ∨ j = 1 ∨ j = 2 ∨ j = 3 ∨ j = 4 ∨ j = 5 ∨ j = 6 ∨ j = 7 ∨ j = 8 ∨ j = 9 ∨ j = 10 ∨ j = 11 ∨ j = 12 ∨ j = 13 ∨ j = 14 ∨ j = 15 := by omega
  rw [bt_flr _ j (by omega)]
  show ((n - 0) % 65536 % pw 5 * pw 7 % 65536) / pw j % 2 = _
  rcases hj' with rfl | rfl | rfl | rfl | rfl | rfl | rfl | rfl | rfl | rfl | rfl | rfl | rfl | rfl | rfl | rfl <;> simp [pw, bt_flr] <;> omega
theorem bput_4 (n : Int) (j : Nat) (hj : j < 16) : bt (putP 4 n) j = if 2 ≤ j ∧ j < 7 then bt n (j - 2) else 0 := by
  have hj' : j = 0 ∨ j = 1 ∨ j = 2 ∨ j = 3 ∨ j = 4 ∨ j = 5 ∨ j = 6 ∨ j = 7 ∨ j = 8 ∨ j = 9 ∨ j = 10 ∨ j = 11 ∨ j = 12 ∨ j = 13 ∨ j = 14 ∨ j = 15 := by omega
  rw [bt_flr _ j (by omega)]
  show ((n - 0) % 65536 % pw 5 * pw 2 % 65536) / pw j % 2 = _
  rcases hj' with rfl | rfl | rfl | rfl | rfl | rfl | rfl | rfl | rfl | rfl | rfl | rfl | rfl | rfl | rfl | rfl <;> simp [pw, bt_flr] <;> omega
theorem bput_5 (n : Int) (j : Nat) (hj : j < 16) : bt (putP 5 n) j = if 7 ≤ j ∧ j < 10 then bt n (j - 7) else 0 := by
  have hj' : j = 0 ∨ j = 1 ∨ j = 2 ∨ j = 3 ∨ j = 4 ∨ j = 5 ∨ j = 6 ∨ j = 7 ∨ j = 8 ∨ j = 9 ∨ j = 10 ∨ j = 11 ∨ j = 12 ∨ j = 13 ∨ j = 14 ∨ j = 15 := by omega
  rw [bt_flr _ j (by omega)]
  show ((n - 8) % 65536 % pw 3 * pw 7 % 65536) / pw j % 2 = _
  rcases hj' with rfl | rfl | rfl | rfl | rfl | rfl | rfl | rfl | rfl | rfl | rfl | rfl | rfl | rfl | rfl | rfl <;> simp [pw, bt_flr] <;> omega
theorem bput_6 (n : Int) (j : Nat) (hj : j < 16) : bt (putP 6 n) j = if 2 ≤ j ∧ j < 5 then bt n (j - 2) else 0 := by
  have hj' : j = 0 ∨ j = 1 ∨ j = 2 ∨ j = 3 ∨ j = 4 ∨ j = 5 ∨ j = 6 ∨ j = 7 ∨ j = 8 ∨ j = 9 ∨ j = 10 ∨ j = 11 ∨ j = 12 ∨ j = 13 ∨ j = 14 ∨ j = 15 := by omega
  rw [bt_flr _ j (by omega)]
  show ((n - 8) % 65536 % pw 3 * pw 2 % 65536) / pw j % 2 = _
  rcases hj' with rfl | rfl | rfl | rfl | rfl | rfl | rfl | rfl | rfl | rfl | rfl | rfl | rfl | rfl | rfl | rfl <;> simp [pw, bt_flr] <;> omega
end Hm
