/-
  Y1 in one text.
-/
import Derived.Test.YtdcmdjeooklmjaaDoorGB
import Derived.Test.YtdcmdjeooklmjaaDoorGC
import Derived.Test.YtdcmdjeooklmjaaDoorGD
set_option linter.unusedVariables false
set_option linter.unusedSimpArgs false
/-
  Mathematics of short instructions on package code's side: bits of masks, of pieces. Nothing of the dump is imported.
-/
namespace Hm
theorem bt_b {n : Int} (h : U32 n) (j : Nat) : bt n j = b01 (n.toNat.testBit j) := by
  rw [bt_nat, show n % 4294967296 = n by unfold U32 at h; omega]
theorem bt_or {a b : Int} (ha : U32 a) (hb : U32 b) (j : Nat) : bt (orI a b) j = if bt a j = 1 then 1 else bt b j := by
  rw [bt_b (orI_u32 ha hb), bt_b ha, bt_b hb, orI_bit]
  cases a.toNat.testBit j <;> cases b.toNat.testBit j <;> rfl
theorem andI_u32 {a b : Int} (ha : U32 a) : U32 (andI a b) := by
  have h1 : a.toNat < 2 ^ 32 := by have := ha.2; have := ha.1; omega
  have h2 : a.toNat &&& b.toNat ≤ a.toNat := Nat.and_le_left
  unfold andI U32
  omega
theorem bt_and {a m : Int} (ha : U32 a) (hm : U32 m) (j : Nat) : bt (andI a m) j = if bt m j = 1 then bt a j else 0 := by
  rw [bt_b (andI_u32 ha), bt_b ha, bt_b hm]
  unfold andI
  rw [Int.toNat_natCast, Nat.testBit_and]
  cases a.toNat.testBit j <;> cases m.toNat.testBit j <;> rfl
theorem bt_put {f c a x : Int} (hx : U32 x) (j : Nat) : bt (putC f c a x) j = if a.toNat ≤ j ∧ j - a.toNat < c.toNat ∧ j < 32 then bt x (f.toNat + (j - a.toNat)) else 0 := by
  rw [bt_b (putC_u32 _ _ _ _), put_bit f c a x j hx.1 (fun _ => false) (fun _ => false) (fun _ => false) (fun i => x.toNat.testBit i) (fun _ => rfl)]
  unfold symP
  split
  · rw [bt_b hx, List.any_cons, List.any_nil, Bool.or_false]; rfl
  · rfl
theorem gat_step (S : Spr) {x : Int} (hx : U32 x) (k j : Nat) : bt (gatA S x (k + 1)) j = if bt (gatA S x k) j = 1 then 1 else if (S.f k).toNat ≤ j ∧ j - (S.f k).toNat < (S.c k).toNat ∧ j < 32 then bt x ((S.a k).toNat + (j - (S.f k).toNat)) else 0 := by
  rw [← bt_put hx]; exact bt_or (gatA_u32 S x k) (putC_u32 _ _ _ _) j
theorem sput_step (S : Spr) {x : Int} (hx : U32 x) (k j : Nat) : bt (sputA S x (k + 1)) j = if bt (sputA S x k) j = 1 then 1 else if (S.a k).toNat ≤ j ∧ j - (S.a k).toNat < (S.c k).toNat ∧ j < 32 then bt x ((S.f k).toNat + (j - (S.a k).toNat)) else 0 := by
  rw [← bt_put hx]; exact bt_or (sputA_u32 S x k) (putC_u32 _ _ _ _) j
theorem bt_zero (j : Nat) : bt 0 j = 0 := by unfold bt; simp
theorem putC_u16 {f c a x : Int} (h : c.toNat + a.toNat ≤ 16) : U16 (putC f c a x) := by
  have hc := pw_pos c.toNat
  have ha := pw_pos a.toNat
  have h1 := Int.emod_nonneg (x / pw f.toNat) (show pw c.toNat ≠ 0 by omega)
  have h2 := Int.emod_lt_of_pos (x / pw f.toNat) (show 0 < pw c.toNat by omega)
  have h3 : pw c.toNat * pw a.toNat ≤ 65536 := by
    rw [show pw c.toNat * pw a.toNat = pw (c.toNat + a.toNat) by unfold pw; rw [Int.pow_add]]
    exact pw_mono _ 16 h
  unfold putC U16
  generalize x / pw f.toNat % pw c.toNat = y at *
  have h4 := Int.mul_le_mul_of_nonneg_right (show y ≤ pw c.toNat - 1 by omega) (show 0 ≤ pw a.toNat by omega)
  rw [Int.sub_mul, Int.one_mul] at h4
  have h5 := Int.mul_nonneg h1 (show 0 ≤ pw a.toNat by omega)
  omega
theorem gat_u16 (s x : Int) : ∀ k, k ≤ 8 → U16 (gatA (spr s) x k)
  | 0, _ => show U16 0 from ⟨by decide, by decide⟩
  | k + 1, h => orI_u16 (gat_u16 s x k (by omega)) (putC_u16 (by
      have key : ∀ S : Spr, (∀ k : Fin 8, (S.c k).toNat + (S.f k).toNat ≤ 16) → ∀ k, k < 8 → (S.c k).toNat + (S.f k).toNat ≤ 16 := fun S h k hk => h ⟨k, hk⟩
      refine key (spr s) ?_ k (by omega)
      unfold spr
      repeat' split
      all_goals decide))
theorem sputA_u16 (s x : Int) : ∀ k, k ≤ 8 → U16 (sputA (spr s) x k)
  | 0, _ => show U16 0 from ⟨by decide, by decide⟩
  | k + 1, h => orI_u16 (sputA_u16 s x k (by omega)) (putC_u16 (by
      have key : ∀ S : Spr, (∀ k : Fin 8, (S.c k).toNat + (S.a k).toNat ≤ 16) → ∀ k, k < 8 → (S.c k).toNat + (S.a k).toNat ≤ 16 := fun S h k hk => h ⟨k, hk⟩
      refine key (spr s) ?_ k (by omega)
      unfold spr
      repeat' split
      all_goals decide))
theorem u16_32 {a : Int} (h : U16 a) : U32 a := ⟨h.1, by have := h.2; omega⟩
/-- Each letter of a text of 16 against a mask and its bits. -/
def okS16 (m v : Nat) : List UInt8 → Bool
  | [] => true
  | c :: l => (m.testBit l.length == ((c.toNat : Int) == 48 || (c.toNat : Int) == 49)) && (v.testBit l.length == ((c.toNat : Int) == 49)) && okS16 m v l
theorem okS16_all {k : Nat} (hk : k < 26) : okS16 (rowC k).mask.toNat (rowC k).bits.toNat (shortR k).bits = true := by
  have : ∀ j : Fin 26, okS16 (rowC j).mask.toNat (rowC j).bits.toNat (shortR j).bits = true := by decide +kernel
  exact this ⟨k, hk⟩
theorem op_same {k : Nat} (hk : k < 26) : (rowC k).op = (shortR k).op := by
  have : ∀ j : Fin 26, (rowC j).op = (shortR j).op := by decide +kernel
  exact this ⟨k, hk⟩
theorem not_all {k : Nat} (hk : k < 26) : (rowC k).not' = 0 ∨ (rowC k).not' = 1 ∨ (rowC k).not' = 2 ∨ (rowC k).not' = 5 ∨ (rowC k).not' = 8 ∨ (rowC k).not' = 16 := by
  have : ∀ j : Fin 26, (rowC j).not' = 0 ∨ (rowC j).not' = 1 ∨ (rowC j).not' = 2 ∨ (rowC j).not' = 5 ∨ (rowC j).not' = 8 ∨ (rowC j).not' = 16 := by decide +kernel
  exact this ⟨k, hk⟩
theorem matchS_iff {x : Int} {m v : Nat} : ∀ {l : List UInt8}, okS16 m v l = true → (matchL x l = true ↔ ∀ i, i < l.length → ((x % 4294967296).toNat &&& m).testBit i = v.testBit i)
  | [], _ => by simp [matchL]
  | c :: l, h => by
    unfold okS16 at h
    simp only [Bool.and_eq_true, beq_iff_eq] at h
    obtain ⟨⟨h1, h2⟩, h3⟩ := h
    have ih := matchS_iff (x := x) h3
    have hm : (!miss c (bt x l.length)) = true ↔ ((x % 4294967296).toNat &&& m).testBit l.length = v.testBit l.length := by
      rw [bt_nat, miss_bit, Nat.testBit_and, h1, h2]
      generalize (x % 4294967296).toNat.testBit l.length = b
      by_cases h0 : (c.toNat : Int) = 48
      · rw [h0]; cases b <;> decide
      · by_cases h1 : (c.toNat : Int) = 49
        · rw [h1]; cases b <;> decide
        · have e0 : ((c.toNat : Int) == 48) = false := by simpa using h0
          have e1 : ((c.toNat : Int) == 49) = false := by simpa using h1
          rw [e0, e1]; cases b <;> decide
    unfold matchL
    rw [Bool.and_eq_true, hm, ih, List.length_cons]
    constructor
    · intro ⟨ha, hb⟩ i hi
      by_cases e : i = l.length
      · subst e; exact ha
      · exact hb i (by omega)
    · intro ha
      exact ⟨ha _ (by omega), fun i hi => ha i (by omega)⟩
theorem matchS_eq {x : Int} (x0 : 0 ≤ x) (x1 : x < 65536) {k : Nat} (hk : k < 26) : matchS (rowC k) x = matchL x (shortR k).bits := by
  have hi := matchS_iff (x := x) (okS16_all hk)
  rw [short_len hk, show x % 4294967296 = x by omega] at hi
  have hr := row_ok hk
  have h1 : x.toNat &&& (rowC k).mask.toNat < 2 ^ 16 := Nat.lt_of_le_of_lt Nat.and_le_left (by omega)
  have h2 : (rowC k).bits.toNat < 2 ^ 16 := by have := hr.bits; omega
  rw [Bool.eq_iff_iff, hi]
  unfold matchS andI
  rw [beq_iff_eq]
  constructor
  · intro h i _
    rw [← h, Int.toNat_natCast]
  · intro h
    have e : x.toNat &&& (rowC k).mask.toNat = (rowC k).bits.toNat := by
      apply Nat.eq_of_testBit_eq
      intro i
      by_cases hi : i < 16
      · exact h i hi
      · rw [Nat.testBit_lt_two_pow (Nat.lt_of_lt_of_le h1 (Nat.pow_le_pow_right (by decide) (by omega))), Nat.testBit_lt_two_pow (Nat.lt_of_lt_of_le h2 (Nat.pow_le_pow_right (by decide) (by omega)))]
    rw [e]
    have := hr.bits
    omega
end Hm
