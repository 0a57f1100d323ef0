/-
  M T C Z1 E E2 in one text.
-/
set_option linter.unusedVariables false
set_option linter.unusedSimpArgs false
/-
  The plain functions that hartref's functions come to, and small laws on them. Nothing of the dump is imported.
-/
namespace Hm

def pw (k : Nat) : Int := 2 ^ k
theorem pw_zero : pw 0 = 1 := rfl
theorem pw_succ (k : Nat) : pw (k + 1) = 2 * pw k := by unfold pw; rw [Int.pow_succ]; omega
theorem pw_pos (k : Nat) : 1 ≤ pw k := by
  induction k with
  | zero => decide
  | succ k ih => rw [pw_succ]; omega
theorem pw_mono (a b : Nat) (h : a ≤ b) : pw a ≤ pw b := by
  induction b with
  | zero => obtain rfl : a = 0 := by omega
            exact Int.le_refl _
  | succ b ih =>
    by_cases e : a = b + 1
    · subst e; exact Int.le_refl _
    · have := ih (by omega); have := pw_pos b; rw [pw_succ]; omega
theorem pw_le (k : Nat) (h : k ≤ 40) : pw k ≤ 1099511627776 := by
  have := pw_mono k 40 h
  have e : pw 40 = 1099511627776 := by decide
  omega

/-- A bit of a number that may be below 0. -/
def bt (n : Int) (i : Nat) : Int := n % 4294967296 / pw i % 2
theorem bt_01 (n : Int) (i : Nat) : bt n i = 0 ∨ bt n i = 1 := by unfold bt; omega

def hasB (l : List UInt8) (b : Int) : Bool := l.any fun c => (c.toNat : Int) == b
def cnt (l : List UInt8) (b : Int) : Nat := (l.filter fun c => (c.toNat : Int) == b).length

/-- The highest letter below 65 + k. -/
def hiTo (l : List UInt8) : Nat → Int
  | 0 => -1
  | k + 1 => if hasB l (65 + k) then k else hiTo l k
def hi (l : List UInt8) : Int := hiTo l 21

def kindC (d t : Bool) (top : Int) : Int :=
  if top = 20 then 74 else if top = 19 then 85 else if top = 12 then 66 else if top = 11 then (if t then 83 else 73) else if top = 4 then 72 else if d then 82 else 78
def kind (l : List UInt8) : Int := kindC (hasB l 100) (hasB l 116) (hi l)

def fitsB (k n : Int) : Bool :=
  if k = 73 ∨ k = 83 then decide (-2048 ≤ n ∧ n < 2048)
  else if k = 72 then decide (0 ≤ n ∧ n < 32)
  else if k = 66 then decide (-4096 ≤ n ∧ n < 4096 ∧ n % 2 = 0)
  else if k = 85 then decide (0 ≤ n ∧ n < 1048576)
  else if k = 74 then decide (-1048576 ≤ n ∧ n < 1048576 ∧ n % 2 = 0)
  else decide (n = 0)

def regB (n : Int) (used : Bool) : Bool := decide (n = 0 ∨ (used = true ∧ 0 < n ∧ n < 32))

/-- A number, of which a bit is the sign. -/
def sgn (n : Int) (top : Nat) : Int := if bt n top = 1 then n - 2 * pw top else n
theorem sgn_0 {n : Int} {top : Nat} (h : bt n top = 0) : sgn n top = n := by unfold sgn; rw [h]; rfl
theorem sgn_1 {n : Int} {top : Nat} (h : bt n top = 1) : sgn n top = n - 2 * pw top := by unfold sgn; rw [if_pos h]

theorem cnt_cons (c : UInt8) (l : List UInt8) (b : Int) : cnt (c :: l) b = cnt l b + if ((c.toNat : Int) == b) = true then 1 else 0 := by
  unfold cnt
  by_cases h : ((c.toNat : Int) == b) = true <;> simp [List.filter_cons, h]
theorem cnt_le (l : List UInt8) (b : Int) : cnt l b ≤ l.length := List.length_filter_le _ _

/-- What a letter of a text of bits stands for; 'l': what stands behind it. -/
def fbit (d r t imm : Int) (c : UInt8) (l : List UInt8) : Int :=
  if (c.toNat : Int) = 49 then 1 else if (c.toNat : Int) = 100 then bt d (cnt l 100) else if (c.toNat : Int) = 115 then bt r (cnt l 115)
  else if (c.toNat : Int) = 116 then bt t (cnt l 116) else if 65 ≤ (c.toNat : Int) ∧ (c.toNat : Int) ≤ 85 then bt imm ((c.toNat : Int) - 65).toNat else 0
def fill (d r t imm : Int) : List UInt8 → Int → Int
  | [], w => w
  | c :: l, w => fill d r t imm l (2 * w + fbit d r t imm c l)
theorem fbit_01 (d r t imm : Int) (c : UInt8) (l : List UInt8) : fbit d r t imm c l = 0 ∨ fbit d r t imm c l = 1 := by
  unfold fbit
  repeat' split
  all_goals first | exact bt_01 _ _ | simp

/-- One letter read: the fields so far, the bit. -/
structure Flds where
  d : Int
  r : Int
  t : Int
  imm : Int
def rstep (f : Flds) (c : UInt8) (b : Int) : Flds :=
  if (c.toNat : Int) = 100 then { f with d := 2 * f.d + b } else if (c.toNat : Int) = 115 then { f with r := 2 * f.r + b }
  else if (c.toNat : Int) = 116 then { f with t := 2 * f.t + b } else if 65 ≤ (c.toNat : Int) ∧ (c.toNat : Int) ≤ 85 then { f with imm := f.imm + b * pw ((c.toNat : Int) - 65).toNat } else f
def miss (c : UInt8) (b : Int) : Bool := ((c.toNat : Int) == 48 || (c.toNat : Int) == 49) && b != (c.toNat : Int) - 48
/-- The fields of a number by a text of bits; none: its 0 and 1 are others. -/
def rd (w : Int) : List UInt8 → Flds → Option Flds
  | [], f => some f
  | c :: l, f => if miss c (bt w l.length) then none else rd w l (rstep f c (bt w l.length))

theorem hiTo_bd (l : List UInt8) (k : Nat) : -1 ≤ hiTo l k ∧ hiTo l k < k := by
  induction k with
  | zero => simp [hiTo]
  | succ k ih => unfold hiTo; split <;> omega
theorem hi_bd (l : List UInt8) : -1 ≤ hi l ∧ hi l ≤ 20 := by have := hiTo_bd l 21; unfold hi; omega
theorem hiTo_none {l : List UInt8} : ∀ {k : Nat}, hiTo l k < 0 → ∀ j, j < k → hasB l (65 + (j : Int)) = false
  | 0, _, j, hj => by omega
  | k + 1, h, j, hj => by
    unfold hiTo at h
    cases hb : hasB l (65 + (k : Int)) with
    | true => rw [hb] at h; simp at h; omega
    | false =>
      rw [hb] at h
      by_cases e : j = k
      · subst e; exact hb
      · exact hiTo_none (by simpa using h) j (by omega)
theorem no_letter {l : List UInt8} (h : hi l < 0) : ∀ c ∈ l, ¬ (65 ≤ (c.toNat : Int) ∧ (c.toNat : Int) ≤ 85) := by
  intro c hc hl
  have := hiTo_none h (c.toNat - 65) (by omega)
  unfold hasB at this
  rw [List.any_eq_false] at this
  have := this c hc
  simp at this
  omega
theorem rstep_imm {f : Flds} {c : UInt8} {b : Int} (h : ¬ (65 ≤ (c.toNat : Int) ∧ (c.toNat : Int) ≤ 85)) : (rstep f c b).imm = f.imm := by
  unfold rstep
  repeat' split
  all_goals first | rfl | contradiction
theorem rd_imm_no {x : Int} : ∀ {l : List UInt8} {f g : Flds}, (∀ c ∈ l, ¬ (65 ≤ (c.toNat : Int) ∧ (c.toNat : Int) ≤ 85)) → rd x l f = some g → g.imm = f.imm
  | [], f, g, _, h => by cases h; rfl
  | c :: l, f, g, hl, h => by
    unfold rd at h
    split at h
    · cases h
    · rw [rd_imm_no (fun c hc => hl c (List.mem_cons_of_mem _ hc)) h]
      exact rstep_imm (hl c List.mem_cons_self)
theorem rstep_bd {f : Flds} {c : UInt8} {x : Int} {i : Nat} : f.imm ≤ (rstep f c (bt x i)).imm ∧ (rstep f c (bt x i)).imm ≤ f.imm + 1048576 := by
  by_cases h : 65 ≤ (c.toNat : Int) ∧ (c.toNat : Int) ≤ 85
  · have e : (rstep f c (bt x i)).imm = f.imm + bt x i * pw ((c.toNat : Int) - 65).toNat := by
      unfold rstep; rw [if_neg (by omega), if_neg (by omega), if_neg (by omega), if_pos h]
    have h1 := bt_01 x i
    have h2 : pw ((c.toNat : Int) - 65).toNat ≤ pw 20 := pw_mono _ _ (by omega)
    have h3 := pw_pos ((c.toNat : Int) - 65).toNat
    have h4 : pw 20 = 1048576 := by decide
    rw [e]
    rcases h1 with h1 | h1 <;> rw [h1] <;> simp <;> omega
  · rw [rstep_imm h]; omega
theorem rd_bd {x : Int} : ∀ {l : List UInt8} {f g : Flds}, rd x l f = some g → f.imm ≤ g.imm ∧ g.imm ≤ f.imm + l.length * 1048576
  | [], f, g, h => by cases h; simp
  | c :: l, f, g, h => by
    unfold rd at h
    split at h
    · cases h
    · have h1 := rd_bd h
      have h2 := @rstep_bd f c x l.length
      simp only [List.length_cons]
      omega

def immR (l : List UInt8) (imm : Int) : Int := if kind l ≠ 85 ∧ kind l ≠ 72 ∧ 0 < imm then sgn imm (hi l).toNat else imm

end Hm

/-
  The texts of bits of the Ops, as lists of bytes. Nothing of the dump is imported.
-/
namespace Hm
def tabL : List (List UInt8) := [
  [],
  [84, 83, 82, 81, 80, 79, 78, 77, 76, 75, 74, 73, 72, 71, 70, 69, 68, 67, 66, 65, 100, 100, 100, 100, 100, 48, 49, 49, 48, 49, 49, 49],
  [84, 83, 82, 81, 80, 79, 78, 77, 76, 75, 74, 73, 72, 71, 70, 69, 68, 67, 66, 65, 100, 100, 100, 100, 100, 48, 48, 49, 48, 49, 49, 49],
  [85, 75, 74, 73, 72, 71, 70, 69, 68, 67, 66, 76, 84, 83, 82, 81, 80, 79, 78, 77, 100, 100, 100, 100, 100, 49, 49, 48, 49, 49, 49, 49],
  [76, 75, 74, 73, 72, 71, 70, 69, 68, 67, 66, 65, 115, 115, 115, 115, 115, 48, 48, 48, 100, 100, 100, 100, 100, 49, 49, 48, 48, 49, 49, 49],
  [77, 75, 74, 73, 72, 71, 70, 116, 116, 116, 116, 116, 115, 115, 115, 115, 115, 48, 48, 48, 69, 68, 67, 66, 76, 49, 49, 48, 48, 48, 49, 49],
  [77, 75, 74, 73, 72, 71, 70, 116, 116, 116, 116, 116, 115, 115, 115, 115, 115, 48, 48, 49, 69, 68, 67, 66, 76, 49, 49, 48, 48, 48, 49, 49],
  [77, 75, 74, 73, 72, 71, 70, 116, 116, 116, 116, 116, 115, 115, 115, 115, 115, 49, 48, 48, 69, 68, 67, 66, 76, 49, 49, 48, 48, 48, 49, 49],
  [77, 75, 74, 73, 72, 71, 70, 116, 116, 116, 116, 116, 115, 115, 115, 115, 115, 49, 48, 49, 69, 68, 67, 66, 76, 49, 49, 48, 48, 48, 49, 49],
  [77, 75, 74, 73, 72, 71, 70, 116, 116, 116, 116, 116, 115, 115, 115, 115, 115, 49, 49, 48, 69, 68, 67, 66, 76, 49, 49, 48, 48, 48, 49, 49],
  [77, 75, 74, 73, 72, 71, 70, 116, 116, 116, 116, 116, 115, 115, 115, 115, 115, 49, 49, 49, 69, 68, 67, 66, 76, 49, 49, 48, 48, 48, 49, 49],
  [76, 75, 74, 73, 72, 71, 70, 69, 68, 67, 66, 65, 115, 115, 115, 115, 115, 48, 48, 48, 100, 100, 100, 100, 100, 48, 48, 48, 48, 48, 49, 49],
  [76, 75, 74, 73, 72, 71, 70, 69, 68, 67, 66, 65, 115, 115, 115, 115, 115, 48, 48, 49, 100, 100, 100, 100, 100, 48, 48, 48, 48, 48, 49, 49],
  [76, 75, 74, 73, 72, 71, 70, 69, 68, 67, 66, 65, 115, 115, 115, 115, 115, 48, 49, 48, 100, 100, 100, 100, 100, 48, 48, 48, 48, 48, 49, 49],
  [76, 75, 74, 73, 72, 71, 70, 69, 68, 67, 66, 65, 115, 115, 115, 115, 115, 49, 48, 48, 100, 100, 100, 100, 100, 48, 48, 48, 48, 48, 49, 49],
  [76, 75, 74, 73, 72, 71, 70, 69, 68, 67, 66, 65, 115, 115, 115, 115, 115, 49, 48, 49, 100, 100, 100, 100, 100, 48, 48, 48, 48, 48, 49, 49],
  [76, 75, 74, 73, 72, 71, 70, 116, 116, 116, 116, 116, 115, 115, 115, 115, 115, 48, 48, 48, 69, 68, 67, 66, 65, 48, 49, 48, 48, 48, 49, 49],
  [76, 75, 74, 73, 72, 71, 70, 116, 116, 116, 116, 116, 115, 115, 115, 115, 115, 48, 48, 49, 69, 68, 67, 66, 65, 48, 49, 48, 48, 48, 49, 49],
  [76, 75, 74, 73, 72, 71, 70, 116, 116, 116, 116, 116, 115, 115, 115, 115, 115, 48, 49, 48, 69, 68, 67, 66, 65, 48, 49, 48, 48, 48, 49, 49],
  [76, 75, 74, 73, 72, 71, 70, 69, 68, 67, 66, 65, 115, 115, 115, 115, 115, 48, 48, 48, 100, 100, 100, 100, 100, 48, 48, 49, 48, 48, 49, 49],
  [76, 75, 74, 73, 72, 71, 70, 69, 68, 67, 66, 65, 115, 115, 115, 115, 115, 48, 49, 48, 100, 100, 100, 100, 100, 48, 48, 49, 48, 48, 49, 49],
  [76, 75, 74, 73, 72, 71, 70, 69, 68, 67, 66, 65, 115, 115, 115, 115, 115, 48, 49, 49, 100, 100, 100, 100, 100, 48, 48, 49, 48, 48, 49, 49],
  [76, 75, 74, 73, 72, 71, 70, 69, 68, 67, 66, 65, 115, 115, 115, 115, 115, 49, 48, 48, 100, 100, 100, 100, 100, 48, 48, 49, 48, 48, 49, 49],
  [76, 75, 74, 73, 72, 71, 70, 69, 68, 67, 66, 65, 115, 115, 115, 115, 115, 49, 49, 48, 100, 100, 100, 100, 100, 48, 48, 49, 48, 48, 49, 49],
  [76, 75, 74, 73, 72, 71, 70, 69, 68, 67, 66, 65, 115, 115, 115, 115, 115, 49, 49, 49, 100, 100, 100, 100, 100, 48, 48, 49, 48, 48, 49, 49],
  [48, 48, 48, 48, 48, 48, 48, 69, 68, 67, 66, 65, 115, 115, 115, 115, 115, 48, 48, 49, 100, 100, 100, 100, 100, 48, 48, 49, 48, 48, 49, 49],
  [48, 48, 48, 48, 48, 48, 48, 69, 68, 67, 66, 65, 115, 115, 115, 115, 115, 49, 48, 49, 100, 100, 100, 100, 100, 48, 48, 49, 48, 48, 49, 49],
  [48, 49, 48, 48, 48, 48, 48, 69, 68, 67, 66, 65, 115, 115, 115, 115, 115, 49, 48, 49, 100, 100, 100, 100, 100, 48, 48, 49, 48, 48, 49, 49],
  [48, 48, 48, 48, 48, 48, 48, 116, 116, 116, 116, 116, 115, 115, 115, 115, 115, 48, 48, 48, 100, 100, 100, 100, 100, 48, 49, 49, 48, 48, 49, 49],
  [48, 49, 48, 48, 48, 48, 48, 116, 116, 116, 116, 116, 115, 115, 115, 115, 115, 48, 48, 48, 100, 100, 100, 100, 100, 48, 49, 49, 48, 48, 49, 49],
  [48, 48, 48, 48, 48, 48, 48, 116, 116, 116, 116, 116, 115, 115, 115, 115, 115, 48, 48, 49, 100, 100, 100, 100, 100, 48, 49, 49, 48, 48, 49, 49],
  [48, 48, 48, 48, 48, 48, 48, 116, 116, 116, 116, 116, 115, 115, 115, 115, 115, 48, 49, 48, 100, 100, 100, 100, 100, 48, 49, 49, 48, 48, 49, 49],
  [48, 48, 48, 48, 48, 48, 48, 116, 116, 116, 116, 116, 115, 115, 115, 115, 115, 48, 49, 49, 100, 100, 100, 100, 100, 48, 49, 49, 48, 48, 49, 49],
  [48, 48, 48, 48, 48, 48, 48, 116, 116, 116, 116, 116, 115, 115, 115, 115, 115, 49, 48, 48, 100, 100, 100, 100, 100, 48, 49, 49, 48, 48, 49, 49],
  [48, 48, 48, 48, 48, 48, 48, 116, 116, 116, 116, 116, 115, 115, 115, 115, 115, 49, 48, 49, 100, 100, 100, 100, 100, 48, 49, 49, 48, 48, 49, 49],
  [48, 49, 48, 48, 48, 48, 48, 116, 116, 116, 116, 116, 115, 115, 115, 115, 115, 49, 48, 49, 100, 100, 100, 100, 100, 48, 49, 49, 48, 48, 49, 49],
  [48, 48, 48, 48, 48, 48, 48, 116, 116, 116, 116, 116, 115, 115, 115, 115, 115, 49, 49, 48, 100, 100, 100, 100, 100, 48, 49, 49, 48, 48, 49, 49],
  [48, 48, 48, 48, 48, 48, 48, 116, 116, 116, 116, 116, 115, 115, 115, 115, 115, 49, 49, 49, 100, 100, 100, 100, 100, 48, 49, 49, 48, 48, 49, 49],
  [48, 48, 48, 48, 48, 48, 49, 116, 116, 116, 116, 116, 115, 115, 115, 115, 115, 48, 48, 48, 100, 100, 100, 100, 100, 48, 49, 49, 48, 48, 49, 49],
  [48, 48, 48, 48, 48, 48, 49, 116, 116, 116, 116, 116, 115, 115, 115, 115, 115, 48, 48, 49, 100, 100, 100, 100, 100, 48, 49, 49, 48, 48, 49, 49],
  [48, 48, 48, 48, 48, 48, 49, 116, 116, 116, 116, 116, 115, 115, 115, 115, 115, 48, 49, 48, 100, 100, 100, 100, 100, 48, 49, 49, 48, 48, 49, 49],
  [48, 48, 48, 48, 48, 48, 49, 116, 116, 116, 116, 116, 115, 115, 115, 115, 115, 48, 49, 49, 100, 100, 100, 100, 100, 48, 49, 49, 48, 48, 49, 49],
  [48, 48, 48, 48, 48, 48, 49, 116, 116, 116, 116, 116, 115, 115, 115, 115, 115, 49, 48, 48, 100, 100, 100, 100, 100, 48, 49, 49, 48, 48, 49, 49],
  [48, 48, 48, 48, 48, 48, 49, 116, 116, 116, 116, 116, 115, 115, 115, 115, 115, 49, 48, 49, 100, 100, 100, 100, 100, 48, 49, 49, 48, 48, 49, 49],
  [48, 48, 48, 48, 48, 48, 49, 116, 116, 116, 116, 116, 115, 115, 115, 115, 115, 49, 49, 48, 100, 100, 100, 100, 100, 48, 49, 49, 48, 48, 49, 49],
  [48, 48, 48, 48, 48, 48, 49, 116, 116, 116, 116, 116, 115, 115, 115, 115, 115, 49, 49, 49, 100, 100, 100, 100, 100, 48, 49, 49, 48, 48, 49, 49],
  [45, 45, 45, 45, 45, 45, 45, 45, 45, 45, 45, 45, 45, 45, 45, 45, 45, 48, 48, 48, 45, 45, 45, 45, 45, 48, 48, 48, 49, 49, 49, 49],
  [48, 48, 48, 48, 48, 48, 48, 48, 48, 48, 48, 48, 48, 48, 48, 48, 48, 48, 48, 48, 48, 48, 48, 48, 48, 49, 49, 49, 48, 48, 49, 49],
  [48, 48, 48, 48, 48, 48, 48, 48, 48, 48, 48, 49, 48, 48, 48, 48, 48, 48, 48, 48, 48, 48, 48, 48, 48, 49, 49, 49, 48, 48, 49, 49]]
def bitsL (k : Nat) : List UInt8 := tabL.getD k []
def bitsS (k : Nat) : ByteArray := ⟨(bitsL k).toArray⟩
theorem bitsS_list (k : Nat) : (bitsS k).data.toList = bitsL k := rfl
theorem bitsS_size (k : Nat) : (bitsS k).size ≤ 32 := by
  show (bitsL k).toArray.size ≤ 32
  rw [List.size_toArray]
  by_cases h : k < 49
  · have : ∀ j : Fin 49, (bitsL j).length ≤ 32 := by decide +kernel
    exact this ⟨k, h⟩
  · unfold bitsL
    rw [List.getD_eq_getElem?_getD, List.getElem?_eq_none (by show 49 ≤ k; omega)]
    simp
def legalR (op rd rs1 rs2 imm : Int) : Bool :=
  if 1 ≤ op ∧ op ≤ 48 then regB rd (hasB (bitsL op.toNat) 100) && regB rs1 (hasB (bitsL op.toNat) 115) && regB rs2 (hasB (bitsL op.toNat) 116) && fitsB (kind (bitsL op.toNat)) imm else false
def encR (op rd rs1 rs2 imm : Int) : Int := if legalR op rd rs1 rs2 imm then fill rd rs1 rs2 imm (bitsL op.toNat) 0 else 0
def errR (op rd rs1 rs2 imm : Int) : Int := if legalR op rd rs1 rs2 imm then 0 else 1
structure Dec where
  op : Int
  f : Flds
  err : Int
/-- The first of n Ops from k on that has these bits. -/
def decFrom (x : Int) : Nat → Nat → Dec
  | 0, _ => ⟨0, ⟨0, 0, 0, 0⟩, 2⟩
  | n + 1, k => match rd x (bitsL k) ⟨0, 0, 0, 0⟩ with
    | none => decFrom x n (k + 1)
    | some f => ⟨k, { f with imm := immR (bitsL k) f.imm }, 0⟩
def decR (x : Int) : Dec := decFrom x 48 1
theorem decFrom_none {x : Int} {n k : Nat} (h : rd x (bitsL k) ⟨0, 0, 0, 0⟩ = none) : decFrom x (n + 1) k = decFrom x n (k + 1) := by
  rw [decFrom, h]
theorem decFrom_some {x : Int} {n k : Nat} {f : Flds} (h : rd x (bitsL k) ⟨0, 0, 0, 0⟩ = some f) : decFrom x (n + 1) k = ⟨k, { f with imm := immR (bitsL k) f.imm }, 0⟩ := by
  rw [decFrom, h]
end Hm

/-
  The plain functions that package code's functions come to. Nothing of the dump is imported.
-/
namespace Hm
def fmtL : List Int := [0, 6, 6, 7, 2, 5, 5, 5, 5, 5, 5, 2, 2, 2, 2, 2, 4, 4, 4, 2, 2, 2, 2, 2, 2, 3, 3, 3, 1, 1, 1, 1, 1, 1, 1, 1, 1, 1, 1, 1, 1, 1, 1, 1, 1, 1, 9, 8, 8]
def bitL : List Int := [0, 55, 23, 111, 103, 99, 4195, 16483, 20579, 24675, 28771, 3, 4099, 8195, 16387, 20483, 35, 4131, 8227, 19, 8211, 12307, 16403, 24595, 28691, 4115, 20499, 1073762323, 51, 1073741875, 4147, 8243, 12339, 16435, 20531, 1073762355, 24627, 28723, 33554483, 33558579, 33562675, 33566771, 33570867, 33574963, 33579059, 33583155, 15, 115, 1048691]
def fmtT (k : Nat) : Int := fmtL.getD k 0
def bitT (k : Nat) : Int := bitL.getD k 0
def fmtOf (op : Int) : Int := if 1 ≤ op ∧ op ≤ 48 then fmtT op.toNat else 0
def bitOf (op : Int) : Int := if 1 ≤ op ∧ op ≤ 48 then bitT op.toNat else 0

structure Lay where
  rd : Bool
  rs1 : Bool
  rs2 : Bool
  least : Int
  most : Int
  even : Bool
  f0 : Int
  c0 : Int
  a0 : Int
  f1 : Int
  c1 : Int
  a1 : Int
  f2 : Int
  c2 : Int
  a2 : Int
  f3 : Int
  c3 : Int
  a3 : Int
def layR : Lay := ⟨true, true, true, 0, 0, false, 0, 0, 0, 0, 0, 0, 0, 0, 0, 0, 0, 0⟩
def layI : Lay := ⟨true, true, false, -2048, 2047, false, 0, 12, 20, 0, 0, 0, 0, 0, 0, 0, 0, 0⟩
def layH : Lay := ⟨true, true, false, 0, 31, false, 0, 5, 20, 0, 0, 0, 0, 0, 0, 0, 0, 0⟩
def layS : Lay := ⟨false, true, true, -2048, 2047, false, 5, 7, 25, 0, 5, 7, 0, 0, 0, 0, 0, 0⟩
def layB : Lay := ⟨false, true, true, -4096, 4094, true, 12, 1, 31, 5, 6, 25, 1, 4, 8, 11, 1, 7⟩
def layU : Lay := ⟨true, false, false, 0, 1048575, false, 0, 20, 12, 0, 0, 0, 0, 0, 0, 0, 0, 0⟩
def layJ : Lay := ⟨true, false, false, -1048576, 1048574, true, 20, 1, 31, 1, 10, 21, 11, 1, 20, 12, 8, 12⟩
def layN : Lay := ⟨false, false, false, 0, 0, false, 0, 0, 0, 0, 0, 0, 0, 0, 0, 0, 0, 0⟩
def lay (f : Int) : Lay := if f = 1 then layR else if f = 2 then layI else if f = 3 then layH else if f = 4 then layS else if f = 5 then layB else if f = 6 then layU else if f = 7 then layJ else layN

def fitsC (n : Int) (u : Bool) : Bool := if u then decide (0 ≤ n ∧ n < 32) else decide (n = 0)
def holdsC (least most : Int) (even : Bool) (n : Int) : Bool := decide (least ≤ n ∧ n ≤ most ∧ ¬ (even = true ∧ n % 2 ≠ 0))
def legalC (op rd rs1 rs2 imm : Int) : Bool :=
  if fmtOf op = 0 then false
  else fitsC rd (lay (fmtOf op)).rd && fitsC rs1 (lay (fmtOf op)).rs1 && fitsC rs2 (lay (fmtOf op)).rs2 && holdsC (lay (fmtOf op)).least (lay (fmtOf op)).most (lay (fmtOf op)).even imm

def tellC (f : Int) : Int := if f = 6 ∨ f = 7 then 127 else if f = 2 ∨ f = 4 ∨ f = 5 ∨ f = 9 then 28799 else if f = 1 ∨ f = 3 then 4261441663 else 4294967295
/-- The bits of x from f on, c of them, put at a. -/
def putC (f c a x : Int) : Int := x / pw f.toNat % pw c.toNat * pw a.toNat % 4294967296
def sgnC (least most n : Int) : Int := if most < n then n + 2 * least else n
def regC (x : Int) (u : Bool) : Int := if u then x % 32 else 0
theorem fmt_bd (op : Int) : 0 ≤ fmtOf op ∧ fmtOf op ≤ 9 := by
  unfold fmtOf
  split
  · rename_i h
    have : ∀ j : Fin 49, 0 ≤ fmtT j ∧ fmtT j ≤ 9 := by decide +kernel
    exact this ⟨op.toNat, by omega⟩
  · decide
theorem bit_bd (op : Int) : 0 ≤ bitOf op ∧ bitOf op < 4294967296 := by
  unfold bitOf
  split
  · rename_i h
    have : ∀ j : Fin 49, 0 ≤ bitT j ∧ bitT j < 4294967296 := by decide +kernel
    exact this ⟨op.toNat, by omega⟩
  · decide
/-- What the walks ask of a layout's numbers. -/
structure LayOk (L : Lay) : Prop where
  f0 : 0 ≤ L.f0 ∧ L.f0 ≤ 31
  c0 : 0 ≤ L.c0 ∧ L.c0 ≤ 31
  a0 : 0 ≤ L.a0 ∧ L.a0 ≤ 31
  f1 : 0 ≤ L.f1 ∧ L.f1 ≤ 31
  c1 : 0 ≤ L.c1 ∧ L.c1 ≤ 31
  a1 : 0 ≤ L.a1 ∧ L.a1 ≤ 31
  f2 : 0 ≤ L.f2 ∧ L.f2 ≤ 31
  c2 : 0 ≤ L.c2 ∧ L.c2 ≤ 31
  a2 : 0 ≤ L.a2 ∧ L.a2 ≤ 31
  f3 : 0 ≤ L.f3 ∧ L.f3 ≤ 31
  c3 : 0 ≤ L.c3 ∧ L.c3 ≤ 31
  a3 : 0 ≤ L.a3 ∧ L.a3 ≤ 31
  least : -1048576 ≤ L.least ∧ L.least ≤ 0
  most : 0 ≤ L.most ∧ L.most ≤ 1048575
theorem lay_ok (f : Int) : LayOk (lay f) := by
  unfold lay
  repeat' split
  all_goals constructor <;> decide
end Hm

/-
  The plain mathematics: package code's Legal is the document's.
-/
namespace Hm

def kindF (f : Int) : Int := if f = 1 then 82 else if f = 2 then 73 else if f = 3 then 72 else if f = 4 then 83 else if f = 5 then 66 else if f = 6 then 85 else if f = 7 then 74 else 78

theorem reg_eq (n : Int) (u : Bool) : regB n u = fitsC n u := by
  cases u
  · simp [regB, fitsC]
  · unfold regB fitsC
    rw [if_pos rfl, Bool.eq_iff_iff, decide_eq_true_iff, decide_eq_true_iff]
    simp only [true_and]
    omega

theorem imm_eq (f n : Int) (h0 : 1 ≤ f) (h1 : f ≤ 9) : fitsB (kindF f) n = holdsC (lay f).least (lay f).most (lay f).even n := by
  have hf : f = 1 ∨ f = 2 ∨ f = 3 ∨ f = 4 ∨ f = 5 ∨ f = 6 ∨ f = 7 ∨ f = 8 ∨ f = 9 := by omega
  rcases hf with rfl | rfl | rfl | rfl | rfl | rfl | rfl | rfl | rfl
  all_goals
    simp only [kindF, lay, layR, layI, layH, layS, layB, layU, layJ, layN, fitsB, holdsC]
    rw [Bool.eq_iff_iff]
    simp
    omega

structure TabOk (j : Nat) : Prop where
  f0 : 1 ≤ fmtT j
  f1 : fmtT j ≤ 9
  d : hasB (bitsL j) 100 = (lay (fmtT j)).rd
  r : hasB (bitsL j) 115 = (lay (fmtT j)).rs1
  t : hasB (bitsL j) 116 = (lay (fmtT j)).rs2
  k : kind (bitsL j) = kindF (fmtT j)
theorem tab_ok {k : Nat} (h0 : 1 ≤ k) (h1 : k ≤ 48) : TabOk k := by
  have : ∀ j : Fin 49, j.val = 0 ∨ (1 ≤ fmtT j ∧ fmtT j ≤ 9 ∧ hasB (bitsL j) 100 = (lay (fmtT j)).rd ∧ hasB (bitsL j) 115 = (lay (fmtT j)).rs1 ∧ hasB (bitsL j) 116 = (lay (fmtT j)).rs2 ∧ kind (bitsL j) = kindF (fmtT j)) := by decide +kernel
  rcases this ⟨k, by omega⟩ with h | ⟨a, b, c, d, e, f⟩
  · simp at h; omega
  · exact ⟨a, b, c, d, e, f⟩

theorem legal_eq (op rd rs1 rs2 imm : Int) : legalC op rd rs1 rs2 imm = legalR op rd rs1 rs2 imm := by
  unfold legalC legalR
  by_cases h : 1 ≤ op ∧ op ≤ 48
  · have hf : fmtOf op = fmtT op.toNat := by unfold fmtOf; rw [if_pos h]
    have ht := tab_ok (k := op.toNat) (by omega) (by omega)
    have hf1 := ht.f0
    rw [if_pos h, hf, if_neg (by omega), ht.d, ht.r, ht.t, ht.k, reg_eq, reg_eq, reg_eq, imm_eq _ _ ht.f0 ht.f1]
  · have hf : fmtOf op = 0 := by unfold fmtOf; rw [if_neg h]
    rw [if_neg h, hf, if_pos rfl]
end Hm

/-
  The plain functions that package code's Encode comes to.
-/
namespace Hm
def orI (a b : Int) : Int := ((a.toNat ||| b.toNat : Nat) : Int)
def U32 (a : Int) : Prop := 0 ≤ a ∧ a < 4294967296
theorem orI_u32 {a b : Int} (ha : U32 a) (hb : U32 b) : U32 (orI a b) := by
  have h1 : a.toNat < 2 ^ 32 := by have := ha.2; have := ha.1; omega
  have h2 : b.toNat < 2 ^ 32 := by have := hb.2; have := hb.1; omega
  have := Nat.or_lt_two_pow h1 h2
  unfold orI U32
  omega
theorem putC_u32 (f c a x : Int) : U32 (putC f c a x) := by unfold putC U32; omega
/-- What stands in the 32 bits before Imm's pieces are put. -/
def enc0 (op rd rs1 rs2 : Int) : Int := orI (orI (orI (bitOf op) (rd * 128)) (rs1 * 32768)) (rs2 * 1048576)
/-- .. behind so many pieces. -/
def encA (L : Lay) (e x : Int) : Nat → Int
  | 0 => e
  | 1 => orI e (putC L.f0 L.c0 L.a0 x)
  | 2 => orI (orI e (putC L.f0 L.c0 L.a0 x)) (putC L.f1 L.c1 L.a1 x)
  | 3 => orI (orI (orI e (putC L.f0 L.c0 L.a0 x)) (putC L.f1 L.c1 L.a1 x)) (putC L.f2 L.c2 L.a2 x)
  | _ => orI (orI (orI (orI e (putC L.f0 L.c0 L.a0 x)) (putC L.f1 L.c1 L.a1 x)) (putC L.f2 L.c2 L.a2 x)) (putC L.f3 L.c3 L.a3 x)
theorem encA_u32 {L : Lay} {e x : Int} (he : U32 e) (j : Nat) : U32 (encA L e x j) := by
  have p0 := putC_u32 L.f0 L.c0 L.a0 x
  have p1 := putC_u32 L.f1 L.c1 L.a1 x
  have p2 := putC_u32 L.f2 L.c2 L.a2 x
  have p3 := putC_u32 L.f3 L.c3 L.a3 x
  match j with
  | 0 => exact he
  | 1 => exact orI_u32 he p0
  | 2 => exact orI_u32 (orI_u32 he p0) p1
  | 3 => exact orI_u32 (orI_u32 (orI_u32 he p0) p1) p2
  | j + 4 => exact orI_u32 (orI_u32 (orI_u32 (orI_u32 he p0) p1) p2) p3
def encC (op rd rs1 rs2 imm : Int) : Int := if legalC op rd rs1 rs2 imm then encA (lay (fmtOf op)) (enc0 op rd rs1 rs2) (imm % 4294967296) 4 else 0
def errC (op rd rs1 rs2 imm : Int) : Int := if legalC op rd rs1 rs2 imm then 0 else 1

theorem fitsC_bd {n : Int} {u : Bool} (h : fitsC n u = true) : 0 ≤ n ∧ n ≤ 31 := by
  cases u <;> simp [fitsC] at h <;> omega
theorem holdsC_bd {l m n : Int} {v : Bool} (h : holdsC l m v n = true) : l ≤ n ∧ n ≤ m := by
  simp [holdsC] at h; omega
structure LegalBd (op rd rs1 rs2 imm : Int) : Prop where
  f : 1 ≤ fmtOf op
  d : 0 ≤ rd ∧ rd ≤ 31
  r : 0 ≤ rs1 ∧ rs1 ≤ 31
  t : 0 ≤ rs2 ∧ rs2 ≤ 31
  i : -1048576 ≤ imm ∧ imm ≤ 1048575
theorem legal_bd {op rd rs1 rs2 imm : Int} (h : legalC op rd rs1 rs2 imm = true) : LegalBd op rd rs1 rs2 imm := by
  unfold legalC at h
  split at h
  · cases h
  · rename_i hf
    simp only [Bool.and_eq_true] at h
    obtain ⟨⟨⟨h1, h2⟩, h3⟩, h4⟩ := h
    have hb := fmt_bd op
    have hL := lay_ok (fmtOf op)
    have h5 := holdsC_bd h4
    have := hL.least
    have := hL.most
    exact ⟨by omega, fitsC_bd h1, fitsC_bd h2, fitsC_bd h3, by omega⟩
end Hm

/-
  The plain functions that package code's Decode comes to.
-/
namespace Hm
/-- Imm's bits out of x, behind so many pieces. -/
def immA (L : Lay) (x : Int) : Nat → Int
  | 0 => 0
  | 1 => orI 0 (putC L.a0 L.c0 L.f0 x)
  | 2 => orI (orI 0 (putC L.a0 L.c0 L.f0 x)) (putC L.a1 L.c1 L.f1 x)
  | 3 => orI (orI (orI 0 (putC L.a0 L.c0 L.f0 x)) (putC L.a1 L.c1 L.f1 x)) (putC L.a2 L.c2 L.f2 x)
  | _ => orI (orI (orI (orI 0 (putC L.a0 L.c0 L.f0 x)) (putC L.a1 L.c1 L.f1 x)) (putC L.a2 L.c2 L.f2 x)) (putC L.a3 L.c3 L.f3 x)
theorem immA_u32 {L : Lay} {x : Int} (j : Nat) : U32 (immA L x j) := by
  have he : U32 0 := ⟨by decide, by decide⟩
  have p0 := putC_u32 L.a0 L.c0 L.f0 x
  have p1 := putC_u32 L.a1 L.c1 L.f1 x
  have p2 := putC_u32 L.a2 L.c2 L.f2 x
  have p3 := putC_u32 L.a3 L.c3 L.f3 x
  match j with
  | 0 => exact he
  | 1 => exact orI_u32 he p0
  | 2 => exact orI_u32 (orI_u32 he p0) p1
  | 3 => exact orI_u32 (orI_u32 (orI_u32 he p0) p1) p2
  | j + 4 => exact orI_u32 (orI_u32 (orI_u32 (orI_u32 he p0) p1) p2) p3
def immC (L : Lay) (x : Int) : Int := sgnC L.least L.most (immA L x 4)
def fldC (L : Lay) (x : Int) : Flds := ⟨regC (x / 128) L.rd, regC (x / 32768) L.rs1, regC (x / 1048576) L.rs2, immC L x⟩
def andI (a b : Int) : Int := ((a.toNat &&& b.toNat : Nat) : Int)
def matchC (x : Int) (k : Nat) : Bool := andI x (tellC (fmtT k)) == bitT k
def decCFrom (x : Int) : Nat → Nat → Dec
  | 0, _ => ⟨0, ⟨0, 0, 0, 0⟩, 2⟩
  | n + 1, k => if matchC x k then ⟨k, fldC (lay (fmtT k)) x, 0⟩ else decCFrom x n (k + 1)
def decC (x : Int) : Dec := decCFrom x 48 1
theorem decCFrom_no {x : Int} {n k : Nat} (h : matchC x k = false) : decCFrom x (n + 1) k = decCFrom x n (k + 1) := by
  rw [decCFrom, h]; rfl
theorem decCFrom_yes {x : Int} {n k : Nat} (h : matchC x k = true) : decCFrom x (n + 1) k = ⟨k, fldC (lay (fmtT k)) x, 0⟩ := by
  rw [decCFrom, h]; rfl
end Hm
