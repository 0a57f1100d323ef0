/-
  The plain functions that hartref's functions come to, and small laws on them. Nothing of the dump is imported.
-/
set_option linter.unusedVariables false
set_option linter.unusedSimpArgs false
namespace Hm

def pw (k : Nat) : Int := 2 ^ k
theorem pw_zero : pw 0 = 1 := rfl
theorem pw_succ (k : Nat) : pw (k + 1) = 2 * pw k := by unfold pw; rw [Int.pow_succ]; omega
theorem pw_pos (k : Nat) : 1 ≤ pw k := by
  induction k with
  | zero => decide
  | succ k ih => rw [pw_succ]; omega
theorem pw_mono (a b : Nat) (h : a ≤ b) : pw a ≤ pw b := by
  induction b with
  | zero => obtain rfl : a = 0 := by omega
            exact Int.le_refl _
  | succ b ih =>
    by_cases e : a = b + 1
    · subst e; exact Int.le_refl _
    · have := ih (by omega); have := pw_pos b; rw [pw_succ]; omega
theorem pw_le (k : Nat) (h : k ≤ 40) : pw k ≤ 1099511627776 := by
  have := pw_mono k 40 h
  have e : pw 40 = 1099511627776 := by decide
  omega

/-- A bit of a number that may be below 0. -/
def bt (n : Int) (i : Nat) : Int := n % 4294967296 / pw i % 2
theorem bt_01 (n : Int) (i : Nat) : bt n i = 0 ∨ bt n i = 1 := by unfold bt; omega

def hasB (l : List UInt8) (b : Int) : Bool := l.any fun c => (c.toNat : Int) == b
def cnt (l : List UInt8) (b : Int) : Nat := (l.filter fun c => (c.toNat : Int) == b).length

/-- The highest letter below 65 + k. -/
def hiTo (l : List UInt8) : Nat → Int
  | 0 => -1
  | k + 1 => if hasB l (65 + k) then k else hiTo l k
def hi (l : List UInt8) : Int := hiTo l 21

def kindC (d t : Bool) (top : Int) : Int :=
  if top = 20 then 74 else if top = 19 then 85 else if top = 12 then 66 else if top = 11 then (if t then 83 else 73) else if top = 4 then 72 else if d then 82 else 78
def kind (l : List UInt8) : Int := kindC (hasB l 100) (hasB l 116) (hi l)

def fitsB (k n : Int) : Bool :=
  if k = 73 ∨ k = 83 then decide (-2048 ≤ n ∧ n < 2048)
  else if k = 72 then decide (0 ≤ n ∧ n < 32)
  else if k = 66 then decide (-4096 ≤ n ∧ n < 4096 ∧ n % 2 = 0)
  else if k = 85 then decide (0 ≤ n ∧ n < 1048576)
  else if k = 74 then decide (-1048576 ≤ n ∧ n < 1048576 ∧ n % 2 = 0)
  else decide (n = 0)

def regB (n : Int) (used : Bool) : Bool := decide (n = 0 ∨ (used = true ∧ 0 < n ∧ n < 32))

/-- A number, of which a bit is the sign. -/
def sgn (n : Int) (top : Nat) : Int := if bt n top = 1 then n - 2 * pw top else n
theorem sgn_0 {n : Int} {top : Nat} (h : bt n top = 0) : sgn n top = n := by unfold sgn; rw [h]; rfl
theorem sgn_1 {n : Int} {top : Nat} (h : bt n top = 1) : sgn n top = n - 2 * pw top := by unfold sgn; rw [if_pos h]

theorem cnt_cons (c : UInt8) (l : List UInt8) (b : Int) : cnt (c :: l) b = cnt l b + if ((c.toNat : Int) == b) = true then 1 else 0 := by
  unfold cnt
  by_cases h : ((c.toNat : Int) == b) = true <;> simp [List.filter_cons, h]
theorem cnt_le (l : List UInt8) (b : Int) : cnt l b ≤ l.length := List.length_filter_le _ _

/-- What a letter of a text of bits stands for; 'l': what stands behind it. -/
def fbit (d r t imm : Int) (c : UInt8) (l : List UInt8) : Int :=
  if (c.toNat : Int) = 49 then 1 else if (c.toNat : Int) = 100 then bt d (cnt l 100) else if (c.toNat : Int) = 115 then bt r (cnt l 115)
  else if (c.toNat : Int) = 116 then bt t (cnt l 116) else if 65 ≤ (c.toNat : Int) ∧ (c.toNat : Int) ≤ 85 then bt imm ((c.toNat : Int) - 65).toNat else 0
def fill (d r t imm : Int) : List UInt8 → Int → Int
  | [], w => w
  | c :: l, w => fill d r t imm l (2 * w + fbit d r t imm c l)
theorem fbit_01 (d r t imm : Int) (c : UInt8) (l : List UInt8) : fbit d r t imm c l = 0 ∨ fbit d r t imm c l = 1 := by
  unfold fbit
  repeat' split
  all_goals first | exact bt_01 _ _ | simp

/-- One letter read: the fields so far, the bit. -/
structure Flds where
  d : Int
  r : Int
  t : Int
  imm : Int
def rstep (f : Flds) (c : UInt8) (b : Int) : Flds :=
  if (c.toNat : Int) = 100 then { f with d := 2 * f.d + b } else if (c.toNat : Int) = 115 then { f with r := 2 * f.r + b }
  else if (c.toNat : Int) = 116 then { f with t := 2 * f.t + b } else if 65 ≤ (c.toNat : Int) ∧ (c.toNat : Int) ≤ 85 then { f with imm := f.imm + b * pw ((c.toNat : Int) - 65).toNat } else f
def miss (c : UInt8) (b : Int) : Bool := ((c.toNat : Int) == 48 || (c.toNat : Int) == 49) && b != (c.toNat : Int) - 48
/-- The fields of a number by a text of bits; none: its 0 and 1 are others. -/
def rd (w : Int) : List UInt8 → Flds → Option Flds
  | [], f => some f
  | c :: l, f => if miss c (bt w l.length) then none else rd w l (rstep f c (bt w l.length))

theorem hiTo_bd (l : List UInt8) (k : Nat) : -1 ≤ hiTo l k ∧ hiTo l k < k := by
  induction k with
  | zero => simp [hiTo]
  | succ k ih => unfold hiTo; split <;> omega
theorem hi_bd (l : List UInt8) : -1 ≤ hi l ∧ hi l ≤ 20 := by have := hiTo_bd l 21; unfold hi; omega
theorem hiTo_none {l : List UInt8} : ∀ {k : Nat}, hiTo l k < 0 → ∀ j, j < k → hasB l (65 + (j : Int)) = false
  | 0, _, j, hj => by omega
  | k + 1, h, j, hj => by
    unfold hiTo at h
    cases hb : hasB l (65 + (k : Int)) with
    | true => rw [hb] at h; simp at h; omega
    | false =>
      rw [hb] at h
      by_cases e : j = k
      · subst e; exact hb
      · exact hiTo_none (by simpa using h) j (by omega)
theorem no_letter {l : List UInt8} (h : hi l < 0) : ∀ c ∈ l, ¬ (65 ≤ (c.toNat : Int) ∧ (c.toNat : Int) ≤ 85) := by
  intro c hc hl
  have := hiTo_none h (c.toNat - 65) (by omega)
  unfold hasB at this
  rw [List.any_eq_false] at this
  have := this c hc
  simp at this
  omega
theorem rstep_imm {f : Flds} {c : UInt8} {b : Int} (h : ¬ (65 ≤ (c.toNat : Int) ∧ (c.toNat : Int) ≤ 85)) : (rstep f c b).imm = f.imm := by
  unfold rstep
  repeat' split
  all_goals first | rfl | contradiction
theorem rd_imm_no {x : Int} : ∀ {l : List UInt8} {f g : Flds}, (∀ c ∈ l, ¬ (65 ≤ (c.toNat : Int) ∧ (c.toNat : Int) ≤ 85)) → rd x l f = some g → g.imm = f.imm
  | [], f, g, _, h => by cases h; rfl
  | c :: l, f, g, hl, h => by
    unfold rd at h
    split at h
    · cases h
    · rw [rd_imm_no (fun c hc => hl c (List.mem_cons_of_mem _ hc)) h]
      exact rstep_imm (hl c List.mem_cons_self)
theorem rstep_bd {f : Flds} {c : UInt8} {x : Int} {i : Nat} : f.imm ≤ (rstep f c (bt x i)).imm ∧ (rstep f c (bt x i)).imm ≤ f.imm + 1048576 := by
  by_cases h : 65 ≤ (c.toNat : Int) ∧ (c.toNat : Int) ≤ 85
  · have e : (rstep f c (bt x i)).imm = f.imm + bt x i * pw ((c.toNat : Int) - 65).toNat := by
      unfold rstep; rw [if_neg (by omega), if_neg (by omega), if_neg (by omega), if_pos h]
    have h1 := bt_01 x i
    have h2 : pw ((c.toNat : Int) - 65).toNat ≤ pw 20 := pw_mono _ _ (by omega)
    have h3 := pw_pos ((c.toNat : Int) - 65).toNat
    have h4 : pw 20 = 1048576 := by decide
    rw [e]
    rcases h1 with h1 | h1 <;> rw [h1] <;> simp <;> omega
  · rw [rstep_imm h]; omega
theorem rd_bd {x : Int} : ∀ {l : List UInt8} {f g : Flds}, rd x l f = some g → f.imm ≤ g.imm ∧ g.imm ≤ f.imm + l.length * 1048576
  | [], f, g, h => by cases h; simp
  | c :: l, f, g, h => by
    unfold rd at h
    split at h
    · cases h
    · have h1 := rd_bd h
      have h2 := @rstep_bd f c x l.length
      simp only [List.length_cons]
      omega

def immR (l : List UInt8) (imm : Int) : Int := if kind l ≠ 85 ∧ kind l ≠ 72 ∧ 0 < imm then sgn imm (hi l).toNat else imm

end Hm
