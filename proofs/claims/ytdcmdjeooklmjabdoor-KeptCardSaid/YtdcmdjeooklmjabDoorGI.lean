/-
  W1 W2 W3 W4 in one text.
-/
import Derived.Test.YtdcmdjeooklmjabDoorChecked
import Derived.Test.YtdcmdjeooklmjabDoorGA
import Derived.WalkKit
import Derived.WalkSpells
import Derived.WalkLawsBesides
set_option linter.unusedVariables false
set_option linter.unusedSimpArgs false
/-
  Walks: hartref's leaves: power, bit, has, count.
-/
namespace Go.Proofs.YtdcmdjeooklmjabDoor
open Go.RowKit

theorem ret_int {k : IntKind} {a b : Int} (h : a = b) : Ending.returned (.int k a) = .returned (.int k b) := by rw [h]

theorem ret_bool {a b : Bool} (h : a = b) : Ending.returned (.bool a) = .returned (.bool b) := by rw [h]

theorem take_snoc (s : ByteArray) (k : Nat) (h : k < s.size) : s.data.toList.take (k + 1) = s.data.toList.take k ++ [s[k]] := by
  rw [List.take_succ_eq_append_getElem (by simpa using h)]; rfl

theorem hasB_snoc (l : List UInt8) (c : UInt8) (b : Int) : Hm.hasB (l ++ [c]) b = (Hm.hasB l b || ((c.toNat : Int) == b)) := by
  simp [Hm.hasB]
theorem cnt_snoc (l : List UInt8) (c : UInt8) (b : Int) : Hm.cnt (l ++ [c]) b = Hm.cnt l b + if ((c.toNat : Int) == b) = true then 1 else 0 := by
  unfold Hm.cnt
  rw [List.filter_append, List.length_append]
  by_cases h : ((c.toNat : Int) == b) = true <;> simp [List.filter_cons, h]
theorem cnt_le (l : List UInt8) (b : Int) : Hm.cnt l b ≤ l.length := List.length_filter_le _ _
theorem take_all (s : ByteArray) (k : Nat) (h : s.size ≤ k) : s.data.toList.take k = s.data.toList := List.take_of_length_le (by simpa using h)
theorem hasB_true {s : ByteArray} {k : Nat} {b : Int} (h : k < s.size) (hb : ((s[k].toNat : Int) == b) = true) : Hm.hasB s.data.toList b = true := by
  unfold Hm.hasB
  rw [List.any_eq_true]
  exact ⟨s[k], by rw [ByteArray.getElem_eq_getElem_data]; simp, hb⟩

end Go.Proofs.YtdcmdjeooklmjabDoor

/-
  Walks: hartref's highest, kind, register, fits, signed.
-/
namespace Go.Proofs.YtdcmdjeooklmjabDoor
open Go.RowKit

theorem kind_eq (l : List UInt8) {d t : Bool} {top : Int} (hd : Hm.hasB l 100 = d) (ht : Hm.hasB l 116 = t) (h : Hm.hi l = top) : Hm.kind l = Hm.kindC d t top := by
  unfold Hm.kind; rw [hd, ht, h]

end Go.Proofs.YtdcmdjeooklmjabDoor

/-
  Walks: hartref's fits and signed.
-/
namespace Go.Proofs.YtdcmdjeooklmjabDoor
open Go.RowKit

theorem tmod2_eq (n : Int) : (n.tmod 2 == 0) = decide (n % 2 = 0) := by
  rw [Bool.eq_iff_iff, beq_iff_eq, decide_eq_true_iff, Int.tmod_eq_emod]
  split <;> omega

def kindOk (k : Int) : Prop := k = 73 ∨ k = 83 ∨ k = 72 ∨ k = 66 ∨ k = 85 ∨ k = 74 ∨ k = 82 ∨ k = 78
theorem kind_ok (l : List UInt8) : kindOk (Hm.kind l) := by
  unfold Hm.kind Hm.kindC kindOk
  repeat' split
  all_goals decide

end Go.Proofs.YtdcmdjeooklmjabDoor

/-
  Walks: hartref's Fill.
-/
namespace Go.Proofs.YtdcmdjeooklmjabDoor
open Go.RowKit

theorem drop_cons (s : ByteArray) (k : Nat) (h : k < s.size) : s.data.toList.drop k = s[k] :: s.data.toList.drop (k + 1) := by
  rw [List.drop_eq_getElem_cons (by simpa using h)]; rfl
theorem drop_all (s : ByteArray) (k : Nat) (h : s.size ≤ k) : s.data.toList.drop k = [] := List.drop_of_length_le (by simpa using h)
theorem cntd_le (s : ByteArray) (k : Nat) (b : Int) : Hm.cnt (s.data.toList.drop k) b ≤ s.size - k := by
  have := Hm.cnt_le (s.data.toList.drop k) b
  have h2 : (s.data.toList.drop k).length = s.size - k := by simp
  omega

/-- What holds behind k letters. -/
def FillAt (d r t imm : Int) (s : ByteArray) (k : Nat) (wk : Int) : Prop := 0 ≤ wk ∧ wk < Hm.pw k ∧ Hm.fill d r t imm (s.data.toList.drop k) wk = Hm.fill d r t imm s.data.toList 0
theorem FillAt.next {d r t imm : Int} {s : ByteArray} {k : Nat} {wk b : Int} (h : FillAt d r t imm s k wk) (hk : k < s.size) (hb : Hm.fbit d r t imm s[k] (s.data.toList.drop (k + 1)) = b) :
    FillAt d r t imm s (k + 1) (2 * wk + b) := by
  obtain ⟨h0, h1, h2⟩ := h
  have h01 := Hm.fbit_01 d r t imm s[k] (s.data.toList.drop (k + 1))
  rw [hb] at h01
  refine ⟨by omega, by rw [Hm.pw_succ]; omega, ?_⟩
  rw [← h2, drop_cons s k hk]
  show _ = Hm.fill d r t imm (s.data.toList.drop (k + 1)) (2 * wk + Hm.fbit d r t imm s[k] (s.data.toList.drop (k + 1)))
  rw [hb]
theorem cntd (s : ByteArray) (k : Nat) (hk : k < s.size) (b : Int) : Hm.cnt (s.data.toList.drop k) b = Hm.cnt (s.data.toList.drop (k + 1)) b + if ((s[k].toNat : Int) == b) = true then 1 else 0 := by
  rw [drop_cons s k hk, Hm.cnt_cons]
theorem cntd_no {s : ByteArray} {k : Nat} (hk : k < s.size) {b : Int} (h : ((s[k].toNat : Int) == b) = false) : Hm.cnt (s.data.toList.drop k) b = Hm.cnt (s.data.toList.drop (k + 1)) b := by
  rw [cntd s k hk, h]; simp
theorem cntd_yes {s : ByteArray} {k : Nat} (hk : k < s.size) {b : Int} (h : (s[k].toNat : Int) = b) : Hm.cnt (s.data.toList.drop k) b = Hm.cnt (s.data.toList.drop (k + 1)) b + 1 := by
  rw [cntd s k hk, h]; simp

end Go.Proofs.YtdcmdjeooklmjabDoor
