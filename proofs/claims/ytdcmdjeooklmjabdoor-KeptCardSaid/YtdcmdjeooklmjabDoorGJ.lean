/-
  W5 W6 W7 W0 in one text.
-/
import Derived.Test.YtdcmdjeooklmjabDoorGI
import Derived.Test.YtdcmdjeooklmjabDoorGA
import Derived.BigQuiet
import Derived.Test.YtdcmdjeooklmjabDoorGH
set_option linter.unusedVariables false
set_option linter.unusedSimpArgs false
/-
  Walks: hartref's Read.
-/
namespace Go.Proofs.YtdcmdjeooklmjabDoor
open Go.RowKit

def rdVal : Option Hm.Flds → Value
  | none => .tuple #[.int .i64 0, .int .i64 0, .int .i64 0, .int .i64 0, .bool false]
  | some f => .tuple #[.int .i64 f.d, .int .i64 f.r, .int .i64 f.t, .int .i64 f.imm, .bool true]

/-- What holds behind k letters. -/
def ReadAt (x : Int) (s : ByteArray) (k : Nat) (d r t imm : Int) : Prop :=
  (0 ≤ d ∧ d < Hm.pw k) ∧ (0 ≤ r ∧ r < Hm.pw k) ∧ (0 ≤ t ∧ t < Hm.pw k) ∧ (0 ≤ imm ∧ imm ≤ k * 1048576) ∧ Hm.rd x (s.data.toList.drop k) ⟨d, r, t, imm⟩ = Hm.rd x s.data.toList ⟨0, 0, 0, 0⟩

theorem drop_len (s : ByteArray) (k : Nat) : (s.data.toList.drop k).length = s.size - k := by simp

theorem rd_step {x : Int} {s : ByteArray} {k : Nat} (f : Hm.Flds) (hk : k < s.size) (hm : Hm.miss s[k] (Hm.bt x (s.size - (k + 1))) = false) :
    Hm.rd x (s.data.toList.drop k) f = Hm.rd x (s.data.toList.drop (k + 1)) (Hm.rstep f s[k] (Hm.bt x (s.size - (k + 1)))) := by
  rw [drop_cons s k hk, Hm.rd, drop_len, hm]; simp
theorem rd_miss {x : Int} {s : ByteArray} {k : Nat} (f : Hm.Flds) (hk : k < s.size) (hm : Hm.miss s[k] (Hm.bt x (s.size - (k + 1))) = true) :
    Hm.rd x (s.data.toList.drop k) f = none := by
  rw [drop_cons s k hk, Hm.rd, drop_len, hm]; simp

theorem ReadAt.next {x : Int} {s : ByteArray} {k : Nat} {d r t imm d' r' t' imm' : Int} (h : ReadAt x s k d r t imm) (hk : k < s.size) (hm : Hm.miss s[k] (Hm.bt x (s.size - (k + 1))) = false)
    (he : Hm.rstep ⟨d, r, t, imm⟩ s[k] (Hm.bt x (s.size - (k + 1))) = ⟨d', r', t', imm'⟩)
    (hd : d' = d ∨ d' = 2 * d + Hm.bt x (s.size - (k + 1))) (hr : r' = r ∨ r' = 2 * r + Hm.bt x (s.size - (k + 1))) (ht : t' = t ∨ t' = 2 * t + Hm.bt x (s.size - (k + 1)))
    (hi : imm ≤ imm' ∧ imm' ≤ imm + 1048576) : ReadAt x s (k + 1) d' r' t' imm' := by
  obtain ⟨h1, h2, h3, h4, h5⟩ := h
  have h01 := Hm.bt_01 x (s.size - (k + 1))
  have hp := Hm.pw_pos k
  refine ⟨?_, ?_, ?_, ?_, ?_⟩
  · rw [Hm.pw_succ]; omega
  · rw [Hm.pw_succ]; omega
  · rw [Hm.pw_succ]; omega
  · omega
  · rw [← h5, rd_step _ hk hm, he]

theorem miss_no {c : UInt8} {b : Int} (h0 : ¬ (c.toNat : Int) = 48) (h1 : ¬ (c.toNat : Int) = 49) : Hm.miss c b = false := by
  simp [Hm.miss, h0, h1]
theorem miss_0 {c : UInt8} {b : Int} (h : (c.toNat : Int) = 48) : Hm.miss c b = (b != 0) := by
  simp [Hm.miss, h]
theorem miss_1 {c : UInt8} {b : Int} (h : (c.toNat : Int) = 49) : Hm.miss c b = (b != 1) := by
  simp [Hm.miss, h]
theorem rstep_01 {f : Hm.Flds} {c : UInt8} {b : Int} (h : (c.toNat : Int) = 48 ∨ (c.toNat : Int) = 49) : Hm.rstep f c b = f := by
  unfold Hm.rstep
  rw [if_neg (by omega), if_neg (by omega), if_neg (by omega), if_neg (by omega)]

end Go.Proofs.YtdcmdjeooklmjabDoor

/-
  Walks: hartref's bits.
-/
namespace Go.Proofs.YtdcmdjeooklmjabDoor
open Go.RowKit

theorem cells_of_row {c : Array Value} (f : Nat → Value) (n : Nat) (h : c = ((List.range n).map f).toArray) (w : World) (t : TypeId) (k : Nat) (hk : k < n) :
    (w.alloc (.cells c t)).cell? ⟨w.heap.size, k, none⟩ = some (f k) := by
  rw [World.cell?_alloc_new, h]
  simp [hk]

end Go.Proofs.YtdcmdjeooklmjabDoor

/-
  Walks: hartref's Legal.
-/
namespace Go.Proofs.YtdcmdjeooklmjabDoor
open Go.RowKit

theorem bcell {B : Nat} {W w1 : World} (hb : Below B W w1) : (∀ b o, b < B → w1.cell? ⟨b, o, none⟩ = W.cell? ⟨b, o, none⟩) :=
  fun b o h => hb.cell (p := ⟨b, o, none⟩) h

theorem legalR_no {op rd rs1 rs2 imm : Int} (h : op < 1 ∨ 48 < op) : Hm.legalR op rd rs1 rs2 imm = false := by
  unfold Hm.legalR; rw [if_neg (by omega)]
theorem legalR_yes {op rd rs1 rs2 imm : Int} (h : 1 ≤ op ∧ op ≤ 48) : Hm.legalR op rd rs1 rs2 imm = (Hm.regB rd (Hm.hasB (Hm.bitsL op.toNat) 100) && Hm.regB rs1 (Hm.hasB (Hm.bitsL op.toNat) 115) && Hm.regB rs2 (Hm.hasB (Hm.bitsL op.toNat) 116) && Hm.fitsB (Hm.kind (Hm.bitsL op.toNat)) imm) := by
  unfold Hm.legalR; rw [if_pos h]

end Go.Proofs.YtdcmdjeooklmjabDoor

/-
  Small things that many walks use.
-/
namespace Go.Proofs.YtdcmdjeooklmjabDoor
open Go.RowKit

theorem ret_ints2 {k j : IntKind} {a a' b b' : Int} (h1 : a = a') (h2 : b = b') : Ending.returned (.tuple #[.int k a, .int j b]) = .returned (.tuple #[.int k a', .int j b']) := by rw [h1, h2]

/-- A number of Go's int. -/
def I64 (n : Int) : Prop := -9223372036854775807 - 1 ≤ n ∧ n ≤ 9223372036854775807

end Go.Proofs.YtdcmdjeooklmjabDoor
