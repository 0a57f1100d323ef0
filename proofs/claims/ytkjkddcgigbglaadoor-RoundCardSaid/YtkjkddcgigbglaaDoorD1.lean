/-
  Walks: package hart's Legal, Encode, Decode; hartlaw's num.
-/
import Derived.Test.YtkjkddcgigbglaaDoorC7
import Derived.Test.YtkjkddcgigbglaaDoorLA
set_option linter.unusedVariables false
set_option linter.unusedSimpArgs false
namespace Go.Proofs.YtkjkddcgigbglaaDoor
open Go.RowKit

theorem hlay : LayoutOf := fun f w h0 h1 => layoutOf_any f w h0 h1

set_option maxRecDepth 100000 in
set_option maxHeartbeats 1000000 in
theorem hLegal (op rd rs1 rs2 imm : Int) (w : World) (ht : Tab w) :
    Calls Tryd.prog 5 #[.agg #[.int .i64 op, .int .i64 rd, .int .i64 rs1, .int .i64 rs2, .int .i64 imm]] w fun e w' => e = .returned (.bool (Hm.legalC op rd rs1 rs2 imm)) ∧ Below w.heap.size w w' := by
  have HT : Hid (Tab w) := ht
  clear ht
  go_enter Tryd.func5, Tryd.ntmps5
  go_wp2_with fail
  refine (legal_any hlay _ _ _ _ _ _ (HT.out.alloc _)).mono ?_
  rintro e w1 ⟨rfl, hb⟩
  have HB : Hid (Below w.heap.size w w1) := ((Below.refl _ _).alloc (Nat.le_refl _) _).trans (hb.mono (by simp))
  clear hb
  go_wp2
  go_ret
  exact ⟨rfl, HB.out⟩

set_option maxRecDepth 100000 in
set_option maxHeartbeats 1000000 in
theorem hEncode (op rd rs1 rs2 imm : Int) (w : World) (ht : Tab w) :
    Calls Tryd.prog 7 #[.agg #[.int .i64 op, .int .i64 rd, .int .i64 rs1, .int .i64 rs2, .int .i64 imm]] w fun e w' => e = .returned (.tuple #[.int .u32 (Hm.encC op rd rs1 rs2 imm), .int .i64 (Hm.errC op rd rs1 rs2 imm)]) ∧ Below w.heap.size w w' := by
  have HT : Hid (Tab w) := ht
  clear ht
  go_enter Tryd.func7, Tryd.ntmps7
  go_wp2_with fail
  refine (encode_any hlay _ _ _ _ _ _ (HT.out.alloc _)).mono ?_
  rintro e w1 ⟨rfl, hb⟩
  have HB : Hid (Below w.heap.size w w1) := ((Below.refl _ _).alloc (Nat.le_refl _) _).trans (hb.mono (by simp))
  clear hb
  go_wp2
  go_ret2
  exact ⟨rfl, HB.out⟩

set_option maxRecDepth 100000 in
set_option maxHeartbeats 1000000 in
theorem hDecode (x : Int) (w : World) (ht : Tab w) (x0 : 0 ≤ x) (x1 : x < 4294967296) :
    Calls Tryd.prog 9 #[.int .u32 x] w fun e w' => e = .returned (decVal (Hm.decC x)) ∧ Below w.heap.size w w' := by
  have HT : Hid (Tab w) := ht
  clear ht
  go_enter Tryd.func9, Tryd.ntmps9
  go_wp2_with fail
  refine (decode_any hlay _ _ (HT.out.alloc _) x0 x1).mono ?_
  rintro e w1 ⟨rfl, hb⟩
  have hat := (DecAt.start w).step hb (by simp)
  have r0 := hat.out 0 (by omega)
  have r1 := hat.out 1 (by omega)
  have r2 := hat.out 2 (by omega)
  have r3 := hat.out 3 (by omega)
  have r4 := hat.out 4 (by omega)
  have hfr := hat.free
  have HB : Hid (Below w.heap.size w w1) := hat.below
  clear hb hat
  unfold decVal
  go_wp2
  exact bodyPost_ret (v := decVal (Hm.decC x)) (by simp [results, Tryd.results9, go_sem, decVal, r0, r1, r2, r3, r4]) rfl ⟨rfl, below_five HB.out _ _ _ _ _⟩

set_option maxHeartbeats 400000 in
theorem num_any (n : Int) (w : World) :
    Calls Tryd.prog 11 #[.int .i64 n] w fun e w' => e = .returned (.int .i64 n) ∧ w' = w := by
  go_enter Tryd.func11, Tryd.ntmps11
  go_wp2
  go_ret
  exact ⟨rfl, rfl⟩
end Go.Proofs.YtkjkddcgigbglaaDoor
