/-
  I2 in one text.
-/
import Derived.Test.YtdcmdjeooklmjabDoorGO
import Derived.Test.YtdcmdjeooklmjabDoorGE
set_option linter.unusedVariables false
set_option linter.unusedSimpArgs false
/-
  Walks: hartkeep's pick and inst.
-/
namespace Go.Proofs.YtdcmdjeooklmjabDoor
open Go.RowKit

set_option maxHeartbeats 400000 in
theorem pick_any (c n : Int) (w : World) (hc : I64 c) (hn : 1 ≤ n) (hn1 : n ≤ 2000000) :
    Calls Tryd.prog 5 #[.int .i64 c, .int .i64 n] w fun e w' => e = .returned (.int .i64 (Hm.pickI c n)) ∧ w' = w := by
  obtain ⟨c0, c1⟩ := hc
  have hne : (n == 0) = false := by simp; omega
  by_cases h : c < 0
  · have HK : Hid (Hm.pickI c n = -(c + 1).tmod n) := by
      show _ = _
      rw [← Int.neg_tmod, Int.tmod_eq_emod_of_nonneg (by omega)]
      simp [Hm.pickI, h]
    go_enter Tryd.func5, Tryd.ntmps5
    go_wp2
    go_ret
    exact ⟨ret_int HK.out.symm, rfl⟩
  · have HK : Hid (Hm.pickI c n = c % n) := by simp [Hid, Hm.pickI, h]
    go_enter Tryd.func5, Tryd.ntmps5
    go_wp2
    go_ret
    exact ⟨ret_int HK.out.symm, rfl⟩

end Go.Proofs.YtdcmdjeooklmjabDoor
