/-
  B1 BV B2 in one text.
-/
import Derived.Test.YtdcmdjeooklmjaaDoorGJ
import Derived.Test.YtdcmdjeooklmjaaDoorGL
import Derived.Test.YtdcmdjeooklmjaaDoorGB
import Derived.Deep.MidRow
set_option linter.unusedVariables false
set_option linter.unusedSimpArgs false
/-
  Walks: package code's leaves of short instructions: fieldOf, field.mask, ban.has, span.wrapped, bits.Len32.
-/
namespace Go.Proofs.YtdcmdjeooklmjaaDoor
open Go.RowKit

set_option maxHeartbeats 1000000 in
theorem fieldOf_any (p : Int) (w : World) (h0 : 0 ≤ p) (h1 : p ≤ 6) :
    Calls Tryd.prog 116 #[.int .u8 p] w fun e w' => e = .returned (.agg #[.int .u8 (Hm.fld p).at', .int .u8 (Hm.fld p).count, .int .i64 (Hm.fld p).plus]) ∧ Below w.heap.size w w' := by
  have hp : p = 0 ∨ p = 1 ∨ p = 2 ∨ p = 3 ∨ p = 4 ∨ p = 5 ∨ p = 6 := by omega
  clear h0 h1
  rcases hp with rfl | rfl | rfl | rfl | rfl | rfl | rfl
  all_goals
    go_enter Tryd.func116, Tryd.ntmps116
    go_wp2
    exact bodyPost_ret (by simp [results, Tryd.results116, go_sem]; decide) rfl ⟨rfl, (Below.refl _ _).alloc (Nat.le_refl _) _⟩

set_option maxHeartbeats 400000 in
theorem fmask_any (f c a : Int) (w : World) (hc0 : 0 ≤ c) (hc1 : c ≤ 15) :
    Calls Tryd.prog 117 #[.agg #[.int .u8 f, .int .u8 c, .int .i64 a]] w fun e w' => e = .returned (.int .u16 (Hm.pw c.toNat - 1)) ∧ Below w.heap.size w w' := by
  have HP : Hid ((2 ^ c.toNat % 65536 - 1) % 65536 = Hm.pw c.toNat - 1) := by
    have h1 := Hm.pw_pos c.toNat
    have h2 : Hm.pw c.toNat ≤ 32768 := Hm.pw_mono c.toNat 15 (by omega)
    show (Hm.pw c.toNat % 65536 - 1) % 65536 = Hm.pw c.toNat - 1
    omega
  go_enter Tryd.func117, Tryd.ntmps117
  go_wp2
  go_ret
  exact ⟨ret_int HP.out, (Below.refl _ _).alloc (Nat.le_refl _) _⟩

set_option maxHeartbeats 400000 in
theorem chas_any (b o : Int) (w : World) (hb0 : 0 ≤ b) (hb1 : b < 256) (ho0 : 0 ≤ o) (ho1 : o < 256) :
    Calls Tryd.prog 121 #[.int .u8 b, .int .u8 o] w fun e w' => e = .returned (.bool (Hm.hasN b o)) ∧ w' = w := by
  have HP : Hid ((bits .and .u8 b o != 0) = Hm.hasN b o) := by
    show _ = _
    rw [u8_and b o hb0 hb1 ho0 ho1]; rfl
  go_enter Tryd.func121, Tryd.ntmps121
  go_wp2
  go_ret
  exact ⟨ret_bool HP.out, rfl⟩

set_option maxHeartbeats 400000 in
theorem cwrapped_any (l m n : Int) (v : Bool) (w : World) (hm0 : 0 ≤ m) (hm1 : m ≤ 1048575) (hn0 : -4294967296 ≤ n) (hn1 : n < 4294967296) :
    Calls Tryd.prog 89 #[.agg #[.int .i64 l, .int .i64 m, .bool v], .int .i64 n] w fun e w' => e = .returned (.int .i64 (Hm.wrapC l m n)) ∧ Below w.heap.size w w' := by
  by_cases h : n < l
  · have HK : Hid (Hm.wrapC l m n = n + m + 1) := by simp [Hid, Hm.wrapC, h]
    go_enter Tryd.func89, Tryd.ntmps89
    go_wp2
    go_ret
    exact ⟨ret_int HK.out.symm, (Below.refl _ _).alloc (Nat.le_refl _) _⟩
  · have HK : Hid (Hm.wrapC l m n = n) := by simp [Hid, Hm.wrapC, h]
    go_enter Tryd.func89, Tryd.ntmps89
    go_wp2
    go_ret
    exact ⟨ret_int HK.out.symm, (Below.refl _ _).alloc (Nat.le_refl _) _⟩

set_option maxRecDepth 100000 in
set_option maxHeartbeats 1000000 in
theorem len32_6 (w : World) : Calls Tryd.prog 120 #[.int .u32 63] w fun e w' => e = .returned (.int .i64 6) ∧ w' = w := by
  go_enter Tryd.func120, Tryd.ntmps120
  go_wp2
  go_ret
  exact ⟨by kernel_rfl, rfl⟩
set_option maxRecDepth 100000 in
set_option maxHeartbeats 1000000 in
theorem len32_10 (w : World) : Calls Tryd.prog 120 #[.int .u32 1008] w fun e w' => e = .returned (.int .i64 10) ∧ w' = w := by
  go_enter Tryd.func120, Tryd.ntmps120
  go_wp2
  go_ret
  exact ⟨by kernel_rfl, rfl⟩
set_option maxRecDepth 100000 in
set_option maxHeartbeats 1000000 in
theorem len32_9 (w : World) : Calls Tryd.prog 120 #[.int .u32 510] w fun e w' => e = .returned (.int .i64 9) ∧ w' = w := by
  go_enter Tryd.func120, Tryd.ntmps120
  go_wp2
  go_ret
  exact ⟨by kernel_rfl, rfl⟩
set_option maxRecDepth 100000 in
set_option maxHeartbeats 1000000 in
theorem len32_12 (w : World) : Calls Tryd.prog 120 #[.int .u32 4094] w fun e w' => e = .returned (.int .i64 12) ∧ w' = w := by
  go_enter Tryd.func120, Tryd.ntmps120
  go_wp2
  go_ret
  exact ⟨by kernel_rfl, rfl⟩
theorem gat_all (s : Int) (h0 : 0 ≤ s) (h1 : s ≤ 9) (h : (Hm.spr s).signed = true) :
    (s = 2 ∧ Hm.gatA (Hm.spr s) 4294967295 8 = 63) ∨ (s = 7 ∧ Hm.gatA (Hm.spr s) 4294967295 8 = 1008) ∨ (s = 8 ∧ Hm.gatA (Hm.spr s) 4294967295 8 = 510) ∨ (s = 9 ∧ Hm.gatA (Hm.spr s) 4294967295 8 = 4094) := by
  have hs : s = 0 ∨ s = 1 ∨ s = 2 ∨ s = 3 ∨ s = 4 ∨ s = 5 ∨ s = 6 ∨ s = 7 ∨ s = 8 ∨ s = 9 := by omega
  rcases hs with rfl | rfl | rfl | rfl | rfl | rfl | rfl | rfl | rfl | rfl <;> first | (exfalso; revert h; decide) | decide
theorem len32_any (s : Int) (w : World) (h0 : 0 ≤ s) (h1 : s ≤ 9) (h : (Hm.spr s).signed = true) :
    Calls Tryd.prog 120 #[.int .u32 (Hm.gatA (Hm.spr s) 4294967295 8)] w fun e w' => e = .returned (.int .i64 (Hm.wid s)) ∧ w' = w := by
  rcases gat_all s h0 h1 h with ⟨rfl, e⟩ | ⟨rfl, e⟩ | ⟨rfl, e⟩ | ⟨rfl, e⟩ <;> rw [e]
  · exact len32_6 w
  · exact len32_10 w
  · exact len32_9 w
  · exact len32_12 w
end Go.Proofs.YtdcmdjeooklmjaaDoor

/-
  A spread's layout as a value.
-/
namespace Go.Proofs.YtdcmdjeooklmjaaDoor
def sprV (S : Hm.Spr) : Value := .agg #[.bool S.signed, .int .u8 (S.f 0), .int .u8 (S.c 0), .int .u8 (S.a 0), .int .u8 (S.f 1), .int .u8 (S.c 1), .int .u8 (S.a 1), .int .u8 (S.f 2), .int .u8 (S.c 2), .int .u8 (S.a 2), .int .u8 (S.f 3), .int .u8 (S.c 3), .int .u8 (S.a 3), .int .u8 (S.f 4), .int .u8 (S.c 4), .int .u8 (S.a 4), .int .u8 (S.f 5), .int .u8 (S.c 5), .int .u8 (S.a 5), .int .u8 (S.f 6), .int .u8 (S.c 6), .int .u8 (S.a 6), .int .u8 (S.f 7), .int .u8 (S.c 7), .int .u8 (S.a 7)]
/-- The cells from an offset on, out of the block that was made last, as the walk's list of operations meets it. -/
theorem wl_load_tail {P : Program} {ops : Array Oper} {rest : List Oper} {Q : Exit → Act → World → Prop} {a : Act} {w : World} {dst : Option Tmp} {ty ty' t : TypeId} {pos : String} {after : Array Edge} {x : Operand} {cells : Array Value} {cs : List Value} {d : TypeDesc} {o : Nat}
    (hx : a.eval x = .pointer (some ⟨w.heap.size, o, none⟩)) (hr : cells.toList.drop o = cs) (hu : P.underlying ty = some d) (hd : d.isRow = true) (hi : (P.info? ty).map (·.size) = some cs.length)
    (h : wpList P ops Q rest (a.put dst (.agg cs.toArray)) (w.alloc (.cells cells t))) : wpList P ops Q (⟨dst, .load ty x, ty', pos, after, none⟩ :: rest) a (w.alloc (.cells cells t)) :=
  wpList_load_mid rfl ty x rfl w.heap.size o hx cs d (fun j v hv => by
    rw [← hr, List.getElem?_drop] at hv
    rw [World.cell?_alloc_new]
    simpa using hv) hu hd hi h
end Go.Proofs.YtdcmdjeooklmjaaDoor

/-
  Walks: package code's spreadOf, in part (made by gen_B2.py).
-/
namespace Go.Proofs.YtdcmdjeooklmjaaDoor
open Go.RowKit

set_option maxRecDepth 100000 in
set_option maxHeartbeats 4000000 in
theorem spreadOf_0 (w : World) :
    Calls Tryd.prog 118 #[.int .u8 0] w fun e w' => e = .returned (sprV Hm.spr0) ∧ Below w.heap.size w w' := by
  go_enter Tryd.func118, Tryd.ntmps118
  go_wp2_with ((with_reducible refine' wl_store_new (cells := _) ?hx ?hy ?hi ?ho ?h1 ?h); (case hx => rfl); (case hy => rfl); (case hi => kernel_rfl); (case ho => rfl); (case h1 => kernel_rfl))
  refine bodyPost_ret (v := sprV Hm.spr0) ?_ rfl ⟨rfl, (Below.refl _ _).alloc (Nat.le_refl _) _⟩
  rw [results_cell_one Tryd.results118]
  exact run_loadVar_row _ _ 202 _ _ (0, 0) _ (heap_alloc_last w _) Tryd.underlying202 rfl (by kernel_rfl)

set_option maxRecDepth 100000 in
set_option maxHeartbeats 4000000 in
theorem spreadOf_1 (w : World) :
    Calls Tryd.prog 118 #[.int .u8 1] w fun e w' => e = .returned (sprV Hm.spr1) ∧ Below w.heap.size w w' := by
  go_enter Tryd.func118, Tryd.ntmps118
  go_wp2_with ((with_reducible refine' wl_store_new (cells := _) ?hx ?hy ?hi ?ho ?h1 ?h); (case hx => rfl); (case hy => rfl); (case hi => kernel_rfl); (case ho => rfl); (case h1 => kernel_rfl))
  refine bodyPost_ret (v := sprV Hm.spr1) ?_ rfl ⟨rfl, (Below.refl _ _).alloc (Nat.le_refl _) _⟩
  rw [results_cell_one Tryd.results118]
  exact run_loadVar_row _ _ 202 _ _ (0, 0) _ (heap_alloc_last w _) Tryd.underlying202 rfl (by kernel_rfl)

set_option maxRecDepth 100000 in
set_option maxHeartbeats 4000000 in
theorem spreadOf_2 (w : World) :
    Calls Tryd.prog 118 #[.int .u8 2] w fun e w' => e = .returned (sprV Hm.spr2) ∧ Below w.heap.size w w' := by
  go_enter Tryd.func118, Tryd.ntmps118
  go_wp2_with ((with_reducible refine' wl_store_new (cells := _) ?hx ?hy ?hi ?ho ?h1 ?h); (case hx => rfl); (case hy => rfl); (case hi => kernel_rfl); (case ho => rfl); (case h1 => kernel_rfl))
  refine bodyPost_ret (v := sprV Hm.spr2) ?_ rfl ⟨rfl, (Below.refl _ _).alloc (Nat.le_refl _) _⟩
  rw [results_cell_one Tryd.results118]
  exact run_loadVar_row _ _ 202 _ _ (0, 0) _ (heap_alloc_last w _) Tryd.underlying202 rfl (by kernel_rfl)

set_option maxRecDepth 100000 in
set_option maxHeartbeats 4000000 in
theorem spreadOf_3 (w : World) :
    Calls Tryd.prog 118 #[.int .u8 3] w fun e w' => e = .returned (sprV Hm.spr3) ∧ Below w.heap.size w w' := by
  go_enter Tryd.func118, Tryd.ntmps118
  go_wp2_with ((with_reducible refine' wl_store_new (cells := _) ?hx ?hy ?hi ?ho ?h1 ?h); (case hx => rfl); (case hy => rfl); (case hi => kernel_rfl); (case ho => rfl); (case h1 => kernel_rfl))
  refine bodyPost_ret (v := sprV Hm.spr3) ?_ rfl ⟨rfl, (Below.refl _ _).alloc (Nat.le_refl _) _⟩
  rw [results_cell_one Tryd.results118]
  exact run_loadVar_row _ _ 202 _ _ (0, 0) _ (heap_alloc_last w _) Tryd.underlying202 rfl (by kernel_rfl)

set_option maxRecDepth 100000 in
set_option maxHeartbeats 4000000 in
theorem spreadOf_4 (w : World) :
    Calls Tryd.prog 118 #[.int .u8 4] w fun e w' => e = .returned (sprV Hm.spr4) ∧ Below w.heap.size w w' := by
  go_enter Tryd.func118, Tryd.ntmps118
  go_wp2_with ((with_reducible refine' wl_store_new (cells := _) ?hx ?hy ?hi ?ho ?h1 ?h); (case hx => rfl); (case hy => rfl); (case hi => kernel_rfl); (case ho => rfl); (case h1 => kernel_rfl))
  refine bodyPost_ret (v := sprV Hm.spr4) ?_ rfl ⟨rfl, (Below.refl _ _).alloc (Nat.le_refl _) _⟩
  rw [results_cell_one Tryd.results118]
  exact run_loadVar_row _ _ 202 _ _ (0, 0) _ (heap_alloc_last w _) Tryd.underlying202 rfl (by kernel_rfl)

end Go.Proofs.YtdcmdjeooklmjaaDoor
