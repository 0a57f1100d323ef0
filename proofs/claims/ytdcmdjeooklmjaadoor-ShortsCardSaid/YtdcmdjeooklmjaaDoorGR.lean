/-
  S5 in one text.
-/
import Derived.Test.YtdcmdjeooklmjaaDoorJP
set_option linter.unusedVariables false
set_option linter.unusedSimpArgs false
/-
  Walks: hartref's Short.inst, where a row makes an instruction. Made by wip/gen_S4.py.
-/
namespace Go.Proofs.YtdcmdjeooklmjaaDoor
open Go.RowKit

set_option maxRecDepth 100000 in
set_option maxHeartbeats 4000000 in
theorem sgood_tf0 (bits : List UInt8) (op D S T p : Int) (w : World) (hs : bits.length = 16) (p0 : 0 ≤ p) (p1 : p < 65536) (f : Hm.Flds) (hr : Hm.rd p bits ⟨0, 0, 0, 0⟩ = some f) (hop : ¬ op = 1) (hh : 0 ≤ Hm.hi bits) : SInst ⟨bits, op, D, S, T, true, false, 0⟩ p w := by
  have HI : Hid (Hm.instS ⟨bits, op, D, S, T, true, false, 0⟩ p = some ⟨Hm.fieldS D (Hm.eightS bits 100 f.d) (Hm.eightS bits 115 f.r) (Hm.eightS bits 116 f.t), Hm.fieldS S (Hm.eightS bits 100 f.d) (Hm.eightS bits 115 f.r) (Hm.eightS bits 116 f.t), Hm.fieldS T (Hm.eightS bits 100 f.d) (Hm.eightS bits 115 f.r) (Hm.eightS bits 116 f.t), Hm.sgn f.imm (Hm.hi bits).toNat⟩) := by
    show _ = _
    rw [instS_good (r := ⟨bits, op, D, S, T, true, false, 0⟩) hr (by simp [Hm.badS, hop])]
    simp [Hm.makeS, Hm.immS2, Hm.immS1, hop]
  have hop' : (op == 1) = false := by simpa using hop
  have hib := Hm.hi_bd bits
  have hib1 := hib.2
  clear hib
  clear hop
  have fb := rd_bds hs hr
  obtain ⟨⟨bd0, bd1⟩, ⟨br0, br1⟩, ⟨bt0, bt1⟩, ⟨bi0, bi1⟩⟩ := fb
  have HR : Hid (rdVal (Hm.rd p (Hm.ShortR.str ⟨bits, op, D, S, T, true, false, 0⟩).data.toList ⟨0, 0, 0, 0⟩) = .tuple #[.int .i64 f.d, .int .i64 f.r, .int .i64 f.t, .int .i64 f.imm, .bool true]) := by
    show rdVal (Hm.rd p bits ⟨0, 0, 0, 0⟩) = _
    rw [hr]; rfl
  have hsz : (Hm.ShortR.str ⟨bits, op, D, S, T, true, false, 0⟩).size ≤ 32 := by show bits.toArray.size ≤ 32; simp [hs]
  have hsz' : (Hm.ShortR.str ⟨bits, op, D, S, T, true, false, 0⟩).size ≤ 1000 := Nat.le_trans hsz (by decide)
  have ELS : Hid ((Hm.ShortR.str ⟨bits, op, D, S, T, true, false, 0⟩).data.toList = bits) := rfl
  clear hr
  unfold SInst rowVal
  go_enter Tryd.func47, Tryd.ntmps47
  go_wp2_with (first | (go_at_call 41; refine (read_any _ _ _ hsz p0 (by omega)).mono ?_; rintro e w' ⟨rfl, rfl⟩; rw [HR.out]) | (go_at_call 70; refine (eight_any _ _ _ _ hsz' (by omega) (by omega)).mono ?_; rintro e w' ⟨rfl, rfl⟩; rw [ELS.out]) | (go_at_call 43; refine (highest_any _ _ hsz').mono ?_; rintro e w' ⟨rfl, rfl⟩; rw [ELS.out]) | (go_at_call 42; refine (signed_any _ _ _ (by omega) (by omega) (by omega) (by omega)).mono ?_; rintro e w' ⟨rfl, rfl⟩))
  refine wp_region_held_drew (S := fun w' => w'.cell? ⟨w.heap.size, 1, none⟩ = some (.int .i64 op) ∧ w'.cell? ⟨w.heap.size, 2, none⟩ = some (.int .i64 D) ∧ w'.cell? ⟨w.heap.size, 3, none⟩ = some (.int .i64 S) ∧ w'.cell? ⟨w.heap.size, 4, none⟩ = some (.int .i64 T)) (by kernel_rfl) (by go_keep) (fun hHeld => ?_)
  refine' takeH_0 _ (by kernel_rfl) (by kernel_rfl) (by kernel_rfl) (fun _ _ _ h => h) (by rfl) ?hy1 hHeld ?rest1
  case hy1 => (intro w hSw; (try dsimp only at hSw); go_simp; try with_reducible rfl)
  simp only [Act.put, List.setIfInBounds_toArray, List.set_cons_zero, List.set_cons_succ]
  refine' takeH_1 _ (by kernel_rfl) (by kernel_rfl) (by kernel_rfl) (fun _ _ _ h => h) (by rfl) ?hy2 hHeld ?rest2
  case hy2 => (intro w hSw; (try dsimp only at hSw); go_simp; try with_reducible rfl)
  simp only [Act.put, List.setIfInBounds_toArray, List.set_cons_zero, List.set_cons_succ]
  refine' takeH_2 _ (by kernel_rfl) (by kernel_rfl) (by kernel_rfl) (fun _ _ _ h => h) (by rfl) ?hy3 hHeld ?rest3
  case hy3 => (intro w hSw; (try dsimp only at hSw); go_simp; try with_reducible rfl)
  simp only [Act.put, List.setIfInBounds_toArray, List.set_cons_zero, List.set_cons_succ]
  refine' takeH_3 _ (by kernel_rfl) (by kernel_rfl) (by kernel_rfl) (fun _ _ _ h => h) (by rfl) ?hy4 hHeld ?rest4
  case hy4 => (intro w hSw; (try dsimp only at hSw); go_simp; try with_reducible rfl)
  simp only [Act.put, List.setIfInBounds_toArray, List.set_cons_zero, List.set_cons_succ]
  refine' takeH_4 _ (by kernel_rfl) (by kernel_rfl) (by kernel_rfl) (fun _ _ _ h => h) (by rfl) ?hy5 hHeld ?rest5
  case hy5 => (intro w hSw; (try dsimp only at hSw); go_simp; try with_reducible rfl)
  simp only [Act.put, List.setIfInBounds_toArray, List.set_cons_zero, List.set_cons_succ]
  refine' takeH_5 _ (by kernel_rfl) (by kernel_rfl) (by kernel_rfl) (fun _ _ _ h => h) (by rfl) ?hy6 hHeld ?rest6
  case hy6 => (intro w hSw; (try dsimp only at hSw); go_simp; try with_reducible rfl)
  simp only [Act.put, List.setIfInBounds_toArray, List.set_cons_zero, List.set_cons_succ]
  refine' takeH_6 _ (by kernel_rfl) (by kernel_rfl) (by kernel_rfl) (fun _ _ _ h => h) (by rfl) ?hy7 hHeld ?rest7
  case hy7 => (intro w hSw; (try dsimp only at hSw); go_simp; try with_reducible rfl)
  simp only [Act.put, List.setIfInBounds_toArray, List.set_cons_zero, List.set_cons_succ]
  refine' takeH_8 _ (by kernel_rfl) (by kernel_rfl) (by kernel_rfl) (fun _ _ _ h => h) (by rfl) ?hy8 hHeld ?rest8
  case hy8 => (intro w hSw; (try dsimp only at hSw); go_simp; try with_reducible rfl)
  simp only [Act.put, List.setIfInBounds_toArray, List.set_cons_zero, List.set_cons_succ]
  refine' takeH_9 _ (by kernel_rfl) (by kernel_rfl) (by kernel_rfl) (fun _ _ _ h => h) (by rfl) ?hy9 hHeld ?rest9
  case hy9 => (intro w hSw; (try dsimp only at hSw); go_simp; try with_reducible rfl)
  simp only [Act.put, List.setIfInBounds_toArray, List.set_cons_zero, List.set_cons_succ]
  refine' takeH_10 _ (by kernel_rfl) (by kernel_rfl) (by kernel_rfl) (fun _ _ _ h => h) (by rfl) ?hy10 hHeld ?rest10
  case hy10 => (intro w hSw; (try dsimp only at hSw); go_simp; try with_reducible rfl)
  simp only [Act.put, List.setIfInBounds_toArray, List.set_cons_zero, List.set_cons_succ]
  refine' takeH_11 _ (by kernel_rfl) (by kernel_rfl) (by kernel_rfl) (fun _ _ _ h => h) (by rfl) ?hy11 hHeld ?rest11
  case hy11 => (intro w hSw; (try dsimp only at hSw); go_simp; try with_reducible rfl)
  simp only [Act.put, List.setIfInBounds_toArray, List.set_cons_zero, List.set_cons_succ]
  refine' takeH_12 _ (by kernel_rfl) (by kernel_rfl) (by kernel_rfl) (fun _ _ _ h => h) (by rfl) ?hy12 hHeld ?rest12
  case hy12 => (intro w hSw; (try dsimp only at hSw); go_simp; try with_reducible rfl)
  simp only [Act.put, List.setIfInBounds_toArray, List.set_cons_zero, List.set_cons_succ]
  refine' takeH_14 _ (by kernel_rfl) (by kernel_rfl) (by kernel_rfl) (fun _ _ _ h => h) (by rfl) ?hy13 hHeld ?rest13
  case hy13 => (intro w hSw; (try dsimp only at hSw); go_simp; try with_reducible rfl)
  simp only [Act.put, List.setIfInBounds_toArray, List.set_cons_zero, List.set_cons_succ]
  refine' takeH_15 _ (by kernel_rfl) (by kernel_rfl) (by kernel_rfl) (fun _ _ _ h => h) (by rfl) ?hy14 hHeld ?rest14
  case hy14 => (intro w hSw; (try dsimp only at hSw); go_simp; try with_reducible rfl)
  simp only [Act.put, List.setIfInBounds_toArray, List.set_cons_zero, List.set_cons_succ]
  refine' takeH_16 _ (by kernel_rfl) (by kernel_rfl) (by kernel_rfl) (fun _ _ _ h => h) (by rfl) ?hy15 hHeld ?rest15
  case hy15 => (intro w hSw; (try dsimp only at hSw); go_simp; try with_reducible rfl)
  simp only [Act.put, List.setIfInBounds_toArray, List.set_cons_zero, List.set_cons_succ]
  refine' takeH_17 _ (by kernel_rfl) (by kernel_rfl) (by kernel_rfl) (fun _ _ _ h => h) (by rfl) ?hy16 hHeld ?rest16
  case hy16 => (intro w hSw; (try dsimp only at hSw); go_simp; try with_reducible rfl)
  simp only [Act.put, List.setIfInBounds_toArray, List.set_cons_zero, List.set_cons_succ]
  refine' takeH_18 _ (by kernel_rfl) (by kernel_rfl) (by kernel_rfl) (fun _ _ _ h => h) (by rfl) ?hy17 hHeld ?rest17
  case hy17 => (intro w hSw; (try dsimp only at hSw); go_simp; try with_reducible rfl)
  simp only [Act.put, List.setIfInBounds_toArray, List.set_cons_zero, List.set_cons_succ]
  refine' takeH_20 _ (by kernel_rfl) (by kernel_rfl) (by kernel_rfl) (fun _ _ _ h => h) (by rfl) ?hy18 hHeld ?rest18
  case hy18 => (intro w hSw; (try dsimp only at hSw); go_simp; try with_reducible rfl)
  simp only [Act.put, List.setIfInBounds_toArray, List.set_cons_zero, List.set_cons_succ]
  refine runH_7 (by kernel_rfl) (fun K hK => ?_)
  go_simp
  (go_at_call 71; refine (field_any _ _ _ _ _).mono ?_; rintro e w1 ⟨rfl, rfl⟩; go_wp2_with fail)
  refine hK.out _ _ ?hS20 (fun hHeld => ?rest20)
  case hS20 => (exact hHeld)
  clear hK K
  (try simp only [Act.put, List.setIfInBounds_toArray, List.set_cons_zero, List.set_cons_succ])
  refine runH_13 (by kernel_rfl) (fun K hK => ?_)
  go_simp
  (go_at_call 71; refine (field_any _ _ _ _ _).mono ?_; rintro e w1 ⟨rfl, rfl⟩; go_wp2_with fail)
  refine hK.out _ _ ?hS21 (fun hHeld => ?rest21)
  case hS21 => (exact hHeld)
  clear hK K
  (try simp only [Act.put, List.setIfInBounds_toArray, List.set_cons_zero, List.set_cons_succ])
  refine runH_19 (by kernel_rfl) (fun K hK => ?_)
  go_simp
  (go_at_call 71; refine (field_any _ _ _ _ _).mono ?_; rintro e w1 ⟨rfl, rfl⟩; go_wp2_with fail)
  refine hK.out _ _ ?hS22 (fun hHeld => ?rest22)
  case hS22 => (exact hHeld)
  clear hK K
  (try simp only [Act.put, List.setIfInBounds_toArray, List.set_cons_zero, List.set_cons_succ])
  refine' takeH_21 _ (by kernel_rfl) (by kernel_rfl) (by kernel_rfl) (fun _ _ _ h => h) (by rfl) ?hy23 hHeld ?rest23
  case hy23 => (intro w hSw; (try dsimp only at hSw); go_simp; try with_reducible rfl)
  simp only [Act.put, List.setIfInBounds_toArray, List.set_cons_zero, List.set_cons_succ]
  refine runH_22 (by kernel_rfl) (fun K hK => ?_)
  go_simp
  refine hK.out _ _ ?hS25 (fun hHeld => ?rest25)
  case hS25 => (go_keep)
  clear hK K
  (try simp only [Act.put, List.setIfInBounds_toArray, List.set_cons_zero, List.set_cons_succ])
  refine' takeH_23 _ (by kernel_rfl) (by kernel_rfl) (by kernel_rfl) (fun _ _ _ h => h) (by rfl) ?hy26 hHeld ?rest26
  case hy26 => (intro w hSw; (try dsimp only at hSw); go_simp; try with_reducible rfl)
  simp only [Act.put, List.setIfInBounds_toArray, List.set_cons_zero, List.set_cons_succ]
  refine wpAnyH_done (by kernel_rfl) ?_ _
  go_wp2
  exact bodyPost_ret (v := .tuple #[.agg #[.int .i64 op, .int .i64 (Hm.fieldS D (Hm.eightS bits 100 f.d) (Hm.eightS bits 115 f.r) (Hm.eightS bits 116 f.t)), .int .i64 (Hm.fieldS S (Hm.eightS bits 100 f.d) (Hm.eightS bits 115 f.r) (Hm.eightS bits 116 f.t)), .int .i64 (Hm.fieldS T (Hm.eightS bits 100 f.d) (Hm.eightS bits 115 f.r) (Hm.eightS bits 116 f.t)), .int .i64 (Hm.sgn f.imm (Hm.hi bits).toNat)], .bool true]) (by simp [results, Tryd.results47, go_sem]) rfl ⟨(ret_sinst HI.out.symm : Ending.returned (sinstVal op (some ⟨Hm.fieldS D (Hm.eightS bits 100 f.d) (Hm.eightS bits 115 f.r) (Hm.eightS bits 116 f.t), Hm.fieldS S (Hm.eightS bits 100 f.d) (Hm.eightS bits 115 f.r) (Hm.eightS bits 116 f.t), Hm.fieldS T (Hm.eightS bits 100 f.d) (Hm.eightS bits 115 f.r) (Hm.eightS bits 116 f.t), Hm.sgn f.imm (Hm.hi bits).toNat⟩)) = _), (below_two w _ _).drew⟩

set_option maxRecDepth 100000 in
set_option maxHeartbeats 4000000 in
theorem sgood_tt0 (bits : List UInt8) (op D S T p : Int) (w : World) (hs : bits.length = 16) (p0 : 0 ≤ p) (p1 : p < 65536) (f : Hm.Flds) (hr : Hm.rd p bits ⟨0, 0, 0, 0⟩ = some f) (hop : ¬ op = 1) (hh : 0 ≤ Hm.hi bits) (hm : ¬ f.imm = 0) : SInst ⟨bits, op, D, S, T, true, true, 0⟩ p w := by
  have HI : Hid (Hm.instS ⟨bits, op, D, S, T, true, true, 0⟩ p = some ⟨Hm.fieldS D (Hm.eightS bits 100 f.d) (Hm.eightS bits 115 f.r) (Hm.eightS bits 116 f.t), Hm.fieldS S (Hm.eightS bits 100 f.d) (Hm.eightS bits 115 f.r) (Hm.eightS bits 116 f.t), Hm.fieldS T (Hm.eightS bits 100 f.d) (Hm.eightS bits 115 f.r) (Hm.eightS bits 116 f.t), Hm.sgn f.imm (Hm.hi bits).toNat⟩) := by
    show _ = _
    rw [instS_good (r := ⟨bits, op, D, S, T, true, true, 0⟩) hr (by simp [Hm.badS, hop, hm])]
    simp [Hm.makeS, Hm.immS2, Hm.immS1, hop, hm]
  have hop' : (op == 1) = false := by simpa using hop
  have hn_imm : (f.imm == 0) = false := by simpa using hm
  have hib := Hm.hi_bd bits
  have hib1 := hib.2
  clear hib
  clear hop hm
  have fb := rd_bds hs hr
  obtain ⟨⟨bd0, bd1⟩, ⟨br0, br1⟩, ⟨bt0, bt1⟩, ⟨bi0, bi1⟩⟩ := fb
  have HR : Hid (rdVal (Hm.rd p (Hm.ShortR.str ⟨bits, op, D, S, T, true, true, 0⟩).data.toList ⟨0, 0, 0, 0⟩) = .tuple #[.int .i64 f.d, .int .i64 f.r, .int .i64 f.t, .int .i64 f.imm, .bool true]) := by
    show rdVal (Hm.rd p bits ⟨0, 0, 0, 0⟩) = _
    rw [hr]; rfl
  have hsz : (Hm.ShortR.str ⟨bits, op, D, S, T, true, true, 0⟩).size ≤ 32 := by show bits.toArray.size ≤ 32; simp [hs]
  have hsz' : (Hm.ShortR.str ⟨bits, op, D, S, T, true, true, 0⟩).size ≤ 1000 := Nat.le_trans hsz (by decide)
  have ELS : Hid ((Hm.ShortR.str ⟨bits, op, D, S, T, true, true, 0⟩).data.toList = bits) := rfl
  clear hr
  unfold SInst rowVal
  go_enter Tryd.func47, Tryd.ntmps47
  go_wp2_with (first | (go_at_call 41; refine (read_any _ _ _ hsz p0 (by omega)).mono ?_; rintro e w' ⟨rfl, rfl⟩; rw [HR.out]) | (go_at_call 70; refine (eight_any _ _ _ _ hsz' (by omega) (by omega)).mono ?_; rintro e w' ⟨rfl, rfl⟩; rw [ELS.out]) | (go_at_call 43; refine (highest_any _ _ hsz').mono ?_; rintro e w' ⟨rfl, rfl⟩; rw [ELS.out]) | (go_at_call 42; refine (signed_any _ _ _ (by omega) (by omega) (by omega) (by omega)).mono ?_; rintro e w' ⟨rfl, rfl⟩))
  refine wp_region_held_drew (S := fun w' => w'.cell? ⟨w.heap.size, 1, none⟩ = some (.int .i64 op) ∧ w'.cell? ⟨w.heap.size, 2, none⟩ = some (.int .i64 D) ∧ w'.cell? ⟨w.heap.size, 3, none⟩ = some (.int .i64 S) ∧ w'.cell? ⟨w.heap.size, 4, none⟩ = some (.int .i64 T)) (by kernel_rfl) (by go_keep) (fun hHeld => ?_)
  refine' takeH_0 _ (by kernel_rfl) (by kernel_rfl) (by kernel_rfl) (fun _ _ _ h => h) (by rfl) ?hy27 hHeld ?rest27
  case hy27 => (intro w hSw; (try dsimp only at hSw); go_simp; try with_reducible rfl)
  simp only [Act.put, List.setIfInBounds_toArray, List.set_cons_zero, List.set_cons_succ]
  refine' takeH_1 _ (by kernel_rfl) (by kernel_rfl) (by kernel_rfl) (fun _ _ _ h => h) (by rfl) ?hy28 hHeld ?rest28
  case hy28 => (intro w hSw; (try dsimp only at hSw); go_simp; try with_reducible rfl)
  simp only [Act.put, List.setIfInBounds_toArray, List.set_cons_zero, List.set_cons_succ]
  refine' takeH_2 _ (by kernel_rfl) (by kernel_rfl) (by kernel_rfl) (fun _ _ _ h => h) (by rfl) ?hy29 hHeld ?rest29
  case hy29 => (intro w hSw; (try dsimp only at hSw); go_simp; try with_reducible rfl)
  simp only [Act.put, List.setIfInBounds_toArray, List.set_cons_zero, List.set_cons_succ]
  refine' takeH_3 _ (by kernel_rfl) (by kernel_rfl) (by kernel_rfl) (fun _ _ _ h => h) (by rfl) ?hy30 hHeld ?rest30
  case hy30 => (intro w hSw; (try dsimp only at hSw); go_simp; try with_reducible rfl)
  simp only [Act.put, List.setIfInBounds_toArray, List.set_cons_zero, List.set_cons_succ]
  refine' takeH_4 _ (by kernel_rfl) (by kernel_rfl) (by kernel_rfl) (fun _ _ _ h => h) (by rfl) ?hy31 hHeld ?rest31
  case hy31 => (intro w hSw; (try dsimp only at hSw); go_simp; try with_reducible rfl)
  simp only [Act.put, List.setIfInBounds_toArray, List.set_cons_zero, List.set_cons_succ]
  refine' takeH_5 _ (by kernel_rfl) (by kernel_rfl) (by kernel_rfl) (fun _ _ _ h => h) (by rfl) ?hy32 hHeld ?rest32
  case hy32 => (intro w hSw; (try dsimp only at hSw); go_simp; try with_reducible rfl)
  simp only [Act.put, List.setIfInBounds_toArray, List.set_cons_zero, List.set_cons_succ]
  refine' takeH_6 _ (by kernel_rfl) (by kernel_rfl) (by kernel_rfl) (fun _ _ _ h => h) (by rfl) ?hy33 hHeld ?rest33
  case hy33 => (intro w hSw; (try dsimp only at hSw); go_simp; try with_reducible rfl)
  simp only [Act.put, List.setIfInBounds_toArray, List.set_cons_zero, List.set_cons_succ]
  refine' takeH_8 _ (by kernel_rfl) (by kernel_rfl) (by kernel_rfl) (fun _ _ _ h => h) (by rfl) ?hy34 hHeld ?rest34
  case hy34 => (intro w hSw; (try dsimp only at hSw); go_simp; try with_reducible rfl)
  simp only [Act.put, List.setIfInBounds_toArray, List.set_cons_zero, List.set_cons_succ]
  refine' takeH_9 _ (by kernel_rfl) (by kernel_rfl) (by kernel_rfl) (fun _ _ _ h => h) (by rfl) ?hy35 hHeld ?rest35
  case hy35 => (intro w hSw; (try dsimp only at hSw); go_simp; try with_reducible rfl)
  simp only [Act.put, List.setIfInBounds_toArray, List.set_cons_zero, List.set_cons_succ]
  refine' takeH_10 _ (by kernel_rfl) (by kernel_rfl) (by kernel_rfl) (fun _ _ _ h => h) (by rfl) ?hy36 hHeld ?rest36
  case hy36 => (intro w hSw; (try dsimp only at hSw); go_simp; try with_reducible rfl)
  simp only [Act.put, List.setIfInBounds_toArray, List.set_cons_zero, List.set_cons_succ]
  refine' takeH_11 _ (by kernel_rfl) (by kernel_rfl) (by kernel_rfl) (fun _ _ _ h => h) (by rfl) ?hy37 hHeld ?rest37
  case hy37 => (intro w hSw; (try dsimp only at hSw); go_simp; try with_reducible rfl)
  simp only [Act.put, List.setIfInBounds_toArray, List.set_cons_zero, List.set_cons_succ]
  refine' takeH_12 _ (by kernel_rfl) (by kernel_rfl) (by kernel_rfl) (fun _ _ _ h => h) (by rfl) ?hy38 hHeld ?rest38
  case hy38 => (intro w hSw; (try dsimp only at hSw); go_simp; try with_reducible rfl)
  simp only [Act.put, List.setIfInBounds_toArray, List.set_cons_zero, List.set_cons_succ]
  refine' takeH_14 _ (by kernel_rfl) (by kernel_rfl) (by kernel_rfl) (fun _ _ _ h => h) (by rfl) ?hy39 hHeld ?rest39
  case hy39 => (intro w hSw; (try dsimp only at hSw); go_simp; try with_reducible rfl)
  simp only [Act.put, List.setIfInBounds_toArray, List.set_cons_zero, List.set_cons_succ]
  refine' takeH_15 _ (by kernel_rfl) (by kernel_rfl) (by kernel_rfl) (fun _ _ _ h => h) (by rfl) ?hy40 hHeld ?rest40
  case hy40 => (intro w hSw; (try dsimp only at hSw); go_simp; try with_reducible rfl)
  simp only [Act.put, List.setIfInBounds_toArray, List.set_cons_zero, List.set_cons_succ]
  refine' takeH_16 _ (by kernel_rfl) (by kernel_rfl) (by kernel_rfl) (fun _ _ _ h => h) (by rfl) ?hy41 hHeld ?rest41
  case hy41 => (intro w hSw; (try dsimp only at hSw); go_simp; try with_reducible rfl)
  simp only [Act.put, List.setIfInBounds_toArray, List.set_cons_zero, List.set_cons_succ]
  refine' takeH_17 _ (by kernel_rfl) (by kernel_rfl) (by kernel_rfl) (fun _ _ _ h => h) (by rfl) ?hy42 hHeld ?rest42
  case hy42 => (intro w hSw; (try dsimp only at hSw); go_simp; try with_reducible rfl)
  simp only [Act.put, List.setIfInBounds_toArray, List.set_cons_zero, List.set_cons_succ]
  refine' takeH_18 _ (by kernel_rfl) (by kernel_rfl) (by kernel_rfl) (fun _ _ _ h => h) (by rfl) ?hy43 hHeld ?rest43
  case hy43 => (intro w hSw; (try dsimp only at hSw); go_simp; try with_reducible rfl)
  simp only [Act.put, List.setIfInBounds_toArray, List.set_cons_zero, List.set_cons_succ]
  refine' takeH_20 _ (by kernel_rfl) (by kernel_rfl) (by kernel_rfl) (fun _ _ _ h => h) (by rfl) ?hy44 hHeld ?rest44
  case hy44 => (intro w hSw; (try dsimp only at hSw); go_simp; try with_reducible rfl)
  simp only [Act.put, List.setIfInBounds_toArray, List.set_cons_zero, List.set_cons_succ]
  refine runH_7 (by kernel_rfl) (fun K hK => ?_)
  go_simp
  (go_at_call 71; refine (field_any _ _ _ _ _).mono ?_; rintro e w1 ⟨rfl, rfl⟩; go_wp2_with fail)
  refine hK.out _ _ ?hS46 (fun hHeld => ?rest46)
  case hS46 => (exact hHeld)
  clear hK K
  (try simp only [Act.put, List.setIfInBounds_toArray, List.set_cons_zero, List.set_cons_succ])
  refine runH_13 (by kernel_rfl) (fun K hK => ?_)
  go_simp
  (go_at_call 71; refine (field_any _ _ _ _ _).mono ?_; rintro e w1 ⟨rfl, rfl⟩; go_wp2_with fail)
  refine hK.out _ _ ?hS47 (fun hHeld => ?rest47)
  case hS47 => (exact hHeld)
  clear hK K
  (try simp only [Act.put, List.setIfInBounds_toArray, List.set_cons_zero, List.set_cons_succ])
  refine runH_19 (by kernel_rfl) (fun K hK => ?_)
  go_simp
  (go_at_call 71; refine (field_any _ _ _ _ _).mono ?_; rintro e w1 ⟨rfl, rfl⟩; go_wp2_with fail)
  refine hK.out _ _ ?hS48 (fun hHeld => ?rest48)
  case hS48 => (exact hHeld)
  clear hK K
  (try simp only [Act.put, List.setIfInBounds_toArray, List.set_cons_zero, List.set_cons_succ])
  refine' takeH_21 _ (by kernel_rfl) (by kernel_rfl) (by kernel_rfl) (fun _ _ _ h => h) (by rfl) ?hy49 hHeld ?rest49
  case hy49 => (intro w hSw; (try dsimp only at hSw); go_simp; try with_reducible rfl)
  simp only [Act.put, List.setIfInBounds_toArray, List.set_cons_zero, List.set_cons_succ]
  refine runH_22 (by kernel_rfl) (fun K hK => ?_)
  go_simp
  refine hK.out _ _ ?hS51 (fun hHeld => ?rest51)
  case hS51 => (go_keep)
  clear hK K
  (try simp only [Act.put, List.setIfInBounds_toArray, List.set_cons_zero, List.set_cons_succ])
  refine' takeH_23 _ (by kernel_rfl) (by kernel_rfl) (by kernel_rfl) (fun _ _ _ h => h) (by rfl) ?hy52 hHeld ?rest52
  case hy52 => (intro w hSw; (try dsimp only at hSw); go_simp; try with_reducible rfl)
  simp only [Act.put, List.setIfInBounds_toArray, List.set_cons_zero, List.set_cons_succ]
  refine wpAnyH_done (by kernel_rfl) ?_ _
  go_wp2
  exact bodyPost_ret (v := .tuple #[.agg #[.int .i64 op, .int .i64 (Hm.fieldS D (Hm.eightS bits 100 f.d) (Hm.eightS bits 115 f.r) (Hm.eightS bits 116 f.t)), .int .i64 (Hm.fieldS S (Hm.eightS bits 100 f.d) (Hm.eightS bits 115 f.r) (Hm.eightS bits 116 f.t)), .int .i64 (Hm.fieldS T (Hm.eightS bits 100 f.d) (Hm.eightS bits 115 f.r) (Hm.eightS bits 116 f.t)), .int .i64 (Hm.sgn f.imm (Hm.hi bits).toNat)], .bool true]) (by simp [results, Tryd.results47, go_sem]) rfl ⟨(ret_sinst HI.out.symm : Ending.returned (sinstVal op (some ⟨Hm.fieldS D (Hm.eightS bits 100 f.d) (Hm.eightS bits 115 f.r) (Hm.eightS bits 116 f.t), Hm.fieldS S (Hm.eightS bits 100 f.d) (Hm.eightS bits 115 f.r) (Hm.eightS bits 116 f.t), Hm.fieldS T (Hm.eightS bits 100 f.d) (Hm.eightS bits 115 f.r) (Hm.eightS bits 116 f.t), Hm.sgn f.imm (Hm.hi bits).toNat⟩)) = _), (below_two w _ _).drew⟩

set_option maxRecDepth 100000 in
set_option maxHeartbeats 4000000 in
theorem sgood_tt4p (bits : List UInt8) (op D S T p : Int) (w : World) (hs : bits.length = 16) (p0 : 0 ≤ p) (p1 : p < 65536) (f : Hm.Flds) (hr : Hm.rd p bits ⟨0, 0, 0, 0⟩ = some f) (hop : op = 1) (hh : 0 ≤ Hm.hi bits) (hm : ¬ f.imm = 0) (hd2 : ¬ f.d = 2) (hs0 : ¬ Hm.sgn f.imm (Hm.hi bits).toNat < 0) : SInst ⟨bits, op, D, S, T, true, true, 4⟩ p w := by
  have HI : Hid (Hm.instS ⟨bits, op, D, S, T, true, true, 4⟩ p = some ⟨Hm.fieldS D (Hm.eightS bits 100 f.d) (Hm.eightS bits 115 f.r) (Hm.eightS bits 116 f.t), Hm.fieldS S (Hm.eightS bits 100 f.d) (Hm.eightS bits 115 f.r) (Hm.eightS bits 116 f.t), Hm.fieldS T (Hm.eightS bits 100 f.d) (Hm.eightS bits 115 f.r) (Hm.eightS bits 116 f.t), Hm.sgn f.imm (Hm.hi bits).toNat⟩) := by
    show _ = _
    rw [instS_good (r := ⟨bits, op, D, S, T, true, true, 4⟩) hr (by simp [Hm.badS, hop, hm, hd2, hs0])]
    simp [Hm.makeS, Hm.immS2, Hm.immS1, hop, hm, hd2, hs0]
  have hop' : (op == 1) = true := by simpa using hop
  have hn_imm : (f.imm == 0) = false := by simpa using hm
  have hn_d2 : (f.d == 2) = false := by simpa using hd2
  have hib := Hm.hi_bd bits
  have hib1 := hib.2
  clear hib
  clear hop hm hd2
  have fb := rd_bds hs hr
  obtain ⟨⟨bd0, bd1⟩, ⟨br0, br1⟩, ⟨bt0, bt1⟩, ⟨bi0, bi1⟩⟩ := fb
  have HR : Hid (rdVal (Hm.rd p (Hm.ShortR.str ⟨bits, op, D, S, T, true, true, 4⟩).data.toList ⟨0, 0, 0, 0⟩) = .tuple #[.int .i64 f.d, .int .i64 f.r, .int .i64 f.t, .int .i64 f.imm, .bool true]) := by
    show rdVal (Hm.rd p bits ⟨0, 0, 0, 0⟩) = _
    rw [hr]; rfl
  have hsz : (Hm.ShortR.str ⟨bits, op, D, S, T, true, true, 4⟩).size ≤ 32 := by show bits.toArray.size ≤ 32; simp [hs]
  have hsz' : (Hm.ShortR.str ⟨bits, op, D, S, T, true, true, 4⟩).size ≤ 1000 := Nat.le_trans hsz (by decide)
  have ELS : Hid ((Hm.ShortR.str ⟨bits, op, D, S, T, true, true, 4⟩).data.toList = bits) := rfl
  clear hr
  unfold SInst rowVal
  go_enter Tryd.func47, Tryd.ntmps47
  go_wp2_with (first | (go_at_call 41; refine (read_any _ _ _ hsz p0 (by omega)).mono ?_; rintro e w' ⟨rfl, rfl⟩; rw [HR.out]) | (go_at_call 70; refine (eight_any _ _ _ _ hsz' (by omega) (by omega)).mono ?_; rintro e w' ⟨rfl, rfl⟩; rw [ELS.out]) | (go_at_call 43; refine (highest_any _ _ hsz').mono ?_; rintro e w' ⟨rfl, rfl⟩; rw [ELS.out]) | (go_at_call 42; refine (signed_any _ _ _ (by omega) (by omega) (by omega) (by omega)).mono ?_; rintro e w' ⟨rfl, rfl⟩))
  refine wp_region_held_drew (S := fun w' => w'.cell? ⟨w.heap.size, 1, none⟩ = some (.int .i64 op) ∧ w'.cell? ⟨w.heap.size, 2, none⟩ = some (.int .i64 D) ∧ w'.cell? ⟨w.heap.size, 3, none⟩ = some (.int .i64 S) ∧ w'.cell? ⟨w.heap.size, 4, none⟩ = some (.int .i64 T)) (by kernel_rfl) (by go_keep) (fun hHeld => ?_)
  refine' takeH_0 _ (by kernel_rfl) (by kernel_rfl) (by kernel_rfl) (fun _ _ _ h => h) (by rfl) ?hy53 hHeld ?rest53
  case hy53 => (intro w hSw; (try dsimp only at hSw); go_simp; try with_reducible rfl)
  simp only [Act.put, List.setIfInBounds_toArray, List.set_cons_zero, List.set_cons_succ]
  refine' takeH_1 _ (by kernel_rfl) (by kernel_rfl) (by kernel_rfl) (fun _ _ _ h => h) (by rfl) ?hy54 hHeld ?rest54
  case hy54 => (intro w hSw; (try dsimp only at hSw); go_simp; try with_reducible rfl)
  simp only [Act.put, List.setIfInBounds_toArray, List.set_cons_zero, List.set_cons_succ]
  refine' takeH_2 _ (by kernel_rfl) (by kernel_rfl) (by kernel_rfl) (fun _ _ _ h => h) (by rfl) ?hy55 hHeld ?rest55
  case hy55 => (intro w hSw; (try dsimp only at hSw); go_simp; try with_reducible rfl)
  simp only [Act.put, List.setIfInBounds_toArray, List.set_cons_zero, List.set_cons_succ]
  refine' takeH_3 _ (by kernel_rfl) (by kernel_rfl) (by kernel_rfl) (fun _ _ _ h => h) (by rfl) ?hy56 hHeld ?rest56
  case hy56 => (intro w hSw; (try dsimp only at hSw); go_simp; try with_reducible rfl)
  simp only [Act.put, List.setIfInBounds_toArray, List.set_cons_zero, List.set_cons_succ]
  refine' takeH_4 _ (by kernel_rfl) (by kernel_rfl) (by kernel_rfl) (fun _ _ _ h => h) (by rfl) ?hy57 hHeld ?rest57
  case hy57 => (intro w hSw; (try dsimp only at hSw); go_simp; try with_reducible rfl)
  simp only [Act.put, List.setIfInBounds_toArray, List.set_cons_zero, List.set_cons_succ]
  refine' takeH_5 _ (by kernel_rfl) (by kernel_rfl) (by kernel_rfl) (fun _ _ _ h => h) (by rfl) ?hy58 hHeld ?rest58
  case hy58 => (intro w hSw; (try dsimp only at hSw); go_simp; try with_reducible rfl)
  simp only [Act.put, List.setIfInBounds_toArray, List.set_cons_zero, List.set_cons_succ]
  refine' takeH_6 _ (by kernel_rfl) (by kernel_rfl) (by kernel_rfl) (fun _ _ _ h => h) (by rfl) ?hy59 hHeld ?rest59
  case hy59 => (intro w hSw; (try dsimp only at hSw); go_simp; try with_reducible rfl)
  simp only [Act.put, List.setIfInBounds_toArray, List.set_cons_zero, List.set_cons_succ]
  refine' takeH_8 _ (by kernel_rfl) (by kernel_rfl) (by kernel_rfl) (fun _ _ _ h => h) (by rfl) ?hy60 hHeld ?rest60
  case hy60 => (intro w hSw; (try dsimp only at hSw); go_simp; try with_reducible rfl)
  simp only [Act.put, List.setIfInBounds_toArray, List.set_cons_zero, List.set_cons_succ]
  refine' takeH_9 _ (by kernel_rfl) (by kernel_rfl) (by kernel_rfl) (fun _ _ _ h => h) (by rfl) ?hy61 hHeld ?rest61
  case hy61 => (intro w hSw; (try dsimp only at hSw); go_simp; try with_reducible rfl)
  simp only [Act.put, List.setIfInBounds_toArray, List.set_cons_zero, List.set_cons_succ]
  refine' takeH_10 _ (by kernel_rfl) (by kernel_rfl) (by kernel_rfl) (fun _ _ _ h => h) (by rfl) ?hy62 hHeld ?rest62
  case hy62 => (intro w hSw; (try dsimp only at hSw); go_simp; try with_reducible rfl)
  simp only [Act.put, List.setIfInBounds_toArray, List.set_cons_zero, List.set_cons_succ]
  refine' takeH_11 _ (by kernel_rfl) (by kernel_rfl) (by kernel_rfl) (fun _ _ _ h => h) (by rfl) ?hy63 hHeld ?rest63
  case hy63 => (intro w hSw; (try dsimp only at hSw); go_simp; try with_reducible rfl)
  simp only [Act.put, List.setIfInBounds_toArray, List.set_cons_zero, List.set_cons_succ]
  refine' takeH_12 _ (by kernel_rfl) (by kernel_rfl) (by kernel_rfl) (fun _ _ _ h => h) (by rfl) ?hy64 hHeld ?rest64
  case hy64 => (intro w hSw; (try dsimp only at hSw); go_simp; try with_reducible rfl)
  simp only [Act.put, List.setIfInBounds_toArray, List.set_cons_zero, List.set_cons_succ]
  refine' takeH_14 _ (by kernel_rfl) (by kernel_rfl) (by kernel_rfl) (fun _ _ _ h => h) (by rfl) ?hy65 hHeld ?rest65
  case hy65 => (intro w hSw; (try dsimp only at hSw); go_simp; try with_reducible rfl)
  simp only [Act.put, List.setIfInBounds_toArray, List.set_cons_zero, List.set_cons_succ]
  refine' takeH_15 _ (by kernel_rfl) (by kernel_rfl) (by kernel_rfl) (fun _ _ _ h => h) (by rfl) ?hy66 hHeld ?rest66
  case hy66 => (intro w hSw; (try dsimp only at hSw); go_simp; try with_reducible rfl)
  simp only [Act.put, List.setIfInBounds_toArray, List.set_cons_zero, List.set_cons_succ]
  refine' takeH_16 _ (by kernel_rfl) (by kernel_rfl) (by kernel_rfl) (fun _ _ _ h => h) (by rfl) ?hy67 hHeld ?rest67
  case hy67 => (intro w hSw; (try dsimp only at hSw); go_simp; try with_reducible rfl)
  simp only [Act.put, List.setIfInBounds_toArray, List.set_cons_zero, List.set_cons_succ]
  refine' takeH_17 _ (by kernel_rfl) (by kernel_rfl) (by kernel_rfl) (fun _ _ _ h => h) (by rfl) ?hy68 hHeld ?rest68
  case hy68 => (intro w hSw; (try dsimp only at hSw); go_simp; try with_reducible rfl)
  simp only [Act.put, List.setIfInBounds_toArray, List.set_cons_zero, List.set_cons_succ]
  refine' takeH_18 _ (by kernel_rfl) (by kernel_rfl) (by kernel_rfl) (fun _ _ _ h => h) (by rfl) ?hy69 hHeld ?rest69
  case hy69 => (intro w hSw; (try dsimp only at hSw); go_simp; try with_reducible rfl)
  simp only [Act.put, List.setIfInBounds_toArray, List.set_cons_zero, List.set_cons_succ]
  refine' takeH_20 _ (by kernel_rfl) (by kernel_rfl) (by kernel_rfl) (fun _ _ _ h => h) (by rfl) ?hy70 hHeld ?rest70
  case hy70 => (intro w hSw; (try dsimp only at hSw); go_simp; try with_reducible rfl)
  simp only [Act.put, List.setIfInBounds_toArray, List.set_cons_zero, List.set_cons_succ]
  refine runH_7 (by kernel_rfl) (fun K hK => ?_)
  go_simp
  (go_at_call 71; refine (field_any _ _ _ _ _).mono ?_; rintro e w1 ⟨rfl, rfl⟩; go_wp2_with fail)
  refine hK.out _ _ ?hS72 (fun hHeld => ?rest72)
  case hS72 => (exact hHeld)
  clear hK K
  (try simp only [Act.put, List.setIfInBounds_toArray, List.set_cons_zero, List.set_cons_succ])
  refine runH_13 (by kernel_rfl) (fun K hK => ?_)
  go_simp
  (go_at_call 71; refine (field_any _ _ _ _ _).mono ?_; rintro e w1 ⟨rfl, rfl⟩; go_wp2_with fail)
  refine hK.out _ _ ?hS73 (fun hHeld => ?rest73)
  case hS73 => (exact hHeld)
  clear hK K
  (try simp only [Act.put, List.setIfInBounds_toArray, List.set_cons_zero, List.set_cons_succ])
  refine runH_19 (by kernel_rfl) (fun K hK => ?_)
  go_simp
  (go_at_call 71; refine (field_any _ _ _ _ _).mono ?_; rintro e w1 ⟨rfl, rfl⟩; go_wp2_with fail)
  refine hK.out _ _ ?hS74 (fun hHeld => ?rest74)
  case hS74 => (exact hHeld)
  clear hK K
  (try simp only [Act.put, List.setIfInBounds_toArray, List.set_cons_zero, List.set_cons_succ])
  refine' takeH_21 _ (by kernel_rfl) (by kernel_rfl) (by kernel_rfl) (fun _ _ _ h => h) (by rfl) ?hy75 hHeld ?rest75
  case hy75 => (intro w hSw; (try dsimp only at hSw); go_simp; try with_reducible rfl)
  simp only [Act.put, List.setIfInBounds_toArray, List.set_cons_zero, List.set_cons_succ]
  refine runH_22 (by kernel_rfl) (fun K hK => ?_)
  go_simp
  refine hK.out _ _ ?hS77 (fun hHeld => ?rest77)
  case hS77 => (go_keep)
  clear hK K
  (try simp only [Act.put, List.setIfInBounds_toArray, List.set_cons_zero, List.set_cons_succ])
  refine' takeH_23 _ (by kernel_rfl) (by kernel_rfl) (by kernel_rfl) (fun _ _ _ h => h) (by rfl) ?hy78 hHeld ?rest78
  case hy78 => (intro w hSw; (try dsimp only at hSw); go_simp; try with_reducible rfl)
  simp only [Act.put, List.setIfInBounds_toArray, List.set_cons_zero, List.set_cons_succ]
  refine wpAnyH_done (by kernel_rfl) ?_ _
  go_wp2
  exact bodyPost_ret (v := .tuple #[.agg #[.int .i64 op, .int .i64 (Hm.fieldS D (Hm.eightS bits 100 f.d) (Hm.eightS bits 115 f.r) (Hm.eightS bits 116 f.t)), .int .i64 (Hm.fieldS S (Hm.eightS bits 100 f.d) (Hm.eightS bits 115 f.r) (Hm.eightS bits 116 f.t)), .int .i64 (Hm.fieldS T (Hm.eightS bits 100 f.d) (Hm.eightS bits 115 f.r) (Hm.eightS bits 116 f.t)), .int .i64 (Hm.sgn f.imm (Hm.hi bits).toNat)], .bool true]) (by simp [results, Tryd.results47, go_sem]) rfl ⟨(ret_sinst HI.out.symm : Ending.returned (sinstVal op (some ⟨Hm.fieldS D (Hm.eightS bits 100 f.d) (Hm.eightS bits 115 f.r) (Hm.eightS bits 116 f.t), Hm.fieldS S (Hm.eightS bits 100 f.d) (Hm.eightS bits 115 f.r) (Hm.eightS bits 116 f.t), Hm.fieldS T (Hm.eightS bits 100 f.d) (Hm.eightS bits 115 f.r) (Hm.eightS bits 116 f.t), Hm.sgn f.imm (Hm.hi bits).toNat⟩)) = _), (below_two w _ _).drew⟩

set_option maxRecDepth 100000 in
set_option maxHeartbeats 4000000 in
theorem sgood_tt4n (bits : List UInt8) (op D S T p : Int) (w : World) (hs : bits.length = 16) (p0 : 0 ≤ p) (p1 : p < 65536) (f : Hm.Flds) (hr : Hm.rd p bits ⟨0, 0, 0, 0⟩ = some f) (hop : op = 1) (hh : 0 ≤ Hm.hi bits) (hm : ¬ f.imm = 0) (hd2 : ¬ f.d = 2) (hs0 : Hm.sgn f.imm (Hm.hi bits).toNat < 0) (hs1 : -4194304 ≤ Hm.sgn f.imm (Hm.hi bits).toNat) : SInst ⟨bits, op, D, S, T, true, true, 4⟩ p w := by
  have HI : Hid (Hm.instS ⟨bits, op, D, S, T, true, true, 4⟩ p = some ⟨Hm.fieldS D (Hm.eightS bits 100 f.d) (Hm.eightS bits 115 f.r) (Hm.eightS bits 116 f.t), Hm.fieldS S (Hm.eightS bits 100 f.d) (Hm.eightS bits 115 f.r) (Hm.eightS bits 116 f.t), Hm.fieldS T (Hm.eightS bits 100 f.d) (Hm.eightS bits 115 f.r) (Hm.eightS bits 116 f.t), Hm.sgn f.imm (Hm.hi bits).toNat + 1048576⟩) := by
    show _ = _
    rw [instS_good (r := ⟨bits, op, D, S, T, true, true, 4⟩) hr (by simp [Hm.badS, hop, hm, hd2, hs0])]
    simp [Hm.makeS, Hm.immS2, Hm.immS1, hop, hm, hd2, hs0]
  have hop' : (op == 1) = true := by simpa using hop
  have hn_imm : (f.imm == 0) = false := by simpa using hm
  have hn_d2 : (f.d == 2) = false := by simpa using hd2
  have hib := Hm.hi_bd bits
  have hib1 := hib.2
  clear hib
  clear hop hm hd2
  have fb := rd_bds hs hr
  obtain ⟨⟨bd0, bd1⟩, ⟨br0, br1⟩, ⟨bt0, bt1⟩, ⟨bi0, bi1⟩⟩ := fb
  have HR : Hid (rdVal (Hm.rd p (Hm.ShortR.str ⟨bits, op, D, S, T, true, true, 4⟩).data.toList ⟨0, 0, 0, 0⟩) = .tuple #[.int .i64 f.d, .int .i64 f.r, .int .i64 f.t, .int .i64 f.imm, .bool true]) := by
    show rdVal (Hm.rd p bits ⟨0, 0, 0, 0⟩) = _
    rw [hr]; rfl
  have hsz : (Hm.ShortR.str ⟨bits, op, D, S, T, true, true, 4⟩).size ≤ 32 := by show bits.toArray.size ≤ 32; simp [hs]
  have hsz' : (Hm.ShortR.str ⟨bits, op, D, S, T, true, true, 4⟩).size ≤ 1000 := Nat.le_trans hsz (by decide)
  have ELS : Hid ((Hm.ShortR.str ⟨bits, op, D, S, T, true, true, 4⟩).data.toList = bits) := rfl
  clear hr
  unfold SInst rowVal
  go_enter Tryd.func47, Tryd.ntmps47
  go_wp2_with (first | (go_at_call 41; refine (read_any _ _ _ hsz p0 (by omega)).mono ?_; rintro e w' ⟨rfl, rfl⟩; rw [HR.out]) | (go_at_call 70; refine (eight_any _ _ _ _ hsz' (by omega) (by omega)).mono ?_; rintro e w' ⟨rfl, rfl⟩; rw [ELS.out]) | (go_at_call 43; refine (highest_any _ _ hsz').mono ?_; rintro e w' ⟨rfl, rfl⟩; rw [ELS.out]) | (go_at_call 42; refine (signed_any _ _ _ (by omega) (by omega) (by omega) (by omega)).mono ?_; rintro e w' ⟨rfl, rfl⟩))
  refine wp_region_held_drew (S := fun w' => w'.cell? ⟨w.heap.size, 1, none⟩ = some (.int .i64 op) ∧ w'.cell? ⟨w.heap.size, 2, none⟩ = some (.int .i64 D) ∧ w'.cell? ⟨w.heap.size, 3, none⟩ = some (.int .i64 S) ∧ w'.cell? ⟨w.heap.size, 4, none⟩ = some (.int .i64 T)) (by kernel_rfl) (by go_keep) (fun hHeld => ?_)
  refine' takeH_0 _ (by kernel_rfl) (by kernel_rfl) (by kernel_rfl) (fun _ _ _ h => h) (by rfl) ?hy79 hHeld ?rest79
  case hy79 => (intro w hSw; (try dsimp only at hSw); go_simp; try with_reducible rfl)
  simp only [Act.put, List.setIfInBounds_toArray, List.set_cons_zero, List.set_cons_succ]
  refine' takeH_1 _ (by kernel_rfl) (by kernel_rfl) (by kernel_rfl) (fun _ _ _ h => h) (by rfl) ?hy80 hHeld ?rest80
  case hy80 => (intro w hSw; (try dsimp only at hSw); go_simp; try with_reducible rfl)
  simp only [Act.put, List.setIfInBounds_toArray, List.set_cons_zero, List.set_cons_succ]
  refine' takeH_2 _ (by kernel_rfl) (by kernel_rfl) (by kernel_rfl) (fun _ _ _ h => h) (by rfl) ?hy81 hHeld ?rest81
  case hy81 => (intro w hSw; (try dsimp only at hSw); go_simp; try with_reducible rfl)
  simp only [Act.put, List.setIfInBounds_toArray, List.set_cons_zero, List.set_cons_succ]
  refine' takeH_3 _ (by kernel_rfl) (by kernel_rfl) (by kernel_rfl) (fun _ _ _ h => h) (by rfl) ?hy82 hHeld ?rest82
  case hy82 => (intro w hSw; (try dsimp only at hSw); go_simp; try with_reducible rfl)
  simp only [Act.put, List.setIfInBounds_toArray, List.set_cons_zero, List.set_cons_succ]
  refine' takeH_4 _ (by kernel_rfl) (by kernel_rfl) (by kernel_rfl) (fun _ _ _ h => h) (by rfl) ?hy83 hHeld ?rest83
  case hy83 => (intro w hSw; (try dsimp only at hSw); go_simp; try with_reducible rfl)
  simp only [Act.put, List.setIfInBounds_toArray, List.set_cons_zero, List.set_cons_succ]
  refine' takeH_5 _ (by kernel_rfl) (by kernel_rfl) (by kernel_rfl) (fun _ _ _ h => h) (by rfl) ?hy84 hHeld ?rest84
  case hy84 => (intro w hSw; (try dsimp only at hSw); go_simp; try with_reducible rfl)
  simp only [Act.put, List.setIfInBounds_toArray, List.set_cons_zero, List.set_cons_succ]
  refine' takeH_6 _ (by kernel_rfl) (by kernel_rfl) (by kernel_rfl) (fun _ _ _ h => h) (by rfl) ?hy85 hHeld ?rest85
  case hy85 => (intro w hSw; (try dsimp only at hSw); go_simp; try with_reducible rfl)
  simp only [Act.put, List.setIfInBounds_toArray, List.set_cons_zero, List.set_cons_succ]
  refine' takeH_8 _ (by kernel_rfl) (by kernel_rfl) (by kernel_rfl) (fun _ _ _ h => h) (by rfl) ?hy86 hHeld ?rest86
  case hy86 => (intro w hSw; (try dsimp only at hSw); go_simp; try with_reducible rfl)
  simp only [Act.put, List.setIfInBounds_toArray, List.set_cons_zero, List.set_cons_succ]
  refine' takeH_9 _ (by kernel_rfl) (by kernel_rfl) (by kernel_rfl) (fun _ _ _ h => h) (by rfl) ?hy87 hHeld ?rest87
  case hy87 => (intro w hSw; (try dsimp only at hSw); go_simp; try with_reducible rfl)
  simp only [Act.put, List.setIfInBounds_toArray, List.set_cons_zero, List.set_cons_succ]
  refine' takeH_10 _ (by kernel_rfl) (by kernel_rfl) (by kernel_rfl) (fun _ _ _ h => h) (by rfl) ?hy88 hHeld ?rest88
  case hy88 => (intro w hSw; (try dsimp only at hSw); go_simp; try with_reducible rfl)
  simp only [Act.put, List.setIfInBounds_toArray, List.set_cons_zero, List.set_cons_succ]
  refine' takeH_11 _ (by kernel_rfl) (by kernel_rfl) (by kernel_rfl) (fun _ _ _ h => h) (by rfl) ?hy89 hHeld ?rest89
  case hy89 => (intro w hSw; (try dsimp only at hSw); go_simp; try with_reducible rfl)
  simp only [Act.put, List.setIfInBounds_toArray, List.set_cons_zero, List.set_cons_succ]
  refine' takeH_12 _ (by kernel_rfl) (by kernel_rfl) (by kernel_rfl) (fun _ _ _ h => h) (by rfl) ?hy90 hHeld ?rest90
  case hy90 => (intro w hSw; (try dsimp only at hSw); go_simp; try with_reducible rfl)
  simp only [Act.put, List.setIfInBounds_toArray, List.set_cons_zero, List.set_cons_succ]
  refine' takeH_14 _ (by kernel_rfl) (by kernel_rfl) (by kernel_rfl) (fun _ _ _ h => h) (by rfl) ?hy91 hHeld ?rest91
  case hy91 => (intro w hSw; (try dsimp only at hSw); go_simp; try with_reducible rfl)
  simp only [Act.put, List.setIfInBounds_toArray, List.set_cons_zero, List.set_cons_succ]
  refine' takeH_15 _ (by kernel_rfl) (by kernel_rfl) (by kernel_rfl) (fun _ _ _ h => h) (by rfl) ?hy92 hHeld ?rest92
  case hy92 => (intro w hSw; (try dsimp only at hSw); go_simp; try with_reducible rfl)
  simp only [Act.put, List.setIfInBounds_toArray, List.set_cons_zero, List.set_cons_succ]
  refine' takeH_16 _ (by kernel_rfl) (by kernel_rfl) (by kernel_rfl) (fun _ _ _ h => h) (by rfl) ?hy93 hHeld ?rest93
  case hy93 => (intro w hSw; (try dsimp only at hSw); go_simp; try with_reducible rfl)
  simp only [Act.put, List.setIfInBounds_toArray, List.set_cons_zero, List.set_cons_succ]
  refine' takeH_17 _ (by kernel_rfl) (by kernel_rfl) (by kernel_rfl) (fun _ _ _ h => h) (by rfl) ?hy94 hHeld ?rest94
  case hy94 => (intro w hSw; (try dsimp only at hSw); go_simp; try with_reducible rfl)
  simp only [Act.put, List.setIfInBounds_toArray, List.set_cons_zero, List.set_cons_succ]
  refine' takeH_18 _ (by kernel_rfl) (by kernel_rfl) (by kernel_rfl) (fun _ _ _ h => h) (by rfl) ?hy95 hHeld ?rest95
  case hy95 => (intro w hSw; (try dsimp only at hSw); go_simp; try with_reducible rfl)
  simp only [Act.put, List.setIfInBounds_toArray, List.set_cons_zero, List.set_cons_succ]
  refine' takeH_20 _ (by kernel_rfl) (by kernel_rfl) (by kernel_rfl) (fun _ _ _ h => h) (by rfl) ?hy96 hHeld ?rest96
  case hy96 => (intro w hSw; (try dsimp only at hSw); go_simp; try with_reducible rfl)
  simp only [Act.put, List.setIfInBounds_toArray, List.set_cons_zero, List.set_cons_succ]
  refine runH_7 (by kernel_rfl) (fun K hK => ?_)
  go_simp
  (go_at_call 71; refine (field_any _ _ _ _ _).mono ?_; rintro e w1 ⟨rfl, rfl⟩; go_wp2_with fail)
  refine hK.out _ _ ?hS98 (fun hHeld => ?rest98)
  case hS98 => (exact hHeld)
  clear hK K
  (try simp only [Act.put, List.setIfInBounds_toArray, List.set_cons_zero, List.set_cons_succ])
  refine runH_13 (by kernel_rfl) (fun K hK => ?_)
  go_simp
  (go_at_call 71; refine (field_any _ _ _ _ _).mono ?_; rintro e w1 ⟨rfl, rfl⟩; go_wp2_with fail)
  refine hK.out _ _ ?hS99 (fun hHeld => ?rest99)
  case hS99 => (exact hHeld)
  clear hK K
  (try simp only [Act.put, List.setIfInBounds_toArray, List.set_cons_zero, List.set_cons_succ])
  refine runH_19 (by kernel_rfl) (fun K hK => ?_)
  go_simp
  (go_at_call 71; refine (field_any _ _ _ _ _).mono ?_; rintro e w1 ⟨rfl, rfl⟩; go_wp2_with fail)
  refine hK.out _ _ ?hS100 (fun hHeld => ?rest100)
  case hS100 => (exact hHeld)
  clear hK K
  (try simp only [Act.put, List.setIfInBounds_toArray, List.set_cons_zero, List.set_cons_succ])
  refine' takeH_21 _ (by kernel_rfl) (by kernel_rfl) (by kernel_rfl) (fun _ _ _ h => h) (by rfl) ?hy101 hHeld ?rest101
  case hy101 => (intro w hSw; (try dsimp only at hSw); go_simp; try with_reducible rfl)
  simp only [Act.put, List.setIfInBounds_toArray, List.set_cons_zero, List.set_cons_succ]
  refine runH_22 (by kernel_rfl) (fun K hK => ?_)
  go_simp
  refine hK.out _ _ ?hS103 (fun hHeld => ?rest103)
  case hS103 => (go_keep)
  clear hK K
  (try simp only [Act.put, List.setIfInBounds_toArray, List.set_cons_zero, List.set_cons_succ])
  refine' takeH_23 _ (by kernel_rfl) (by kernel_rfl) (by kernel_rfl) (fun _ _ _ h => h) (by rfl) ?hy104 hHeld ?rest104
  case hy104 => (intro w hSw; (try dsimp only at hSw); go_simp; try with_reducible rfl)
  simp only [Act.put, List.setIfInBounds_toArray, List.set_cons_zero, List.set_cons_succ]
  refine wpAnyH_done (by kernel_rfl) ?_ _
  go_wp2
  exact bodyPost_ret (v := .tuple #[.agg #[.int .i64 op, .int .i64 (Hm.fieldS D (Hm.eightS bits 100 f.d) (Hm.eightS bits 115 f.r) (Hm.eightS bits 116 f.t)), .int .i64 (Hm.fieldS S (Hm.eightS bits 100 f.d) (Hm.eightS bits 115 f.r) (Hm.eightS bits 116 f.t)), .int .i64 (Hm.fieldS T (Hm.eightS bits 100 f.d) (Hm.eightS bits 115 f.r) (Hm.eightS bits 116 f.t)), .int .i64 (Hm.sgn f.imm (Hm.hi bits).toNat + 1048576)], .bool true]) (by simp [results, Tryd.results47, go_sem]) rfl ⟨(ret_sinst HI.out.symm : Ending.returned (sinstVal op (some ⟨Hm.fieldS D (Hm.eightS bits 100 f.d) (Hm.eightS bits 115 f.r) (Hm.eightS bits 116 f.t), Hm.fieldS S (Hm.eightS bits 100 f.d) (Hm.eightS bits 115 f.r) (Hm.eightS bits 116 f.t), Hm.fieldS T (Hm.eightS bits 100 f.d) (Hm.eightS bits 115 f.r) (Hm.eightS bits 116 f.t), Hm.sgn f.imm (Hm.hi bits).toNat + 1048576⟩)) = _), (below_two w _ _).drew⟩

end Go.Proofs.YtdcmdjeooklmjaaDoor
