/-
  Walks: package code's rowOf, put, take.
-/
import Derived.Test.YtkjkddcgigbglaaDoorC1
set_option linter.unusedVariables false
set_option linter.unusedSimpArgs false
namespace Go.Proofs.YtkjkddcgigbglaaDoor
open Go.RowKit

/-- The table of the Ops lies in block 0. -/
def Tab (w : World) : Prop := 0 < w.heap.size ∧ ∀ k, k < 49 → w.cell? ⟨0, k * 2, none⟩ = some (.int .u8 (Hm.fmtT k)) ∧ w.cell? ⟨0, k * 2 + 1, none⟩ = some (.int .u32 (Hm.bitT k))
theorem Tab.below {B : Nat} {w w' : World} (h : Tab w) (hb : Below B w w') (hB : 0 < B) : Tab w' :=
  ⟨Nat.lt_of_lt_of_le h.1 hb.size, fun k hk => by rw [bcell hb _ _ hB, bcell hb _ _ hB]; exact h.2 k hk⟩
theorem Tab.alloc {w : World} (h : Tab w) (o : Obj) : Tab (w.alloc o) := h.below ((Below.refl _ _).alloc (Nat.le_refl _) o) h.1

def rowV (op : Int) : Value := .agg #[.int .u8 (Hm.fmtOf op), .int .u32 (Hm.bitOf op)]

set_option maxRecDepth 100000 in
set_option maxHeartbeats 1000000 in
theorem rowOf_any (op : Int) (w : World) (ht : Tab w) :
    Calls Tryd.prog 26 #[.int .i64 op] w fun e w' => e = .returned (.agg #[.int .u8 (Hm.fmtOf op), .int .u32 (Hm.bitOf op)]) ∧ Below w.heap.size w w' := by
  by_cases h : 1 ≤ op ∧ op ≤ 48
  · obtain ⟨k, rfl⟩ := Int.eq_ofNat_of_zero_le (by omega : 0 ≤ op)
    have hf : Hm.fmtOf k = Hm.fmtT k := by unfold Hm.fmtOf; rw [if_pos h, Int.toNat_natCast]
    have hg : Hm.bitOf k = Hm.bitT k := by unfold Hm.bitOf; rw [if_pos h, Int.toNat_natCast]
    obtain ⟨h0, h1⟩ := h
    have hz := ht.1
    obtain ⟨c0, c1⟩ := ht.2 k (by omega)
    rw [hf, hg]
    clear hf hg ht
    go_enter Tryd.func26, Tryd.ntmps26
    go_wp2
    exact bodyPost_ret (v := .agg #[.int .u8 (Hm.fmtT k), .int .u32 (Hm.bitT k)]) (by simp [results, Tryd.results26, go_sem]) rfl ⟨rfl, (Below.refl _ _).alloc (Nat.le_refl _) _⟩
  · have hf : Hm.fmtOf op = 0 := by unfold Hm.fmtOf; rw [if_neg h]
    have hg : Hm.bitOf op = 0 := by unfold Hm.bitOf; rw [if_neg h]
    rw [hf, hg]
    clear hf hg ht
    by_cases h0 : op < 1
    · go_enter Tryd.func26, Tryd.ntmps26
      go_wp2
      exact bodyPost_ret (v := .agg #[.int .u8 0, .int .u32 0]) (by simp [results, Tryd.results26, go_sem]) rfl ⟨rfl, (Below.refl _ _).alloc (Nat.le_refl _) _⟩
    · have h1 : 48 < op := by omega
      clear h
      go_enter Tryd.func26, Tryd.ntmps26
      go_wp2
      exact bodyPost_ret (v := .agg #[.int .u8 0, .int .u32 0]) (by simp [results, Tryd.results26, go_sem]) rfl ⟨rfl, (Below.refl _ _).alloc (Nat.le_refl _) _⟩

theorem and_mask (x : Int) (c : Nat) (hx0 : 0 ≤ x) (hx1 : x < 4294967296) (hc : c ≤ 31) : bits .and .u32 x (Hm.pw c - 1) = x % Hm.pw c := by
  have h1 := Hm.pw_pos c
  have h2 : Hm.pw c ≤ 2147483648 := Hm.pw_mono c 31 hc
  rw [u32_and x (Hm.pw c - 1) hx0 hx1 (by omega) (by omega)]
  have e : (Hm.pw c - 1).toNat = 2 ^ c - 1 := by
    have : Hm.pw c = ((2 ^ c : Nat) : Int) := by unfold Hm.pw; simp
    omega
  rw [e, Nat.and_two_pow_sub_one_eq_mod]
  have : Hm.pw c = ((2 ^ c : Nat) : Int) := by unfold Hm.pw; simp
  rw [this]
  obtain ⟨m, rfl⟩ := Int.eq_ofNat_of_zero_le hx0
  rw [Int.toNat_natCast]
  exact_mod_cast rfl
theorem shr_bd (x : Int) (f : Nat) (hx0 : 0 ≤ x) (hx1 : x < 4294967296) : 0 ≤ x / 2 ^ f ∧ x / 2 ^ f < 4294967296 := by
  have h1 := Hm.pw_pos f
  have h2 : (0 : Int) < 2 ^ f := by show 0 < Hm.pw f; omega
  refine ⟨Int.ediv_nonneg hx0 (Int.le_of_lt h2), ?_⟩
  have := Int.ediv_le_self (2 ^ f) hx0
  omega

set_option maxRecDepth 100000 in
set_option maxHeartbeats 1000000 in
theorem put_any (f c a x : Int) (w : World) (f0 : 0 ≤ f) (f1 : f ≤ 31) (c0 : 0 ≤ c) (c1 : c ≤ 31) (a0 : 0 ≤ a) (a1 : a ≤ 31) (x0 : 0 ≤ x) (x1 : x < 4294967296) :
    Calls Tryd.prog 30 #[.agg #[.int .u8 f, .int .u8 c, .int .u8 a], .int .u32 x] w fun e w' => e = .returned (.int .u32 (Hm.putC f c a x)) ∧ Below w.heap.size w w' := by
  have HS := shr_bd x f.toNat x0 x1
  have HM : Hid (bits .and .u32 (x / 2 ^ f.toNat) (Hm.pw c.toNat - 1) = x / 2 ^ f.toNat % Hm.pw c.toNat) := and_mask _ _ HS.1 HS.2 (by omega)
  have HP : Hid (IntKind.u32.wrap (bits .and .u32 (x / 2 ^ f.toNat) (Hm.pw c.toNat - 1) * 2 ^ a.toNat) = Hm.putC f c a x) := by
    show _ = _
    rw [HM.out, IntKind.wrap_u32]; rfl
  clear HS
  go_enter Tryd.func30, Tryd.ntmps30
  go_wp2
  refine wp_region_held_drew (S := fun w' => w'.cell? ⟨w.heap.size, 0, none⟩ = some (.int .u8 f) ∧ w'.cell? ⟨w.heap.size, 1, none⟩ = some (.int .u8 c) ∧ w'.cell? ⟨w.heap.size, 2, none⟩ = some (.int .u8 a)) (by kernel_rfl) (by go_keep) (fun hHeld => ?_)
  refine' takeH_0 _ (by kernel_rfl) (by kernel_rfl) (by kernel_rfl) (fun _ _ _ h => h) (by rfl) ?hy1 hHeld ?rest1
  case hy1 => (intro w hSw; (try dsimp only at hSw); go_simp; try with_reducible rfl)
  simp only [Act.put, List.setIfInBounds_toArray, List.set_cons_zero, List.set_cons_succ]
  refine' takeH_1 _ (by kernel_rfl) (by kernel_rfl) (by kernel_rfl) (fun _ _ _ h => h) (by rfl) ?hy2 hHeld ?rest2
  case hy2 => (intro w hSw; (try dsimp only at hSw); go_simp; try with_reducible rfl)
  simp only [Act.put, List.setIfInBounds_toArray, List.set_cons_zero, List.set_cons_succ]
  refine' takeH_2 _ (by kernel_rfl) (by kernel_rfl) (by kernel_rfl) (fun _ _ _ h => h) (by rfl) ?hy3 hHeld ?rest3
  case hy3 => (intro w hSw; (try dsimp only at hSw); go_simp; try with_reducible rfl)
  simp only [Act.put, List.setIfInBounds_toArray, List.set_cons_zero, List.set_cons_succ]
  refine' takeH_3 _ (by kernel_rfl) (by kernel_rfl) (by kernel_rfl) (fun _ _ _ h => h) (by rfl) ?hy4 hHeld ?rest4
  case hy4 => (intro w hSw; (try dsimp only at hSw); go_simp; try with_reducible rfl)
  simp only [Act.put, List.setIfInBounds_toArray, List.set_cons_zero, List.set_cons_succ]
  refine' takeH_4 _ (by kernel_rfl) (by kernel_rfl) (by kernel_rfl) (fun _ _ _ h => h) (by rfl) ?hy5 hHeld ?rest5
  case hy5 => (intro w hSw; (try dsimp only at hSw); go_simp; try with_reducible rfl)
  simp only [Act.put, List.setIfInBounds_toArray, List.set_cons_zero, List.set_cons_succ]
  refine' takeH_7 _ (by kernel_rfl) (by kernel_rfl) (by kernel_rfl) (fun _ _ _ h => h) (by rfl) ?hy6 hHeld ?rest6
  case hy6 => (intro w hSw; (try dsimp only at hSw); go_simp; try with_reducible rfl)
  simp only [Act.put, List.setIfInBounds_toArray, List.set_cons_zero, List.set_cons_succ]
  refine' takeH_8 _ (by kernel_rfl) (by kernel_rfl) (by kernel_rfl) (fun _ _ _ h => h) (by rfl) ?hy7 hHeld ?rest7
  case hy7 => (intro w hSw; (try dsimp only at hSw); go_simp; try with_reducible rfl)
  simp only [Act.put, List.setIfInBounds_toArray, List.set_cons_zero, List.set_cons_succ]
  refine runH_5 (by kernel_rfl) (fun K hK => ?_)
  go_simp
  (go_at_call 36; refine (mask_any _ _ _ _ c0 c1).mono ?_; rintro e w1 ⟨rfl, hb⟩; go_wp2_with fail)
  refine hK.out _ _ ?hS9 (fun hHeld => ?rest9)
  case hS9 => ((simp only [bcell hb _ _ (show w.heap.size < _ by simp)]; go_keep))
  clear hK K
  (try simp only [Act.put, List.setIfInBounds_toArray, List.set_cons_zero, List.set_cons_succ])
  have HB : Hid (Below w.heap.size w w1) := (((Below.refl _ _).alloc (Nat.le_refl _) _).drew).trans (hb.mono (by simp))
  clear hb
  refine' takeH_6 _ (by kernel_rfl) (by kernel_rfl) (by kernel_rfl) (fun _ _ _ h => h) (by rfl) ?hy10 hHeld ?rest10
  case hy10 => (intro w hSw; (try dsimp only at hSw); go_simp; try with_reducible rfl)
  simp only [Act.put, List.setIfInBounds_toArray, List.set_cons_zero, List.set_cons_succ]
  refine' takeH_9 _ (by kernel_rfl) (by kernel_rfl) (by kernel_rfl) (fun _ _ _ h => h) (by rfl) ?hy11 hHeld ?rest11
  case hy11 => (intro w hSw; (try dsimp only at hSw); go_simp; try with_reducible rfl)
  simp only [Act.put, List.setIfInBounds_toArray, List.set_cons_zero, List.set_cons_succ]
  refine' takeH_10 _ (by kernel_rfl) (by kernel_rfl) (by kernel_rfl) (fun _ _ _ h => h) (by rfl) ?hy12 hHeld ?rest12
  case hy12 => (intro w hSw; (try dsimp only at hSw); go_simp; try with_reducible rfl)
  simp only [Act.put, List.setIfInBounds_toArray, List.set_cons_zero, List.set_cons_succ]
  refine wpAnyH_done (by kernel_rfl) ?_ _
  go_wp2
  go_ret
  exact ⟨ret_int HP.out, HB.out⟩

set_option maxRecDepth 100000 in
set_option maxHeartbeats 1000000 in
theorem take_any (f c a x : Int) (w : World) (f0 : 0 ≤ f) (f1 : f ≤ 31) (c0 : 0 ≤ c) (c1 : c ≤ 31) (a0 : 0 ≤ a) (a1 : a ≤ 31) (x0 : 0 ≤ x) (x1 : x < 4294967296) :
    Calls Tryd.prog 39 #[.agg #[.int .u8 a, .int .u8 c, .int .u8 f], .int .u32 x] w fun e w' => e = .returned (.int .u32 (Hm.putC f c a x)) ∧ Below w.heap.size w w' := by
  have HS := shr_bd x f.toNat x0 x1
  have HM : Hid (bits .and .u32 (x / 2 ^ f.toNat) (Hm.pw c.toNat - 1) = x / 2 ^ f.toNat % Hm.pw c.toNat) := and_mask _ _ HS.1 HS.2 (by omega)
  have HP : Hid (IntKind.u32.wrap (bits .and .u32 (x / 2 ^ f.toNat) (Hm.pw c.toNat - 1) * 2 ^ a.toNat) = Hm.putC f c a x) := by
    show _ = _
    rw [HM.out, IntKind.wrap_u32]; rfl
  clear HS
  go_enter Tryd.func39, Tryd.ntmps39
  go_wp2
  refine wp_region_held_drew (S := fun w' => w'.cell? ⟨w.heap.size, 0, none⟩ = some (.int .u8 a) ∧ w'.cell? ⟨w.heap.size, 1, none⟩ = some (.int .u8 c) ∧ w'.cell? ⟨w.heap.size, 2, none⟩ = some (.int .u8 f)) (by kernel_rfl) (by go_keep) (fun hHeld => ?_)
  refine' takeH_0 _ (by kernel_rfl) (by kernel_rfl) (by kernel_rfl) (fun _ _ _ h => h) (by rfl) ?hy13 hHeld ?rest13
  case hy13 => (intro w hSw; (try dsimp only at hSw); go_simp; try with_reducible rfl)
  simp only [Act.put, List.setIfInBounds_toArray, List.set_cons_zero, List.set_cons_succ]
  refine' takeH_1 _ (by kernel_rfl) (by kernel_rfl) (by kernel_rfl) (fun _ _ _ h => h) (by rfl) ?hy14 hHeld ?rest14
  case hy14 => (intro w hSw; (try dsimp only at hSw); go_simp; try with_reducible rfl)
  simp only [Act.put, List.setIfInBounds_toArray, List.set_cons_zero, List.set_cons_succ]
  refine' takeH_2 _ (by kernel_rfl) (by kernel_rfl) (by kernel_rfl) (fun _ _ _ h => h) (by rfl) ?hy15 hHeld ?rest15
  case hy15 => (intro w hSw; (try dsimp only at hSw); go_simp; try with_reducible rfl)
  simp only [Act.put, List.setIfInBounds_toArray, List.set_cons_zero, List.set_cons_succ]
  refine' takeH_3 _ (by kernel_rfl) (by kernel_rfl) (by kernel_rfl) (fun _ _ _ h => h) (by rfl) ?hy16 hHeld ?rest16
  case hy16 => (intro w hSw; (try dsimp only at hSw); go_simp; try with_reducible rfl)
  simp only [Act.put, List.setIfInBounds_toArray, List.set_cons_zero, List.set_cons_succ]
  refine' takeH_4 _ (by kernel_rfl) (by kernel_rfl) (by kernel_rfl) (fun _ _ _ h => h) (by rfl) ?hy17 hHeld ?rest17
  case hy17 => (intro w hSw; (try dsimp only at hSw); go_simp; try with_reducible rfl)
  simp only [Act.put, List.setIfInBounds_toArray, List.set_cons_zero, List.set_cons_succ]
  refine' takeH_7 _ (by kernel_rfl) (by kernel_rfl) (by kernel_rfl) (fun _ _ _ h => h) (by rfl) ?hy18 hHeld ?rest18
  case hy18 => (intro w hSw; (try dsimp only at hSw); go_simp; try with_reducible rfl)
  simp only [Act.put, List.setIfInBounds_toArray, List.set_cons_zero, List.set_cons_succ]
  refine' takeH_8 _ (by kernel_rfl) (by kernel_rfl) (by kernel_rfl) (fun _ _ _ h => h) (by rfl) ?hy19 hHeld ?rest19
  case hy19 => (intro w hSw; (try dsimp only at hSw); go_simp; try with_reducible rfl)
  simp only [Act.put, List.setIfInBounds_toArray, List.set_cons_zero, List.set_cons_succ]
  refine runH_5 (by kernel_rfl) (fun K hK => ?_)
  go_simp
  (go_at_call 36; refine (mask_any _ _ _ _ c0 c1).mono ?_; rintro e w1 ⟨rfl, hb⟩; go_wp2_with fail)
  refine hK.out _ _ ?hS21 (fun hHeld => ?rest21)
  case hS21 => ((simp only [bcell hb _ _ (show w.heap.size < _ by simp)]; go_keep))
  clear hK K
  (try simp only [Act.put, List.setIfInBounds_toArray, List.set_cons_zero, List.set_cons_succ])
  have HB : Hid (Below w.heap.size w w1) := (((Below.refl _ _).alloc (Nat.le_refl _) _).drew).trans (hb.mono (by simp))
  clear hb
  refine' takeH_6 _ (by kernel_rfl) (by kernel_rfl) (by kernel_rfl) (fun _ _ _ h => h) (by rfl) ?hy22 hHeld ?rest22
  case hy22 => (intro w hSw; (try dsimp only at hSw); go_simp; try with_reducible rfl)
  simp only [Act.put, List.setIfInBounds_toArray, List.set_cons_zero, List.set_cons_succ]
  refine' takeH_9 _ (by kernel_rfl) (by kernel_rfl) (by kernel_rfl) (fun _ _ _ h => h) (by rfl) ?hy23 hHeld ?rest23
  case hy23 => (intro w hSw; (try dsimp only at hSw); go_simp; try with_reducible rfl)
  simp only [Act.put, List.setIfInBounds_toArray, List.set_cons_zero, List.set_cons_succ]
  refine' takeH_10 _ (by kernel_rfl) (by kernel_rfl) (by kernel_rfl) (fun _ _ _ h => h) (by rfl) ?hy24 hHeld ?rest24
  case hy24 => (intro w hSw; (try dsimp only at hSw); go_simp; try with_reducible rfl)
  simp only [Act.put, List.setIfInBounds_toArray, List.set_cons_zero, List.set_cons_succ]
  refine wpAnyH_done (by kernel_rfl) ?_ _
  go_wp2
  go_ret
  exact ⟨ret_int HP.out, HB.out⟩

end Go.Proofs.YtkjkddcgigbglaaDoor
