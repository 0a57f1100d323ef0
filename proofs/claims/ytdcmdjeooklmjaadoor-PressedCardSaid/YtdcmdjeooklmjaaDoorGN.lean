/-
  C1 C2 C3 C4 in one text.
-/
import Derived.Test.YtdcmdjeooklmjaaDoorGK
import Derived.Test.YtdcmdjeooklmjaaDoorGL
import Derived.Test.YtdcmdjeooklmjaaDoorGA
set_option linter.unusedVariables false
set_option linter.unusedSimpArgs false
/-
  Walks: package code's leaves: fits, holds, mask, register, signed, tellingBits.
-/
namespace Go.Proofs.YtdcmdjeooklmjaaDoor
open Go.RowKit

theorem and_one_i64 (n : Int) : bits .and .i64 n 1 = n % 2 := by
  have h : (BitVec.ofInt 64 n &&& BitVec.ofInt 64 1).toNat = (n % 2).toNat := by
    rw [BitVec.toNat_and, BitVec.toNat_ofInt, BitVec.toNat_ofInt]
    have e1 : (1 % ((2 : Int) ^ 64)).toNat = 1 := by decide
    have e2 : ((2 ^ 64 : Nat) : Int) = 18446744073709551616 := by decide
    rw [e2]
    rw [show ((1 : Int) % 18446744073709551616).toNat = 1 from by decide, Nat.and_one_is_mod]
    omega
  show IntKind.i64.wrap ((BitVec.ofInt 64 n &&& BitVec.ofInt 64 1).toNat : Int) = n % 2
  rw [h, IntKind.wrap_i64]
  omega

set_option maxHeartbeats 400000 in
theorem cfits_any (n : Int) (u : Bool) (w : World) :
    Calls Tryd.prog 61 #[.int .i64 n, .bool u] w fun e w' => e = .returned (.bool (Hm.fitsC n u)) ∧ w' = w := by
  cases u with
  | false =>
    have HK : Hid (Hm.fitsC n false = decide (n = 0)) := rfl
    go_enter Tryd.func61, Tryd.ntmps61
    go_wp2
    go_ret
    exact ⟨ret_bool (by rw [HK.out]; rfl), rfl⟩
  | true =>
    by_cases h : 0 ≤ n
    · have HK : Hid (Hm.fitsC n true = decide (n < 32)) := by simp [Hid, Hm.fitsC, h]
      go_enter Tryd.func61, Tryd.ntmps61
      go_wp2
      go_ret
      exact ⟨ret_bool HK.out.symm, rfl⟩
    · have HK : Hid (Hm.fitsC n true = false) := by simp [Hid, Hm.fitsC, h]
      go_enter Tryd.func61, Tryd.ntmps61
      go_wp2
      go_ret
      exact ⟨ret_bool HK.out.symm, rfl⟩

set_option maxHeartbeats 400000 in
theorem holds_any (l m n : Int) (v : Bool) (w : World) :
    Calls Tryd.prog 62 #[.agg #[.int .i64 l, .int .i64 m, .bool v], .int .i64 n] w fun e w' => e = .returned (.bool (Hm.holdsC l m v n)) ∧ Below w.heap.size w w' := by
  have HA : Hid (bits .and .i64 n 1 = n % 2) := and_one_i64 n
  by_cases h1 : l ≤ n
  · by_cases h2 : n ≤ m
    · cases v with
      | false =>
        have HK : Hid (Hm.holdsC l m false n = true) := by simp [Hid, Hm.holdsC, h1, h2]
        go_enter Tryd.func62, Tryd.ntmps62
        go_wp2
        go_ret
        exact ⟨ret_bool HK.out.symm, (Below.refl _ _).alloc (Nat.le_refl _) _⟩
      | true =>
        have HK : Hid (Hm.holdsC l m true n = !(bits .and .i64 n 1 != 0)) := by
          show _ = _
          rw [HA.out]
          simp [Hm.holdsC, h1, h2]
          by_cases e : n % 2 = 0 <;> simp [e]
        go_enter Tryd.func62, Tryd.ntmps62
        go_wp2
        go_ret
        exact ⟨ret_bool HK.out.symm, (Below.refl _ _).alloc (Nat.le_refl _) _⟩
    · have HK : Hid (Hm.holdsC l m v n = false) := by simp [Hid, Hm.holdsC, h2]
      go_enter Tryd.func62, Tryd.ntmps62
      go_wp2
      go_ret
      exact ⟨ret_bool HK.out.symm, (Below.refl _ _).alloc (Nat.le_refl _) _⟩
  · have HK : Hid (Hm.holdsC l m v n = false) := by simp [Hid, Hm.holdsC, h1]
    go_enter Tryd.func62, Tryd.ntmps62
    go_wp2
    go_ret
    exact ⟨ret_bool HK.out.symm, (Below.refl _ _).alloc (Nat.le_refl _) _⟩

set_option maxHeartbeats 400000 in
theorem mask_any (f c a : Int) (w : World) (hc0 : 0 ≤ c) (hc1 : c ≤ 31) :
    Calls Tryd.prog 85 #[.agg #[.int .u8 f, .int .u8 c, .int .u8 a]] w fun e w' => e = .returned (.int .u32 (Hm.pw c.toNat - 1)) ∧ Below w.heap.size w w' := by
  have HP : Hid ((2 ^ c.toNat % 4294967296 - 1) % 4294967296 = Hm.pw c.toNat - 1) := by
    have h1 := Hm.pw_pos c.toNat
    have h2 : Hm.pw c.toNat ≤ 2147483648 := Hm.pw_mono c.toNat 31 (by omega)
    show (Hm.pw c.toNat % 4294967296 - 1) % 4294967296 = Hm.pw c.toNat - 1
    omega
  go_enter Tryd.func85, Tryd.ntmps85
  go_wp2
  go_ret
  exact ⟨ret_int HP.out, (Below.refl _ _).alloc (Nat.le_refl _) _⟩

theorem and_31 (x : Int) (hx0 : 0 ≤ x) (hx1 : x < 4294967296) : bits .and .u32 x 31 = x % 32 := by
  rw [u32_and x 31 hx0 hx1 (by omega) (by omega)]
  rw [show (31 : Int).toNat = 31 from rfl, nat_mask5]
  omega

set_option maxHeartbeats 400000 in
theorem creg_any (x : Int) (u : Bool) (w : World) (hx0 : 0 ≤ x) (hx1 : x < 4294967296) :
    Calls Tryd.prog 86 #[.int .u32 x, .bool u] w fun e w' => e = .returned (.int .i64 (Hm.regC x u)) ∧ w' = w := by
  cases u with
  | false =>
    go_enter Tryd.func86, Tryd.ntmps86
    go_wp2
    go_ret
    exact ⟨rfl, rfl⟩
  | true =>
    have HP : Hid (wrap64 (bits .and .u32 x 31) = Hm.regC x true) := by
      show wrap64 (bits .and .u32 x 31) = x % 32
      rw [and_31 x hx0 hx1]
      exact IntWalk.wrap64_in _ ⟨by omega, by omega⟩
    go_enter Tryd.func86, Tryd.ntmps86
    go_wp2
    go_ret
    exact ⟨ret_int HP.out, rfl⟩

set_option maxHeartbeats 400000 in
theorem csigned_any (l m n : Int) (v : Bool) (w : World) (hl0 : -1048576 ≤ l) (hl1 : l ≤ 0) (hn0 : 0 ≤ n) (hn1 : n < 4294967296) :
    Calls Tryd.prog 115 #[.agg #[.int .i64 l, .int .i64 m, .bool v], .int .i64 n] w fun e w' => e = .returned (.int .i64 (Hm.sgnC l m n)) ∧ Below w.heap.size w w' := by
  by_cases h : m < n
  · have HK : Hid (Hm.sgnC l m n = n + 2 * l) := by simp [Hid, Hm.sgnC, h]
    go_enter Tryd.func115, Tryd.ntmps115
    go_wp2
    go_ret
    exact ⟨ret_int HK.out.symm, (Below.refl _ _).alloc (Nat.le_refl _) _⟩
  · have HK : Hid (Hm.sgnC l m n = n) := by simp [Hid, Hm.sgnC, h]
    go_enter Tryd.func115, Tryd.ntmps115
    go_wp2
    go_ret
    exact ⟨ret_int HK.out.symm, (Below.refl _ _).alloc (Nat.le_refl _) _⟩

set_option maxHeartbeats 1000000 in
theorem tell_any (f : Int) (w : World) (h0 : 0 ≤ f) (h1 : f ≤ 9) :
    Calls Tryd.prog 66 #[.int .u8 f] w fun e w' => e = .returned (.int .u32 (Hm.tellC f)) ∧ w' = w := by
  have hf : f = 0 ∨ f = 1 ∨ f = 2 ∨ f = 3 ∨ f = 4 ∨ f = 5 ∨ f = 6 ∨ f = 7 ∨ f = 8 ∨ f = 9 := by omega
  clear h0 h1
  rcases hf with rfl | rfl | rfl | rfl | rfl | rfl | rfl | rfl | rfl | rfl
  all_goals
    go_enter Tryd.func66, Tryd.ntmps66
    go_wp2
    go_ret
    exact ⟨rfl, rfl⟩

end Go.Proofs.YtdcmdjeooklmjaaDoor

/-
  Walks: package code's rowOf, put, take.
-/
namespace Go.Proofs.YtdcmdjeooklmjaaDoor
open Go.RowKit

/-- The table of the Ops lies in its variable's block. -/
def Tab (w : World) : Prop := 1 < w.heap.size ∧ ∀ k, k < 49 → w.cell? ⟨1, k * 2, none⟩ = some (.int .u8 (Hm.fmtT k)) ∧ w.cell? ⟨1, k * 2 + 1, none⟩ = some (.int .u32 (Hm.bitT k))
theorem Tab.below {B : Nat} {w w' : World} (h : Tab w) (hb : Below B w w') (hB : 1 < B) : Tab w' :=
  ⟨Nat.lt_of_lt_of_le h.1 hb.size, fun k hk => by rw [bcell hb _ _ hB, bcell hb _ _ hB]; exact h.2 k hk⟩
theorem Tab.alloc {w : World} (h : Tab w) (o : Obj) : Tab (w.alloc o) := h.below ((Below.refl _ _).alloc (Nat.le_refl _) o) h.1

def rowV (op : Int) : Value := .agg #[.int .u8 (Hm.fmtOf op), .int .u32 (Hm.bitOf op)]

set_option maxRecDepth 100000 in
set_option maxHeartbeats 1000000 in
theorem rowOf_any (op : Int) (w : World) (ht : Tab w) :
    Calls Tryd.prog 59 #[.int .i64 op] w fun e w' => e = .returned (.agg #[.int .u8 (Hm.fmtOf op), .int .u32 (Hm.bitOf op)]) ∧ Below w.heap.size w w' := by
  by_cases h : 1 ≤ op ∧ op ≤ 48
  · obtain ⟨k, rfl⟩ := Int.eq_ofNat_of_zero_le (by omega : 0 ≤ op)
    have hf : Hm.fmtOf k = Hm.fmtT k := by unfold Hm.fmtOf; rw [if_pos h, Int.toNat_natCast]
    have hg : Hm.bitOf k = Hm.bitT k := by unfold Hm.bitOf; rw [if_pos h, Int.toNat_natCast]
    obtain ⟨h0, h1⟩ := h
    have hz := ht.1
    obtain ⟨c0, c1⟩ := ht.2 k (by omega)
    rw [hf, hg]
    clear hf hg ht
    go_enter Tryd.func59, Tryd.ntmps59
    go_wp2
    exact bodyPost_ret (v := .agg #[.int .u8 (Hm.fmtT k), .int .u32 (Hm.bitT k)]) (by simp [results, Tryd.results59, go_sem]) rfl ⟨rfl, (Below.refl _ _).alloc (Nat.le_refl _) _⟩
  · have hf : Hm.fmtOf op = 0 := by unfold Hm.fmtOf; rw [if_neg h]
    have hg : Hm.bitOf op = 0 := by unfold Hm.bitOf; rw [if_neg h]
    rw [hf, hg]
    clear hf hg ht
    by_cases h0 : op < 1
    · go_enter Tryd.func59, Tryd.ntmps59
      go_wp2
      exact bodyPost_ret (v := .agg #[.int .u8 0, .int .u32 0]) (by simp [results, Tryd.results59, go_sem]) rfl ⟨rfl, (Below.refl _ _).alloc (Nat.le_refl _) _⟩
    · have h1 : 48 < op := by omega
      clear h
      go_enter Tryd.func59, Tryd.ntmps59
      go_wp2
      exact bodyPost_ret (v := .agg #[.int .u8 0, .int .u32 0]) (by simp [results, Tryd.results59, go_sem]) rfl ⟨rfl, (Below.refl _ _).alloc (Nat.le_refl _) _⟩

theorem and_mask (x : Int) (c : Nat) (hx0 : 0 ≤ x) (hx1 : x < 4294967296) (hc : c ≤ 31) : bits .and .u32 x (Hm.pw c - 1) = x % Hm.pw c := by
  have h1 := Hm.pw_pos c
  have h2 : Hm.pw c ≤ 2147483648 := Hm.pw_mono c 31 hc
  rw [u32_and x (Hm.pw c - 1) hx0 hx1 (by omega) (by omega)]
  have e : (Hm.pw c - 1).toNat = 2 ^ c - 1 := by
    have : Hm.pw c = ((2 ^ c : Nat) : Int) := by unfold Hm.pw; simp
    omega
  rw [e, Nat.and_two_pow_sub_one_eq_mod]
  have : Hm.pw c = ((2 ^ c : Nat) : Int) := by unfold Hm.pw; simp
  rw [this]
  obtain ⟨m, rfl⟩ := Int.eq_ofNat_of_zero_le hx0
  rw [Int.toNat_natCast]
  exact_mod_cast rfl
theorem shr_bd (x : Int) (f : Nat) (hx0 : 0 ≤ x) (hx1 : x < 4294967296) : 0 ≤ x / 2 ^ f ∧ x / 2 ^ f < 4294967296 := by
  have h1 := Hm.pw_pos f
  have h2 : (0 : Int) < 2 ^ f := by show 0 < Hm.pw f; omega
  refine ⟨Int.ediv_nonneg hx0 (Int.le_of_lt h2), ?_⟩
  have := Int.ediv_le_self (2 ^ f) hx0
  omega

set_option maxRecDepth 100000 in
set_option maxHeartbeats 1000000 in
theorem put_any (f c a x : Int) (w : World) (f0 : 0 ≤ f) (f1 : f ≤ 31) (c0 : 0 ≤ c) (c1 : c ≤ 31) (a0 : 0 ≤ a) (a1 : a ≤ 31) (x0 : 0 ≤ x) (x1 : x < 4294967296) :
    Calls Tryd.prog 63 #[.agg #[.int .u8 f, .int .u8 c, .int .u8 a], .int .u32 x] w fun e w' => e = .returned (.int .u32 (Hm.putC f c a x)) ∧ Below w.heap.size w w' := by
  have HS := shr_bd x f.toNat x0 x1
  have HM : Hid (bits .and .u32 (x / 2 ^ f.toNat) (Hm.pw c.toNat - 1) = x / 2 ^ f.toNat % Hm.pw c.toNat) := and_mask _ _ HS.1 HS.2 (by omega)
  have HP : Hid (IntKind.u32.wrap (bits .and .u32 (x / 2 ^ f.toNat) (Hm.pw c.toNat - 1) * 2 ^ a.toNat) = Hm.putC f c a x) := by
    show _ = _
    rw [HM.out, IntKind.wrap_u32]; rfl
  clear HS
  go_enter Tryd.func63, Tryd.ntmps63
  go_wp2
  refine wp_region_held_drew (S := fun w' => w'.cell? ⟨w.heap.size, 0, none⟩ = some (.int .u8 f) ∧ w'.cell? ⟨w.heap.size, 1, none⟩ = some (.int .u8 c) ∧ w'.cell? ⟨w.heap.size, 2, none⟩ = some (.int .u8 a)) (by kernel_rfl) (by go_keep) (fun hHeld => ?_)
  refine' takeH_0 _ (by kernel_rfl) (by kernel_rfl) (by kernel_rfl) (fun _ _ _ h => h) (by rfl) ?hy1 hHeld ?rest1
  case hy1 => (intro w hSw; (try dsimp only at hSw); go_simp; try with_reducible rfl)
  simp only [Act.put, List.setIfInBounds_toArray, List.set_cons_zero, List.set_cons_succ]
  refine' takeH_1 _ (by kernel_rfl) (by kernel_rfl) (by kernel_rfl) (fun _ _ _ h => h) (by rfl) ?hy2 hHeld ?rest2
  case hy2 => (intro w hSw; (try dsimp only at hSw); go_simp; try with_reducible rfl)
  simp only [Act.put, List.setIfInBounds_toArray, List.set_cons_zero, List.set_cons_succ]
  refine' takeH_2 _ (by kernel_rfl) (by kernel_rfl) (by kernel_rfl) (fun _ _ _ h => h) (by rfl) ?hy3 hHeld ?rest3
  case hy3 => (intro w hSw; (try dsimp only at hSw); go_simp; try with_reducible rfl)
  simp only [Act.put, List.setIfInBounds_toArray, List.set_cons_zero, List.set_cons_succ]
  refine' takeH_3 _ (by kernel_rfl) (by kernel_rfl) (by kernel_rfl) (fun _ _ _ h => h) (by rfl) ?hy4 hHeld ?rest4
  case hy4 => (intro w hSw; (try dsimp only at hSw); go_simp; try with_reducible rfl)
  simp only [Act.put, List.setIfInBounds_toArray, List.set_cons_zero, List.set_cons_succ]
  refine' takeH_4 _ (by kernel_rfl) (by kernel_rfl) (by kernel_rfl) (fun _ _ _ h => h) (by rfl) ?hy5 hHeld ?rest5
  case hy5 => (intro w hSw; (try dsimp only at hSw); go_simp; try with_reducible rfl)
  simp only [Act.put, List.setIfInBounds_toArray, List.set_cons_zero, List.set_cons_succ]
  refine' takeH_7 _ (by kernel_rfl) (by kernel_rfl) (by kernel_rfl) (fun _ _ _ h => h) (by rfl) ?hy6 hHeld ?rest6
  case hy6 => (intro w hSw; (try dsimp only at hSw); go_simp; try with_reducible rfl)
  simp only [Act.put, List.setIfInBounds_toArray, List.set_cons_zero, List.set_cons_succ]
  refine' takeH_8 _ (by kernel_rfl) (by kernel_rfl) (by kernel_rfl) (fun _ _ _ h => h) (by rfl) ?hy7 hHeld ?rest7
  case hy7 => (intro w hSw; (try dsimp only at hSw); go_simp; try with_reducible rfl)
  simp only [Act.put, List.setIfInBounds_toArray, List.set_cons_zero, List.set_cons_succ]
  refine runH_5 (by kernel_rfl) (fun K hK => ?_)
  go_simp
  (go_at_call 85; refine (mask_any _ _ _ _ c0 c1).mono ?_; rintro e w1 ⟨rfl, hb⟩; go_wp2_with fail)
  refine hK.out _ _ ?hS9 (fun hHeld => ?rest9)
  case hS9 => ((simp only [bcell hb _ _ (show w.heap.size < _ by simp)]; go_keep))
  clear hK K
  (try simp only [Act.put, List.setIfInBounds_toArray, List.set_cons_zero, List.set_cons_succ])
  have HB : Hid (Below w.heap.size w w1) := (((Below.refl _ _).alloc (Nat.le_refl _) _).drew).trans (hb.mono (by simp))
  clear hb
  refine' takeH_6 _ (by kernel_rfl) (by kernel_rfl) (by kernel_rfl) (fun _ _ _ h => h) (by rfl) ?hy10 hHeld ?rest10
  case hy10 => (intro w hSw; (try dsimp only at hSw); go_simp; try with_reducible rfl)
  simp only [Act.put, List.setIfInBounds_toArray, List.set_cons_zero, List.set_cons_succ]
  refine' takeH_9 _ (by kernel_rfl) (by kernel_rfl) (by kernel_rfl) (fun _ _ _ h => h) (by rfl) ?hy11 hHeld ?rest11
  case hy11 => (intro w hSw; (try dsimp only at hSw); go_simp; try with_reducible rfl)
  simp only [Act.put, List.setIfInBounds_toArray, List.set_cons_zero, List.set_cons_succ]
  refine' takeH_10 _ (by kernel_rfl) (by kernel_rfl) (by kernel_rfl) (fun _ _ _ h => h) (by rfl) ?hy12 hHeld ?rest12
  case hy12 => (intro w hSw; (try dsimp only at hSw); go_simp; try with_reducible rfl)
  simp only [Act.put, List.setIfInBounds_toArray, List.set_cons_zero, List.set_cons_succ]
  refine wpAnyH_done (by kernel_rfl) ?_ _
  go_wp2
  go_ret
  exact ⟨ret_int HP.out, HB.out⟩

set_option maxRecDepth 100000 in
set_option maxHeartbeats 1000000 in
theorem take_any (f c a x : Int) (w : World) (f0 : 0 ≤ f) (f1 : f ≤ 31) (c0 : 0 ≤ c) (c1 : c ≤ 31) (a0 : 0 ≤ a) (a1 : a ≤ 31) (x0 : 0 ≤ x) (x1 : x < 4294967296) :
    Calls Tryd.prog 114 #[.agg #[.int .u8 a, .int .u8 c, .int .u8 f], .int .u32 x] w fun e w' => e = .returned (.int .u32 (Hm.putC f c a x)) ∧ Below w.heap.size w w' := by
  have HS := shr_bd x f.toNat x0 x1
  have HM : Hid (bits .and .u32 (x / 2 ^ f.toNat) (Hm.pw c.toNat - 1) = x / 2 ^ f.toNat % Hm.pw c.toNat) := and_mask _ _ HS.1 HS.2 (by omega)
  have HP : Hid (IntKind.u32.wrap (bits .and .u32 (x / 2 ^ f.toNat) (Hm.pw c.toNat - 1) * 2 ^ a.toNat) = Hm.putC f c a x) := by
    show _ = _
    rw [HM.out, IntKind.wrap_u32]; rfl
  clear HS
  go_enter Tryd.func114, Tryd.ntmps114
  go_wp2
  refine wp_region_held_drew (S := fun w' => w'.cell? ⟨w.heap.size, 0, none⟩ = some (.int .u8 a) ∧ w'.cell? ⟨w.heap.size, 1, none⟩ = some (.int .u8 c) ∧ w'.cell? ⟨w.heap.size, 2, none⟩ = some (.int .u8 f)) (by kernel_rfl) (by go_keep) (fun hHeld => ?_)
  refine' takeH_0 _ (by kernel_rfl) (by kernel_rfl) (by kernel_rfl) (fun _ _ _ h => h) (by rfl) ?hy13 hHeld ?rest13
  case hy13 => (intro w hSw; (try dsimp only at hSw); go_simp; try with_reducible rfl)
  simp only [Act.put, List.setIfInBounds_toArray, List.set_cons_zero, List.set_cons_succ]
  refine' takeH_1 _ (by kernel_rfl) (by kernel_rfl) (by kernel_rfl) (fun _ _ _ h => h) (by rfl) ?hy14 hHeld ?rest14
  case hy14 => (intro w hSw; (try dsimp only at hSw); go_simp; try with_reducible rfl)
  simp only [Act.put, List.setIfInBounds_toArray, List.set_cons_zero, List.set_cons_succ]
  refine' takeH_2 _ (by kernel_rfl) (by kernel_rfl) (by kernel_rfl) (fun _ _ _ h => h) (by rfl) ?hy15 hHeld ?rest15
  case hy15 => (intro w hSw; (try dsimp only at hSw); go_simp; try with_reducible rfl)
  simp only [Act.put, List.setIfInBounds_toArray, List.set_cons_zero, List.set_cons_succ]
  refine' takeH_3 _ (by kernel_rfl) (by kernel_rfl) (by kernel_rfl) (fun _ _ _ h => h) (by rfl) ?hy16 hHeld ?rest16
  case hy16 => (intro w hSw; (try dsimp only at hSw); go_simp; try with_reducible rfl)
  simp only [Act.put, List.setIfInBounds_toArray, List.set_cons_zero, List.set_cons_succ]
  refine' takeH_4 _ (by kernel_rfl) (by kernel_rfl) (by kernel_rfl) (fun _ _ _ h => h) (by rfl) ?hy17 hHeld ?rest17
  case hy17 => (intro w hSw; (try dsimp only at hSw); go_simp; try with_reducible rfl)
  simp only [Act.put, List.setIfInBounds_toArray, List.set_cons_zero, List.set_cons_succ]
  refine' takeH_7 _ (by kernel_rfl) (by kernel_rfl) (by kernel_rfl) (fun _ _ _ h => h) (by rfl) ?hy18 hHeld ?rest18
  case hy18 => (intro w hSw; (try dsimp only at hSw); go_simp; try with_reducible rfl)
  simp only [Act.put, List.setIfInBounds_toArray, List.set_cons_zero, List.set_cons_succ]
  refine' takeH_8 _ (by kernel_rfl) (by kernel_rfl) (by kernel_rfl) (fun _ _ _ h => h) (by rfl) ?hy19 hHeld ?rest19
  case hy19 => (intro w hSw; (try dsimp only at hSw); go_simp; try with_reducible rfl)
  simp only [Act.put, List.setIfInBounds_toArray, List.set_cons_zero, List.set_cons_succ]
  refine runH_5 (by kernel_rfl) (fun K hK => ?_)
  go_simp
  (go_at_call 85; refine (mask_any _ _ _ _ c0 c1).mono ?_; rintro e w1 ⟨rfl, hb⟩; go_wp2_with fail)
  refine hK.out _ _ ?hS21 (fun hHeld => ?rest21)
  case hS21 => ((simp only [bcell hb _ _ (show w.heap.size < _ by simp)]; go_keep))
  clear hK K
  (try simp only [Act.put, List.setIfInBounds_toArray, List.set_cons_zero, List.set_cons_succ])
  have HB : Hid (Below w.heap.size w w1) := (((Below.refl _ _).alloc (Nat.le_refl _) _).drew).trans (hb.mono (by simp))
  clear hb
  refine' takeH_6 _ (by kernel_rfl) (by kernel_rfl) (by kernel_rfl) (fun _ _ _ h => h) (by rfl) ?hy22 hHeld ?rest22
  case hy22 => (intro w hSw; (try dsimp only at hSw); go_simp; try with_reducible rfl)
  simp only [Act.put, List.setIfInBounds_toArray, List.set_cons_zero, List.set_cons_succ]
  refine' takeH_9 _ (by kernel_rfl) (by kernel_rfl) (by kernel_rfl) (fun _ _ _ h => h) (by rfl) ?hy23 hHeld ?rest23
  case hy23 => (intro w hSw; (try dsimp only at hSw); go_simp; try with_reducible rfl)
  simp only [Act.put, List.setIfInBounds_toArray, List.set_cons_zero, List.set_cons_succ]
  refine' takeH_10 _ (by kernel_rfl) (by kernel_rfl) (by kernel_rfl) (fun _ _ _ h => h) (by rfl) ?hy24 hHeld ?rest24
  case hy24 => (intro w hSw; (try dsimp only at hSw); go_simp; try with_reducible rfl)
  simp only [Act.put, List.setIfInBounds_toArray, List.set_cons_zero, List.set_cons_succ]
  refine wpAnyH_done (by kernel_rfl) ?_ _
  go_wp2
  go_ret
  exact ⟨ret_int HP.out, HB.out⟩

end Go.Proofs.YtdcmdjeooklmjaaDoor

/-
  Walks: package code's Legal.
-/
namespace Go.Proofs.YtdcmdjeooklmjaaDoor
open Go.RowKit

def LayoutOf : Prop := ∀ (f : Int) (w : World), 0 ≤ f → f ≤ 9 → Calls Tryd.prog 60 #[.int .u8 f] w fun e w' => e = .returned (layV (Hm.lay f)) ∧ Below w.heap.size w w'

theorem fld_row (a b : Int) (w : World) : (Instr.field 103 (.agg #[.int .u8 a, .int .u32 b]) 0).run Tryd.prog w = .ok (.int .u8 a) w := by kernel_rfl

theorem legalC_no {op rd rs1 rs2 imm : Int} (h : Hm.fmtOf op = 0) : Hm.legalC op rd rs1 rs2 imm = false := by
  unfold Hm.legalC; rw [if_pos h]
theorem legalC_yes {op rd rs1 rs2 imm : Int} (h : ¬ Hm.fmtOf op = 0) : Hm.legalC op rd rs1 rs2 imm = (Hm.fitsC rd (Hm.lay (Hm.fmtOf op)).rd && Hm.fitsC rs1 (Hm.lay (Hm.fmtOf op)).rs1 && Hm.fitsC rs2 (Hm.lay (Hm.fmtOf op)).rs2 && Hm.holdsC (Hm.lay (Hm.fmtOf op)).least (Hm.lay (Hm.fmtOf op)).most (Hm.lay (Hm.fmtOf op)).even imm) := by
  unfold Hm.legalC; rw [if_neg h]

set_option maxRecDepth 100000 in
set_option maxHeartbeats 1000000 in
theorem legal_no (op rd rs1 rs2 imm : Int) (w : World) (ht : Tab w) (h : Hm.fmtOf op = 0) :
    Calls Tryd.prog 32 #[.agg #[.int .i64 op, .int .i64 rd, .int .i64 rs1, .int .i64 rs2, .int .i64 imm]] w fun e w' => e = .returned (.bool (Hm.legalC op rd rs1 rs2 imm)) ∧ Below w.heap.size w w' := by
  have HN : Hid (Hm.legalC op rd rs1 rs2 imm = false) := legalC_no h
  have HT : Hid (Tab w) := ht
  clear ht
  have hfl := fld_row
  go_enter Tryd.func32, Tryd.ntmps32
  go_wp2_with fail
  refine (rowOf_any _ _ (HT.out.alloc _)).mono ?_
  rintro e w1 ⟨rfl, hb⟩
  have HB : Hid (Below w.heap.size w w1) := ((Below.refl _ _).alloc (Nat.le_refl _) _).trans (hb.mono (by simp))
  clear hb
  go_wp2
  go_ret
  exact ⟨ret_bool HN.out.symm, HB.out⟩

set_option maxRecDepth 100000 in
set_option maxHeartbeats 4000000 in
theorem legal_yes (hlay : LayoutOf) (op rd rs1 rs2 imm : Int) (w : World) (ht : Tab w) (h : ¬ Hm.fmtOf op = 0) :
    Calls Tryd.prog 32 #[.agg #[.int .i64 op, .int .i64 rd, .int .i64 rs1, .int .i64 rs2, .int .i64 imm]] w fun e w' => e = .returned (.bool (Hm.legalC op rd rs1 rs2 imm)) ∧ Below w.heap.size w w' := by
  have HN : Hid (Hm.legalC op rd rs1 rs2 imm = _) := legalC_yes h
  have HT : Hid (Tab w) := ht
  have h' : (Hm.fmtOf op == 0) = false := by simpa using h
  have hfb := Hm.fmt_bd op
  clear ht h
  have hfl := fld_row
  go_enter Tryd.func32, Tryd.ntmps32
  go_wp2_with fail
  refine (rowOf_any _ _ (HT.out.alloc _)).mono ?_
  rintro e w1 ⟨rfl, hb⟩
  have HB : Hid (Below w.heap.size w w1) := ((Below.refl _ _).alloc (Nat.le_refl _) _).trans (hb.mono (by simp))
  have hz : w.heap.size < w1.heap.size := by have := hb.size; simp at this; omega
  have c1 : w1.cell? ⟨w.heap.size, 1, none⟩ = some (.int .i64 rd) := by rw [bcell hb _ _ (by simp)]; simp
  have c2 : w1.cell? ⟨w.heap.size, 2, none⟩ = some (.int .i64 rs1) := by rw [bcell hb _ _ (by simp)]; simp
  have c3 : w1.cell? ⟨w.heap.size, 3, none⟩ = some (.int .i64 rs2) := by rw [bcell hb _ _ (by simp)]; simp
  have c4 : w1.cell? ⟨w.heap.size, 4, none⟩ = some (.int .i64 imm) := by rw [bcell hb _ _ (by simp)]; simp
  clear hb
  go_wp2_with fail
  refine (hlay _ _ hfb.1 hfb.2).mono ?_
  rintro e w2 ⟨rfl, hb2⟩
  have HB2 : Hid (Below w.heap.size w w2) := HB.out.trans (hb2.mono (by omega))
  have hz2 : w.heap.size < w2.heap.size := by have := hb2.size; omega
  have d1 : w2.cell? ⟨w.heap.size, 1, none⟩ = some (.int .i64 rd) := by rw [bcell hb2 _ _ hz]; exact c1
  have d2 : w2.cell? ⟨w.heap.size, 2, none⟩ = some (.int .i64 rs1) := by rw [bcell hb2 _ _ hz]; exact c2
  have d3 : w2.cell? ⟨w.heap.size, 3, none⟩ = some (.int .i64 rs2) := by rw [bcell hb2 _ _ hz]; exact c3
  have d4 : w2.cell? ⟨w.heap.size, 4, none⟩ = some (.int .i64 imm) := by rw [bcell hb2 _ _ hz]; exact c4
  clear c1 c2 c3 c4 HB hb2 hz hfb h'
  unfold layV
  generalize Hm.lay (Hm.fmtOf op) = L at *
  cases hA : Hm.fitsC rd L.rd with
  | false =>
    go_wp2_with (first | ((with_reducible refine' wl_store_new (cells := _) ?hx ?hy ?hi ?ho ?h1 ?h); (case hx => rfl); (case hy => rfl); (case hi => kernel_rfl); (case ho => rfl); (case h1 => kernel_rfl)) | (go_at_call 61; refine (cfits_any _ _ _).mono ?_; rintro e w' ⟨rfl, rfl⟩))
    go_ret
    exact ⟨ret_bool (by rw [HN.out, hA]; rfl), HB2.out.alloc (by omega) _⟩
  | true =>
    cases hB : Hm.fitsC rs1 L.rs1 with
    | false =>
      go_wp2_with (first | ((with_reducible refine' wl_store_new (cells := _) ?hx ?hy ?hi ?ho ?h1 ?h); (case hx => rfl); (case hy => rfl); (case hi => kernel_rfl); (case ho => rfl); (case h1 => kernel_rfl)) | (go_at_call 61; refine (cfits_any _ _ _).mono ?_; rintro e w' ⟨rfl, rfl⟩))
      go_ret
      exact ⟨ret_bool (by rw [HN.out, hA, hB]; rfl), HB2.out.alloc (by omega) _⟩
    | true =>
      cases hC : Hm.fitsC rs2 L.rs2 with
      | false =>
        go_wp2_with (first | ((with_reducible refine' wl_store_new (cells := _) ?hx ?hy ?hi ?ho ?h1 ?h); (case hx => rfl); (case hy => rfl); (case hi => kernel_rfl); (case ho => rfl); (case h1 => kernel_rfl)) | (go_at_call 61; refine (cfits_any _ _ _).mono ?_; rintro e w' ⟨rfl, rfl⟩))
        go_ret
        exact ⟨ret_bool (by rw [HN.out, hA, hB, hC]; rfl), HB2.out.alloc (by omega) _⟩
      | true =>
        go_wp2_with (first | ((with_reducible refine' wl_store_new (cells := _) ?hx ?hy ?hi ?ho ?h1 ?h); (case hx => rfl); (case hy => rfl); (case hi => kernel_rfl); (case ho => rfl); (case h1 => kernel_rfl)) | (go_at_call 61; refine (cfits_any _ _ _).mono ?_; rintro e w' ⟨rfl, rfl⟩))
        refine (holds_any _ _ _ _ _).mono ?_
        rintro e w3 ⟨rfl, hb3⟩
        have HB3 : Hid (Below w.heap.size w w3) := (HB2.out.alloc (by omega) _).trans (hb3.mono (by simp; omega))
        clear hb3
        go_wp2
        go_ret
        exact ⟨ret_bool (by rw [HN.out, hA, hB, hC]; rfl), HB3.out⟩

theorem legal_any (hlay : LayoutOf) (op rd rs1 rs2 imm : Int) (w : World) (ht : Tab w) :
    Calls Tryd.prog 32 #[.agg #[.int .i64 op, .int .i64 rd, .int .i64 rs1, .int .i64 rs2, .int .i64 imm]] w fun e w' => e = .returned (.bool (Hm.legalC op rd rs1 rs2 imm)) ∧ Below w.heap.size w w' := by
  by_cases h : Hm.fmtOf op = 0
  · exact legal_no op rd rs1 rs2 imm w ht h
  · exact legal_yes hlay op rd rs1 rs2 imm w ht h
end Go.Proofs.YtdcmdjeooklmjaaDoor

/-
  Walks: package code's Encode.
-/
namespace Go.Proofs.YtdcmdjeooklmjaaDoor
open Go.RowKit

theorem or_u32 {a b : Int} (ha : Hm.U32 a) (hb : Hm.U32 b) : bits .or .u32 a b = Hm.orI a b := u32_or a b ha.1 ha.2 hb.1 hb.2

theorem idx0 (a b c d e f g h i j k l : Int) (w : World) : (Instr.index 109 (.agg #[.int .u8 a, .int .u8 b, .int .u8 c, .int .u8 d, .int .u8 e, .int .u8 f, .int .u8 g, .int .u8 h, .int .u8 i, .int .u8 j, .int .u8 k, .int .u8 l]) (.int .i64 0)).run Tryd.prog w = .ok (.agg #[.int .u8 a, .int .u8 b, .int .u8 c]) w := by kernel_rfl
theorem idx1 (a b c d e f g h i j k l : Int) (w : World) : (Instr.index 109 (.agg #[.int .u8 a, .int .u8 b, .int .u8 c, .int .u8 d, .int .u8 e, .int .u8 f, .int .u8 g, .int .u8 h, .int .u8 i, .int .u8 j, .int .u8 k, .int .u8 l]) (.int .i64 1)).run Tryd.prog w = .ok (.agg #[.int .u8 d, .int .u8 e, .int .u8 f]) w := by kernel_rfl
theorem idx2 (a b c d e f g h i j k l : Int) (w : World) : (Instr.index 109 (.agg #[.int .u8 a, .int .u8 b, .int .u8 c, .int .u8 d, .int .u8 e, .int .u8 f, .int .u8 g, .int .u8 h, .int .u8 i, .int .u8 j, .int .u8 k, .int .u8 l]) (.int .i64 2)).run Tryd.prog w = .ok (.agg #[.int .u8 g, .int .u8 h, .int .u8 i]) w := by kernel_rfl
theorem idx3 (a b c d e f g h i j k l : Int) (w : World) : (Instr.index 109 (.agg #[.int .u8 a, .int .u8 b, .int .u8 c, .int .u8 d, .int .u8 e, .int .u8 f, .int .u8 g, .int .u8 h, .int .u8 i, .int .u8 j, .int .u8 k, .int .u8 l]) (.int .i64 3)).run Tryd.prog w = .ok (.agg #[.int .u8 j, .int .u8 k, .int .u8 l]) w := by kernel_rfl
theorem fld_pieces (x y z v : Bool) (m n : Int) (a b c d e f g h i j k l : Int) (w : World) : (Instr.field 111 (.agg #[.bool x, .bool y, .bool z, .int .i64 m, .int .i64 n, .bool v, .int .u8 a, .int .u8 b, .int .u8 c, .int .u8 d, .int .u8 e, .int .u8 f, .int .u8 g, .int .u8 h, .int .u8 i, .int .u8 j, .int .u8 k, .int .u8 l]) 4).run Tryd.prog w = .ok (.agg #[.int .u8 a, .int .u8 b, .int .u8 c, .int .u8 d, .int .u8 e, .int .u8 f, .int .u8 g, .int .u8 h, .int .u8 i, .int .u8 j, .int .u8 k, .int .u8 l]) w := by kernel_rfl

set_option maxRecDepth 100000 in
set_option maxHeartbeats 1000000 in
theorem encode_no (hlay : LayoutOf) (op rd rs1 rs2 imm : Int) (w : World) (ht : Tab w) (h : Hm.legalC op rd rs1 rs2 imm = false) :
    Calls Tryd.prog 38 #[.agg #[.int .i64 op, .int .i64 rd, .int .i64 rs1, .int .i64 rs2, .int .i64 imm]] w fun e w' => e = .returned (.tuple #[.int .u32 (Hm.encC op rd rs1 rs2 imm), .int .i64 (Hm.errC op rd rs1 rs2 imm)]) ∧ Below w.heap.size w w' := by
  have HE : Hid (Hm.encC op rd rs1 rs2 imm = 0) := by simp [Hid, Hm.encC, h]
  have HR : Hid (Hm.errC op rd rs1 rs2 imm = 1) := by simp [Hid, Hm.errC, h]
  have HT : Hid (Tab w) := ht
  clear ht
  go_enter Tryd.func38, Tryd.ntmps38
  go_wp2_with fail
  refine (legal_any hlay _ _ _ _ _ _ (HT.out.alloc _)).mono ?_
  rintro e w1 ⟨rfl, hb⟩
  have HB : Hid (Below w.heap.size w w1) := ((Below.refl _ _).alloc (Nat.le_refl _) _).trans (hb.mono (by simp))
  clear hb
  go_wp2
  go_ret2
  exact ⟨ret_ints2 HE.out.symm HR.out.symm, HB.out⟩

set_option maxRecDepth 100000 in
set_option maxHeartbeats 4000000 in
theorem encode_yes (hlay : LayoutOf) (op rd rs1 rs2 imm : Int) (w : World) (ht : Tab w) (h : Hm.legalC op rd rs1 rs2 imm = true) :
    Calls Tryd.prog 38 #[.agg #[.int .i64 op, .int .i64 rd, .int .i64 rs1, .int .i64 rs2, .int .i64 imm]] w fun e w' => e = .returned (.tuple #[.int .u32 (Hm.encC op rd rs1 rs2 imm), .int .i64 (Hm.errC op rd rs1 rs2 imm)]) ∧ Below w.heap.size w w' := by
  have HE : Hid (Hm.encC op rd rs1 rs2 imm = Hm.encA (Hm.lay (Hm.fmtOf op)) (Hm.enc0 op rd rs1 rs2) (imm % 4294967296) 4) := by simp [Hid, Hm.encC, h]
  have HR : Hid (Hm.errC op rd rs1 rs2 imm = 0) := by simp [Hid, Hm.errC, h]
  have HT : Hid (Tab w) := ht
  have hbd := Hm.legal_bd h
  obtain ⟨hf0, ⟨hd0, hd1⟩, ⟨hr0, hr1⟩, ⟨ht0, ht1⟩, ⟨hi0, hi1⟩⟩ := hbd
  have hfb := Hm.fmt_bd op
  have hbb := Hm.bit_bd op
  have hfp := fld_pieces
  have hb0 : Hm.U32 (Hm.bitOf op) := hbb
  have hb1 : Hm.U32 (rd * 128) := ⟨by omega, by omega⟩
  have hb2 : Hm.U32 (rs1 * 32768) := ⟨by omega, by omega⟩
  have hb3 : Hm.U32 (rs2 * 1048576) := ⟨by omega, by omega⟩
  have o1 := or_u32 hb0 hb1
  have o2 := or_u32 (Hm.orI_u32 hb0 hb1) hb2
  have o3 : bits .or .u32 (Hm.orI (Hm.orI (Hm.bitOf op) (rd * 128)) (rs1 * 32768)) (rs2 * 1048576) = Hm.enc0 op rd rs1 rs2 := or_u32 (Hm.orI_u32 (Hm.orI_u32 hb0 hb1) hb2) hb3
  have HU : Hid (Hm.U32 (Hm.enc0 op rd rs1 rs2)) := Hm.orI_u32 (Hm.orI_u32 (Hm.orI_u32 hb0 hb1) hb2) hb3
  clear hb0 hb1 hb2 hb3 hbb
  clear ht
  go_enter Tryd.func38, Tryd.ntmps38
  go_wp2_with fail
  refine (legal_any hlay _ _ _ _ _ _ (HT.out.alloc _)).mono ?_
  rintro e w1 ⟨rfl, hb⟩
  have HB : Hid (Below w.heap.size w w1) := ((Below.refl _ _).alloc (Nat.le_refl _) _).trans (hb.mono (by simp))
  have hz : w.heap.size < w1.heap.size := by have := hb.size; simp at this; omega
  have c0 : w1.cell? ⟨w.heap.size, 0, none⟩ = some (.int .i64 op) := by rw [bcell hb _ _ (by simp)]; simp
  have c1 : w1.cell? ⟨w.heap.size, 1, none⟩ = some (.int .i64 rd) := by rw [bcell hb _ _ (by simp)]; simp
  have c2 : w1.cell? ⟨w.heap.size, 2, none⟩ = some (.int .i64 rs1) := by rw [bcell hb _ _ (by simp)]; simp
  have c3 : w1.cell? ⟨w.heap.size, 3, none⟩ = some (.int .i64 rs2) := by rw [bcell hb _ _ (by simp)]; simp
  have c4 : w1.cell? ⟨w.heap.size, 4, none⟩ = some (.int .i64 imm) := by rw [bcell hb _ _ (by simp)]; simp
  have HT1 : Hid (Tab w1) := HT.out.below HB.out HT.out.1
  clear hb
  go_wp2_with fail
  refine (rowOf_any _ _ HT1.out).mono ?_
  rintro e w2 ⟨rfl, hb2⟩
  have HB2 : Hid (Below w.heap.size w w2) := HB.out.trans (hb2.mono (by omega))
  have hz2 : w.heap.size < w2.heap.size := by have := hb2.size; omega
  have d1 : w2.cell? ⟨w.heap.size, 1, none⟩ = some (.int .i64 rd) := by rw [bcell hb2 _ _ hz]; exact c1
  have d2 : w2.cell? ⟨w.heap.size, 2, none⟩ = some (.int .i64 rs1) := by rw [bcell hb2 _ _ hz]; exact c2
  have d3 : w2.cell? ⟨w.heap.size, 3, none⟩ = some (.int .i64 rs2) := by rw [bcell hb2 _ _ hz]; exact c3
  have d4 : w2.cell? ⟨w.heap.size, 4, none⟩ = some (.int .i64 imm) := by rw [bcell hb2 _ _ hz]; exact c4
  clear c0 c1 c2 c3 c4 HB hb2 hz HT1 h
  go_wp2_with fail
  refine (hlay _ _ hfb.1 hfb.2).mono ?_
  rintro e w3 ⟨rfl, hb3⟩
  have hz3 : w.heap.size < w3.heap.size := by have := hb3.size; simp at this; omega
  have HB3 : Hid (Below w.heap.size w w3) := (HB2.out.alloc (by omega) _).trans (hb3.mono (by simp; omega))
  have f4 : w3.cell? ⟨w.heap.size, 4, none⟩ = some (.int .i64 imm) := by rw [bcell hb3 _ _ (by simp; omega)]; simp [World.cell?_alloc_lt, hz2, d4]
  have hL := Hm.lay_ok (Hm.fmtOf op)
  clear d1 d2 d3 d4 hb3 HB2 hz2 o1 o2 o3
  unfold layV
  generalize Hm.lay (Hm.fmtOf op) = L at *
  go_wp2
  go_loopw [5, 35] (fun v i wr => ∃ j : Nat, j ≤ 4 ∧ i = .int .i64 j ∧ v = .int .u32 (Hm.encA L (Hm.enc0 op rd rs1 rs2) (imm % 4294967296) j) ∧ Below w.heap.size w wr ∧ w.heap.size < wr.heap.size ∧ wr.cell? ⟨w.heap.size, 4, none⟩ = some (.int .i64 imm)) (fun _ i _ => 4 - (intOf i).toNat)
  case atStart => exact ⟨0, by omega, rfl, rfl, HB3.out, hz3, f4⟩
  case round =>
    obtain ⟨j, hj, rfl, rfl, hbr, hzr, hcr⟩ := hrel
    have HBR : Hid (Below w.heap.size w wr) := hbr
    have x0 : 0 ≤ imm % 4294967296 := by omega
    have x1 : imm % 4294967296 < 4294967296 := by omega
    have HU' := fun j => Hm.encA_u32 (L := L) (x := imm % 4294967296) HU.out j
    clear hbr f4 HB3 hz3
    have hj' : j = 0 ∨ j = 1 ∨ j = 2 ∨ j = 3 ∨ j = 4 := by omega
    rcases hj' with rfl | rfl | rfl | rfl | rfl
    · have oj : Hid (bits .or .u32 (Hm.encA L (Hm.enc0 op rd rs1 rs2) (imm % 4294967296) 0) (Hm.putC L.f0 L.c0 L.a0 (imm % 4294967296)) = Hm.encA L (Hm.enc0 op rd rs1 rs2) (imm % 4294967296) 1) := or_u32 (HU' 0) (Hm.putC_u32 _ _ _ _)
      have hidx := idx0
      clear HU'
      go_wp2_with fail
      refine (put_any _ _ _ _ _ hL.f0.1 hL.f0.2 hL.c0.1 hL.c0.2 hL.a0.1 hL.a0.2 (by omega) (by omega)).mono ?_
      rintro e w4 ⟨rfl, hb4⟩
      have hz4 : w.heap.size < w4.heap.size := by have := hb4.size; simp at this; omega
      have HB4 : Hid (Below w.heap.size w w4) := (HBR.out.alloc (by omega) _).trans (hb4.mono (by simp; omega))
      have f5 : w4.cell? ⟨w.heap.size, 4, none⟩ = some (.int .i64 imm) := by rw [bcell hb4 _ _ (by simp; omega)]; simp [World.cell?_alloc_lt, hzr, hcr]
      clear hb4 hidx
      go_wp2
      go_roundw
      case rel => exact ⟨1, by omega, by go_num, by rw [← oj.out], HB4.out, hz4, f5⟩
      case measure => simp [intOf]
    · have oj : Hid (bits .or .u32 (Hm.encA L (Hm.enc0 op rd rs1 rs2) (imm % 4294967296) 1) (Hm.putC L.f1 L.c1 L.a1 (imm % 4294967296)) = Hm.encA L (Hm.enc0 op rd rs1 rs2) (imm % 4294967296) 2) := or_u32 (HU' 1) (Hm.putC_u32 _ _ _ _)
      have hidx := idx1
      clear HU'
      go_wp2_with fail
      refine (put_any _ _ _ _ _ hL.f1.1 hL.f1.2 hL.c1.1 hL.c1.2 hL.a1.1 hL.a1.2 (by omega) (by omega)).mono ?_
      rintro e w4 ⟨rfl, hb4⟩
      have hz4 : w.heap.size < w4.heap.size := by have := hb4.size; simp at this; omega
      have HB4 : Hid (Below w.heap.size w w4) := (HBR.out.alloc (by omega) _).trans (hb4.mono (by simp; omega))
      have f5 : w4.cell? ⟨w.heap.size, 4, none⟩ = some (.int .i64 imm) := by rw [bcell hb4 _ _ (by simp; omega)]; simp [World.cell?_alloc_lt, hzr, hcr]
      clear hb4 hidx
      go_wp2
      go_roundw
      case rel => exact ⟨2, by omega, by go_num, by rw [← oj.out], HB4.out, hz4, f5⟩
      case measure => simp [intOf]
    · have oj : Hid (bits .or .u32 (Hm.encA L (Hm.enc0 op rd rs1 rs2) (imm % 4294967296) 2) (Hm.putC L.f2 L.c2 L.a2 (imm % 4294967296)) = Hm.encA L (Hm.enc0 op rd rs1 rs2) (imm % 4294967296) 3) := or_u32 (HU' 2) (Hm.putC_u32 _ _ _ _)
      have hidx := idx2
      clear HU'
      go_wp2_with fail
      refine (put_any _ _ _ _ _ hL.f2.1 hL.f2.2 hL.c2.1 hL.c2.2 hL.a2.1 hL.a2.2 (by omega) (by omega)).mono ?_
      rintro e w4 ⟨rfl, hb4⟩
      have hz4 : w.heap.size < w4.heap.size := by have := hb4.size; simp at this; omega
      have HB4 : Hid (Below w.heap.size w w4) := (HBR.out.alloc (by omega) _).trans (hb4.mono (by simp; omega))
      have f5 : w4.cell? ⟨w.heap.size, 4, none⟩ = some (.int .i64 imm) := by rw [bcell hb4 _ _ (by simp; omega)]; simp [World.cell?_alloc_lt, hzr, hcr]
      clear hb4 hidx
      go_wp2
      go_roundw
      case rel => exact ⟨3, by omega, by go_num, by rw [← oj.out], HB4.out, hz4, f5⟩
      case measure => simp [intOf]
    · have oj : Hid (bits .or .u32 (Hm.encA L (Hm.enc0 op rd rs1 rs2) (imm % 4294967296) 3) (Hm.putC L.f3 L.c3 L.a3 (imm % 4294967296)) = Hm.encA L (Hm.enc0 op rd rs1 rs2) (imm % 4294967296) 4) := or_u32 (HU' 3) (Hm.putC_u32 _ _ _ _)
      have hidx := idx3
      clear HU'
      go_wp2_with fail
      refine (put_any _ _ _ _ _ hL.f3.1 hL.f3.2 hL.c3.1 hL.c3.2 hL.a3.1 hL.a3.2 (by omega) (by omega)).mono ?_
      rintro e w4 ⟨rfl, hb4⟩
      have hz4 : w.heap.size < w4.heap.size := by have := hb4.size; simp at this; omega
      have HB4 : Hid (Below w.heap.size w w4) := (HBR.out.alloc (by omega) _).trans (hb4.mono (by simp; omega))
      have f5 : w4.cell? ⟨w.heap.size, 4, none⟩ = some (.int .i64 imm) := by rw [bcell hb4 _ _ (by simp; omega)]; simp [World.cell?_alloc_lt, hzr, hcr]
      clear hb4 hidx
      go_wp2
      go_roundw
      case rel => exact ⟨4, by omega, by go_num, by rw [← oj.out], HB4.out, hz4, f5⟩
      case measure => simp [intOf]
    · go_wp2
      go_ret2
      exact ⟨ret_ints2 HE.out.symm HR.out.symm, HBR.out⟩

theorem encode_any (hlay : LayoutOf) (op rd rs1 rs2 imm : Int) (w : World) (ht : Tab w) :
    Calls Tryd.prog 38 #[.agg #[.int .i64 op, .int .i64 rd, .int .i64 rs1, .int .i64 rs2, .int .i64 imm]] w fun e w' => e = .returned (.tuple #[.int .u32 (Hm.encC op rd rs1 rs2 imm), .int .i64 (Hm.errC op rd rs1 rs2 imm)]) ∧ Below w.heap.size w w' := by
  cases h : Hm.legalC op rd rs1 rs2 imm
  · exact encode_no hlay op rd rs1 rs2 imm w ht h
  · exact encode_yes hlay op rd rs1 rs2 imm w ht h
end Go.Proofs.YtdcmdjeooklmjaaDoor
