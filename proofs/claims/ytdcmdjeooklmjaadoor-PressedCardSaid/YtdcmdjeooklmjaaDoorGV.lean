/-
  B6 B7 B8 in one text.
-/
import Derived.Test.YtdcmdjeooklmjaaDoorGT
import Derived.Test.YtdcmdjeooklmjaaDoorGN
import Derived.Test.YtdcmdjeooklmjaaDoorGH
import Derived.Test.YtdcmdjeooklmjaaDoorGU
set_option linter.unusedVariables false
set_option linter.unusedSimpArgs false
/-
  Walks: package code's place.take, place.put.
-/
namespace Go.Proofs.YtdcmdjeooklmjaaDoor
open Go.RowKit

theorem and_mask16 (x : Int) (c : Nat) (hx0 : 0 ≤ x) (hx1 : x < 65536) (hc : c ≤ 15) : bits .and .u16 x (Hm.pw c - 1) = x % Hm.pw c := by
  have h1 := Hm.pw_pos c
  have h2 : Hm.pw c ≤ 32768 := Hm.pw_mono c 15 hc
  rw [u16_and x (Hm.pw c - 1) hx0 hx1 (by omega) (by omega)]
  have e : (Hm.pw c - 1).toNat = 2 ^ c - 1 := by
    have : Hm.pw c = ((2 ^ c : Nat) : Int) := by unfold Hm.pw; simp
    omega
  rw [e, Nat.and_two_pow_sub_one_eq_mod]
  have : Hm.pw c = ((2 ^ c : Nat) : Int) := by unfold Hm.pw; simp
  rw [this]
  obtain ⟨m, rfl⟩ := Int.eq_ofNat_of_zero_le hx0
  rw [Int.toNat_natCast]
  exact_mod_cast rfl
theorem shr_bd16 (x : Int) (f : Nat) (hx0 : 0 ≤ x) (hx1 : x < 65536) : 0 ≤ x / 2 ^ f ∧ x / 2 ^ f < 65536 := by
  have h1 := Hm.pw_pos f
  have h2 : (0 : Int) < 2 ^ f := by show 0 < Hm.pw f; omega
  refine ⟨Int.ediv_nonneg hx0 (Int.le_of_lt h2), ?_⟩
  have := Int.ediv_le_self (2 ^ f) hx0
  omega

set_option maxRecDepth 100000 in
set_option maxHeartbeats 1000000 in
theorem ptake_any (p x : Int) (w : World) (p0 : 0 ≤ p) (p1 : p ≤ 6) (x0 : 0 ≤ x) (x1 : x < 65536) :
    Calls Tryd.prog 88 #[.int .u8 p, .int .u16 x] w fun e w' => e = .returned (.int .i64 (Hm.takeP p x)) ∧ Below w.heap.size w w' := by
  have hT : Hid (Hm.takeP p x = x / 2 ^ (Hm.fld p).at'.toNat % Hm.pw (Hm.fld p).count.toNat + (Hm.fld p).plus) := rfl
  have hbd := Hm.takeP_bd p x
  obtain ⟨⟨a0, a1⟩, ⟨c0, c1⟩, q0, q1⟩ := Hm.fld_ok p
  go_enter Tryd.func88, Tryd.ntmps88
  go_wp2_with fail
  refine (fieldOf_any _ _ p0 p1).mono ?_
  rintro e w1 ⟨rfl, hb1⟩
  have HB1 : Hid (Below w.heap.size w w1) := hb1
  have hz1 : w.heap.size ≤ w1.heap.size := hb1.size
  clear hb1
  have HM : Hid (bits .and .u16 (x / 2 ^ (Hm.fld p).at'.toNat) (Hm.pw (Hm.fld p).count.toNat - 1) = x / 2 ^ (Hm.fld p).at'.toNat % Hm.pw (Hm.fld p).count.toNat) := and_mask16 _ _ (shr_bd16 x _ x0 x1).1 (shr_bd16 x _ x0 x1).2 (by omega)
  generalize Hm.fld p = F at *
  obtain ⟨fa, fc, fp⟩ := F
  dsimp only at *
  go_wp2
  refine wp_region_held_drew (S := fun w' => w'.cell? ⟨w1.heap.size, 0, none⟩ = some (.int .u8 fa) ∧ w'.cell? ⟨w1.heap.size, 1, none⟩ = some (.int .u8 fc) ∧ w'.cell? ⟨w1.heap.size, 2, none⟩ = some (.int .i64 fp)) (by kernel_rfl) (by go_keep) (fun hHeld => ?_)
  refine' takeH_0 _ (by kernel_rfl) (by kernel_rfl) (by kernel_rfl) (fun _ _ _ h => h) (by rfl) ?hy1 hHeld ?rest1
  case hy1 => (intro w hSw; (try dsimp only at hSw); go_simp; try with_reducible rfl)
  simp only [Act.put, List.setIfInBounds_toArray, List.set_cons_zero, List.set_cons_succ]
  refine' takeH_1 _ (by kernel_rfl) (by kernel_rfl) (by kernel_rfl) (fun _ _ _ h => h) (by rfl) ?hy2 hHeld ?rest2
  case hy2 => (intro w hSw; (try dsimp only at hSw); go_simp; try with_reducible rfl)
  simp only [Act.put, List.setIfInBounds_toArray, List.set_cons_zero, List.set_cons_succ]
  refine' takeH_2 _ (by kernel_rfl) (by kernel_rfl) (by kernel_rfl) (fun _ _ _ h => h) (by rfl) ?hy3 hHeld ?rest3
  case hy3 => (intro w hSw; (try dsimp only at hSw); go_simp; try with_reducible rfl)
  simp only [Act.put, List.setIfInBounds_toArray, List.set_cons_zero, List.set_cons_succ]
  refine' takeH_3 _ (by kernel_rfl) (by kernel_rfl) (by kernel_rfl) (fun _ _ _ h => h) (by rfl) ?hy4 hHeld ?rest4
  case hy4 => (intro w hSw; (try dsimp only at hSw); go_simp; try with_reducible rfl)
  simp only [Act.put, List.setIfInBounds_toArray, List.set_cons_zero, List.set_cons_succ]
  refine' takeH_4 _ (by kernel_rfl) (by kernel_rfl) (by kernel_rfl) (fun _ _ _ h => h) (by rfl) ?hy5 hHeld ?rest5
  case hy5 => (intro w hSw; (try dsimp only at hSw); go_simp; try with_reducible rfl)
  simp only [Act.put, List.setIfInBounds_toArray, List.set_cons_zero, List.set_cons_succ]
  refine' takeH_8 _ (by kernel_rfl) (by kernel_rfl) (by kernel_rfl) (fun _ _ _ h => h) (by rfl) ?hy6 hHeld ?rest6
  case hy6 => (intro w hSw; (try dsimp only at hSw); go_simp; try with_reducible rfl)
  simp only [Act.put, List.setIfInBounds_toArray, List.set_cons_zero, List.set_cons_succ]
  refine' takeH_9 _ (by kernel_rfl) (by kernel_rfl) (by kernel_rfl) (fun _ _ _ h => h) (by rfl) ?hy7 hHeld ?rest7
  case hy7 => (intro w hSw; (try dsimp only at hSw); go_simp; try with_reducible rfl)
  simp only [Act.put, List.setIfInBounds_toArray, List.set_cons_zero, List.set_cons_succ]
  refine runH_5 (by kernel_rfl) (fun K hK => ?_)
  go_simp
  (go_at_call 117; refine (fmask_any _ _ _ _ c0 (by omega)).mono ?_; rintro e w2 ⟨rfl, hb⟩; go_wp2_with fail)
  refine hK.out _ _ ?hS9 (fun hHeld => ?rest9)
  case hS9 => ((simp only [bcell hb _ _ (show w1.heap.size < _ by simp)]; go_keep))
  clear hK K
  (try simp only [Act.put, List.setIfInBounds_toArray, List.set_cons_zero, List.set_cons_succ])
  have HB : Hid (Below w.heap.size w w2) := (HB1.out.trans ((((Below.refl _ _).alloc (Nat.le_refl _) _).drew).mono hz1)).trans (hb.mono (by simp; omega))
  clear hb
  have HV : Hid (IntKind.i64.wrap (IntKind.i64.wrap (bits .and .u16 (x / 2 ^ fa.toNat) (Hm.pw fc.toNat - 1)) + fp) = Hm.takeP p x) := by
    show _ = _
    rw [HM.out]
    rw [hT.out] at hbd ⊢
    rw [IntKind.wrap_i64, IntKind.wrap_i64]
    omega
  refine' takeH_6 _ (by kernel_rfl) (by kernel_rfl) (by kernel_rfl) (fun _ _ _ h => h) (by rfl) ?hy10 hHeld ?rest10
  case hy10 => (intro w hSw; (try dsimp only at hSw); go_simp; try with_reducible rfl)
  simp only [Act.put, List.setIfInBounds_toArray, List.set_cons_zero, List.set_cons_succ]
  refine' takeH_7 _ (by kernel_rfl) (by kernel_rfl) (by kernel_rfl) (fun _ _ _ h => h) (by rfl) ?hy11 hHeld ?rest11
  case hy11 => (intro w hSw; (try dsimp only at hSw); go_simp; try with_reducible rfl)
  simp only [Act.put, List.setIfInBounds_toArray, List.set_cons_zero, List.set_cons_succ]
  refine' takeH_10 _ (by kernel_rfl) (by kernel_rfl) (by kernel_rfl) (fun _ _ _ h => h) (by rfl) ?hy12 hHeld ?rest12
  case hy12 => (intro w hSw; (try dsimp only at hSw); go_simp; try with_reducible rfl)
  simp only [Act.put, List.setIfInBounds_toArray, List.set_cons_zero, List.set_cons_succ]
  refine' takeH_11 _ (by kernel_rfl) (by kernel_rfl) (by kernel_rfl) (fun _ _ _ h => h) (by rfl) ?hy13 hHeld ?rest13
  case hy13 => (intro w hSw; (try dsimp only at hSw); go_simp; try with_reducible rfl)
  simp only [Act.put, List.setIfInBounds_toArray, List.set_cons_zero, List.set_cons_succ]
  refine wpAnyH_done (by kernel_rfl) ?_ _
  go_wp2
  go_ret
  exact ⟨ret_int HV.out, HB.out⟩

set_option maxRecDepth 100000 in
set_option maxHeartbeats 1000000 in
theorem pput_any (p n : Int) (w : World) (p0 : 0 ≤ p) (p1 : p ≤ 6) :
    Calls Tryd.prog 92 #[.int .u8 p, .int .i64 n] w fun e w' => e = .returned (.int .u16 (Hm.putP p n)) ∧ Below w.heap.size w w' := by
  have hT : Hid (Hm.putP p n = (n - (Hm.fld p).plus) % 65536 % Hm.pw (Hm.fld p).count.toNat * 2 ^ (Hm.fld p).at'.toNat % 65536) := rfl
  obtain ⟨⟨a0, a1⟩, ⟨c0, c1⟩, q0, q1⟩ := Hm.fld_ok p
  go_enter Tryd.func92, Tryd.ntmps92
  go_wp2_with fail
  refine (fieldOf_any _ _ p0 p1).mono ?_
  rintro e w1 ⟨rfl, hb1⟩
  have HB1 : Hid (Below w.heap.size w w1) := hb1
  have hz1 : w.heap.size ≤ w1.heap.size := hb1.size
  clear hb1
  have HM : Hid (bits .and .u16 ((n - (Hm.fld p).plus) % 65536) (Hm.pw (Hm.fld p).count.toNat - 1) = (n - (Hm.fld p).plus) % 65536 % Hm.pw (Hm.fld p).count.toNat) := and_mask16 _ _ (by omega) (by omega) (by omega)
  have HW : Hid (IntKind.u16.wrap (IntKind.i64.wrap (n - (Hm.fld p).plus)) = (n - (Hm.fld p).plus) % 65536) := by
    show _ = _
    rw [IntKind.wrap_i64, IntKind.wrap_u16]
    omega
  generalize Hm.fld p = F at *
  obtain ⟨fa, fc, fp⟩ := F
  dsimp only at *
  go_wp2
  refine wp_region_held_drew (S := fun w' => w'.cell? ⟨w1.heap.size, 0, none⟩ = some (.int .u8 fa) ∧ w'.cell? ⟨w1.heap.size, 1, none⟩ = some (.int .u8 fc) ∧ w'.cell? ⟨w1.heap.size, 2, none⟩ = some (.int .i64 fp)) (by kernel_rfl) (by go_keep) (fun hHeld => ?_)
  refine' takeH_0 _ (by kernel_rfl) (by kernel_rfl) (by kernel_rfl) (fun _ _ _ h => h) (by rfl) ?hy14 hHeld ?rest14
  case hy14 => (intro w hSw; (try dsimp only at hSw); go_simp; try with_reducible rfl)
  simp only [Act.put, List.setIfInBounds_toArray, List.set_cons_zero, List.set_cons_succ]
  refine' takeH_1 _ (by kernel_rfl) (by kernel_rfl) (by kernel_rfl) (fun _ _ _ h => h) (by rfl) ?hy15 hHeld ?rest15
  case hy15 => (intro w hSw; (try dsimp only at hSw); go_simp; try with_reducible rfl)
  simp only [Act.put, List.setIfInBounds_toArray, List.set_cons_zero, List.set_cons_succ]
  refine' takeH_2 _ (by kernel_rfl) (by kernel_rfl) (by kernel_rfl) (fun _ _ _ h => h) (by rfl) ?hy16 hHeld ?rest16
  case hy16 => (intro w hSw; (try dsimp only at hSw); go_simp; try with_reducible rfl)
  simp only [Act.put, List.setIfInBounds_toArray, List.set_cons_zero, List.set_cons_succ]
  refine' takeH_3 _ (by kernel_rfl) (by kernel_rfl) (by kernel_rfl) (fun _ _ _ h => h) (by rfl) ?hy17 hHeld ?rest17
  case hy17 => (intro w hSw; (try dsimp only at hSw); go_simp; try with_reducible rfl)
  simp only [Act.put, List.setIfInBounds_toArray, List.set_cons_zero, List.set_cons_succ]
  refine' takeH_4 _ (by kernel_rfl) (by kernel_rfl) (by kernel_rfl) (fun _ _ _ h => h) (by rfl) ?hy18 hHeld ?rest18
  case hy18 => (intro w hSw; (try dsimp only at hSw); go_simp; try with_reducible rfl)
  simp only [Act.put, List.setIfInBounds_toArray, List.set_cons_zero, List.set_cons_succ]
  refine' takeH_5 _ (by kernel_rfl) (by kernel_rfl) (by kernel_rfl) (fun _ _ _ h => h) (by rfl) ?hy19 hHeld ?rest19
  case hy19 => (intro w hSw; (try dsimp only at hSw); go_simp; try with_reducible rfl)
  simp only [Act.put, List.setIfInBounds_toArray, List.set_cons_zero, List.set_cons_succ]
  refine' takeH_8 _ (by kernel_rfl) (by kernel_rfl) (by kernel_rfl) (fun _ _ _ h => h) (by rfl) ?hy20 hHeld ?rest20
  case hy20 => (intro w hSw; (try dsimp only at hSw); go_simp; try with_reducible rfl)
  simp only [Act.put, List.setIfInBounds_toArray, List.set_cons_zero, List.set_cons_succ]
  refine' takeH_9 _ (by kernel_rfl) (by kernel_rfl) (by kernel_rfl) (fun _ _ _ h => h) (by rfl) ?hy21 hHeld ?rest21
  case hy21 => (intro w hSw; (try dsimp only at hSw); go_simp; try with_reducible rfl)
  simp only [Act.put, List.setIfInBounds_toArray, List.set_cons_zero, List.set_cons_succ]
  refine runH_6 (by kernel_rfl) (fun K hK => ?_)
  go_simp
  (go_at_call 117; refine (fmask_any _ _ _ _ c0 (by omega)).mono ?_; rintro e w2 ⟨rfl, hb⟩; go_wp2_with fail)
  refine hK.out _ _ ?hS23 (fun hHeld => ?rest23)
  case hS23 => ((simp only [bcell hb _ _ (show w1.heap.size < _ by simp)]; go_keep))
  clear hK K
  (try simp only [Act.put, List.setIfInBounds_toArray, List.set_cons_zero, List.set_cons_succ])
  have HB : Hid (Below w.heap.size w w2) := (HB1.out.trans ((((Below.refl _ _).alloc (Nat.le_refl _) _).drew).mono hz1)).trans (hb.mono (by simp; omega))
  clear hb
  refine' takeH_7 _ (by kernel_rfl) (by kernel_rfl) (by kernel_rfl) (fun _ _ _ h => h) (by rfl) ?hy24 hHeld ?rest24
  case hy24 => (intro w hSw; (try dsimp only at hSw); go_simp; try with_reducible rfl)
  simp only [Act.put, List.setIfInBounds_toArray, List.set_cons_zero, List.set_cons_succ]
  refine' takeH_10 _ (by kernel_rfl) (by kernel_rfl) (by kernel_rfl) (fun _ _ _ h => h) (by rfl) ?hy25 hHeld ?rest25
  case hy25 => (intro w hSw; (try dsimp only at hSw); go_simp; try with_reducible rfl)
  simp only [Act.put, List.setIfInBounds_toArray, List.set_cons_zero, List.set_cons_succ]
  refine' takeH_11 _ (by kernel_rfl) (by kernel_rfl) (by kernel_rfl) (fun _ _ _ h => h) (by rfl) ?hy26 hHeld ?rest26
  case hy26 => (intro w hSw; (try dsimp only at hSw); go_simp; try with_reducible rfl)
  simp only [Act.put, List.setIfInBounds_toArray, List.set_cons_zero, List.set_cons_succ]
  refine wpAnyH_done (by kernel_rfl) ?_ _
  go_wp2
  go_ret
  refine ⟨ret_int ?_, HB.out⟩
  rw [HW.out, HM.out, IntKind.wrap_u16, hT.out]
end Go.Proofs.YtdcmdjeooklmjaaDoor

/-
  Walks: package code's spread.take.
-/
namespace Go.Proofs.YtdcmdjeooklmjaaDoor
open Go.RowKit

/-- The whole struct out of the block that was made last, as the walk's list of operations meets it. -/
theorem wl_load_new {P : Program} {ops : Array Oper} {rest : List Oper} {Q : Exit → Act → World → Prop} {a : Act} {w : World} {dst : Option Tmp} {ty ty' t : TypeId} {pos : String} {after : Array Edge} {x : Operand} {cells : Array Value} {d : TypeDesc}
    (hx : a.eval x = .pointer (some ⟨w.heap.size, 0, none⟩)) (hu : P.underlying ty = some d) (hd : d.isRow = true) (hi : (P.info? ty).map (·.size) = some cells.size)
    (h : wpList P ops Q rest (a.put dst (.agg cells)) (w.alloc (.cells cells t))) : wpList P ops Q (⟨dst, .load ty x, ty', pos, after, none⟩ :: rest) a (w.alloc (.cells cells t)) :=
  wpList_load_row rfl ty x rfl w.heap.size hx t cells (0, 0) d (heap_alloc_last w _) hu (by cases d <;> simp_all) hi h
/-- The whole struct out of a block of which the cells are known. -/
theorem wl_load_at {P : Program} {ops : Array Oper} {rest : List Oper} {Q : Exit → Act → World → Prop} {a : Act} {w : World} {dst : Option Tmp} {ty ty' : TypeId} {pos : String} {after : Array Edge} {x : Operand} {cs : Array Value} {d : TypeDesc} {b o : Nat}
    (hc : w.rangeAt b o cs.toList) (hx : a.eval x = .pointer (some ⟨b, o, none⟩)) (hu : P.underlying ty = some d) (hd : d.isRow = true) (hi : (P.info? ty).map (·.size) = some cs.size)
    (h : wpList P ops Q rest (a.put dst (.agg cs)) w) : wpList P ops Q (⟨dst, .load ty x, ty', pos, after, none⟩ :: rest) a w :=
  wpList_load_mid rfl ty x rfl b o hx cs.toList d hc hu hd (by rw [hi, Array.length_toList]) (by rw [Array.toArray_toList]; exact h)
theorem wid_bd (s : Int) : 6 ≤ Hm.wid s ∧ Hm.wid s ≤ 12 := by
  unfold Hm.wid
  repeat' split
  all_goals omega

set_option maxRecDepth 100000 in
set_option maxHeartbeats 2000000 in
theorem stake_any (s x : Int) (w : World) (s0 : 0 ≤ s) (s1 : s ≤ 9) (x0 : 0 ≤ x) (x1 : x < 65536) :
    Calls Tryd.prog 90 #[.int .u8 s, .int .u16 x] w fun e w' => e = .returned (.int .i64 (Hm.stakeC s x)) ∧ Below w.heap.size w w' := by
  have hS := Hm.spr_ok s
  obtain ⟨g0, g1⟩ := Hm.gatA_u32 (Hm.spr s) x 8
  cases hsg : (Hm.spr s).signed with
  | false =>
    have HC : Hid (Hm.stakeC s x = Hm.gatA (Hm.spr s) x 8) := by simp [Hid, Hm.stakeC, hsg]
    go_enter Tryd.func90, Tryd.ntmps90
    go_wp2_with fail
    refine (spreadOf_any _ _ s0 s1).mono ?_
    rintro e w1 ⟨rfl, hb1⟩
    have HB1 : Hid (Below w.heap.size w w1) := hb1
    have hz1 : w.heap.size ≤ w1.heap.size := hb1.size
    clear hb1
    have hsp : ∃ cs : Array Value, sprV (Hm.spr s) = .agg cs ∧ cs.size = 25 ∧ cs.all (·.oneCell') = true ∧ cs[0]? = some (.bool false) := ⟨_, rfl, rfl, by kernel_rfl, by rw [hsg]; rfl⟩
    obtain ⟨cs, hsp, hcz, hca, hc0⟩ := hsp
    have HG : ∀ x w, 0 ≤ x → x < 4294967296 → Calls Tryd.prog 119 #[sprV (Hm.spr s), .int .u32 x] w fun e w' => e = .returned (.int .u32 (Hm.gatA (Hm.spr s) x 8)) ∧ Below w.heap.size w w' := fun x w h0 h1 => gather_any _ _ w hS h0 h1
    rw [hsp] at HG ⊢
    generalize hgS : Hm.gatA (Hm.spr s) = G at *
    generalize Hm.spr s = S at *
    have HGG : Hid _ := HG
    clear HG hsp hS hsg
    go_wp2_with first | (((with_reducible refine' wl_store_new (cells := _) ?zq5 ?zq1 ?zq4 ?zq2 ?zq3 ?zq6); (case zq5 => rfl); (case zq1 => rfl); (case zq4 => (rw [hcz]; kernel_rfl)); (case zq2 => (rw [hcz]; rfl)); (case zq3 => exact hca))) | (((with_reducible refine' wl_load_new (d := _) ?zq10 ?zq8 ?zq9 ?zq7 ?zq11); (case zq10 => rfl); (case zq8 => exact Tryd.underlying202); (case zq9 => rfl); (case zq7 => (rw [hcz]; kernel_rfl))))
    refine (HGG.out _ _ x0 (by omega)).mono ?_
    rintro e w2 ⟨rfl, hb2⟩
    have HB2 : Hid (Below w.heap.size w w2) := (HB1.out.alloc hz1 _).trans (hb2.mono (by simp; omega))
    have hz2 : w1.heap.size < w2.heap.size := by have := hb2.size; simp at this; omega
    have c0 : w2.cell? ⟨w1.heap.size, 0, none⟩ = some (.bool false) := by rw [bcell hb2 _ _ (by simp), World.cell?_alloc_new]; exact hc0
    clear hb2
    go_wp2
    go_ret
    exact ⟨ret_int HC.out.symm, HB2.out⟩
  | true =>
    have HL := fun w => len32_any s w s0 s1 hsg
    have hw := wid_bd s
    have HC : Hid (Hm.stakeC s x = (if Hm.gatA (Hm.spr s) x 8 * Hm.pw (32 - Hm.wid s) % 4294967296 < 2147483648 then Hm.gatA (Hm.spr s) x 8 * Hm.pw (32 - Hm.wid s) % 4294967296 else Hm.gatA (Hm.spr s) x 8 * Hm.pw (32 - Hm.wid s) % 4294967296 - 4294967296) / Hm.pw (32 - Hm.wid s)) := by
      show _ = _
      unfold Hm.stakeC
      rw [hsg, if_pos rfl]
    go_enter Tryd.func90, Tryd.ntmps90
    go_wp2_with fail
    refine (spreadOf_any _ _ s0 s1).mono ?_
    rintro e w1 ⟨rfl, hb1⟩
    have HB1 : Hid (Below w.heap.size w w1) := hb1
    have hz1 : w.heap.size ≤ w1.heap.size := hb1.size
    clear hb1
    have hsp : ∃ cs : Array Value, sprV (Hm.spr s) = .agg cs ∧ cs.size = 25 ∧ cs.all (·.oneCell') = true ∧ cs[0]? = some (.bool true) := ⟨_, rfl, rfl, by kernel_rfl, by rw [hsg]; rfl⟩
    obtain ⟨cs, hsp, hcz, hca, hc0⟩ := hsp
    have HG : ∀ x w, 0 ≤ x → x < 4294967296 → Calls Tryd.prog 119 #[sprV (Hm.spr s), .int .u32 x] w fun e w' => e = .returned (.int .u32 (Hm.gatA (Hm.spr s) x 8)) ∧ Below w.heap.size w w' := fun x w h0 h1 => gather_any _ _ w hS h0 h1
    rw [hsp] at HG ⊢
    generalize hgS : Hm.gatA (Hm.spr s) = G at *
    generalize Hm.spr s = S at *
    have HGG : Hid _ := HG
    clear HG hsp hS hsg
    go_wp2_with first | (((with_reducible refine' wl_store_new (cells := _) ?zq14 ?zq15 ?zq16 ?zq13 ?zq12 ?zq17); (case zq14 => rfl); (case zq15 => rfl); (case zq16 => (rw [hcz]; kernel_rfl)); (case zq13 => (rw [hcz]; rfl)); (case zq12 => exact hca))) | (((with_reducible refine' wl_load_new (d := _) ?zq20 ?zq19 ?zq21 ?zq18 ?zq22); (case zq20 => rfl); (case zq19 => exact Tryd.underlying202); (case zq21 => rfl); (case zq18 => (rw [hcz]; kernel_rfl))))
    refine (HGG.out _ _ x0 (by omega)).mono ?_
    rintro e w2 ⟨rfl, hb2⟩
    have HB2 : Hid (Below w.heap.size w w2) := (HB1.out.alloc hz1 _).trans (hb2.mono (by simp; omega))
    have hz2 : w1.heap.size < w2.heap.size := by have := hb2.size; simp at this; omega
    have c0 : w2.cell? ⟨w1.heap.size, 0, none⟩ = some (.bool true) := by rw [bcell hb2 _ _ (by simp), World.cell?_alloc_new]; exact hc0
    have HR : Hid (w2.rangeAt w1.heap.size 0 cs.toList) := by
      intro j v h
      rw [bcell hb2 _ _ (by simp), World.cell?_alloc_new, Nat.zero_add]
      simpa using h
    have HLL : Hid _ := HL
    clear hb2 HL
    go_wp2_with ((with_reducible refine' wl_load_at HR.out ?zq26 ?zq25 ?zq23 ?zq24 ?zq27); (case zq26 => rfl); (case zq25 => exact Tryd.underlying202); (case zq23 => rfl); (case zq24 => (rw [hcz]; kernel_rfl)))
    refine (HGG.out 4294967295 _ (by decide) (by decide)).mono ?_
    rintro e w3 ⟨rfl, hb3⟩
    have HB3 : Hid (Below w.heap.size w w3) := HB2.out.trans (hb3.mono (by omega))
    clear hb3
    go_wp2_with fail
    refine (HLL.out _).mono ?_
    rintro e w4 ⟨rfl, rfl⟩
    go_wp2
    go_ret
    refine ⟨ret_int ?_, HB3.out⟩
    have hsb := Hm.stakeC_bd s x
    have hC : Hm.stakeC s x = wrap32 (G x 8 * 2 ^ (32 - Hm.wid s) % 4294967296) / 2 ^ (32 - Hm.wid s) := by
      rw [HC.out]
      show (if G x 8 * 2 ^ (32 - Hm.wid s) % 4294967296 < 2147483648 then _ else _) / 2 ^ (32 - Hm.wid s) = _
      congr 1
      show (if G x 8 * 2 ^ (32 - Hm.wid s) % 4294967296 < 2147483648 then G x 8 * 2 ^ (32 - Hm.wid s) % 4294967296 else G x 8 * 2 ^ (32 - Hm.wid s) % 4294967296 - 4294967296) = _
      generalize G x 8 * 2 ^ (32 - Hm.wid s) = y
      unfold wrap32
      split <;> omega
    rw [← hC]
    exact IntWalk.wrap64_in _ ⟨by omega, by omega⟩
end Go.Proofs.YtdcmdjeooklmjaaDoor

/-
  Walks: package code's ban.hits (made by gen_B8.py).
-/
namespace Go.Proofs.YtdcmdjeooklmjaaDoor
open Go.RowKit

theorem chas_lit (b o : Int) (v : Bool) (hv : Hm.hasN b o = v) (b0 : 0 ≤ b) (b1 : b < 256) (o0 : 0 ≤ o) (o1 : o < 256) (w : World) :
    Calls Tryd.prog 121 #[.int .u8 b, .int .u8 o] w fun e w' => e = .returned (.bool v) ∧ w' = w := by
  rw [← hv]; exact chas_any b o w b0 b1 o0 o1

set_option maxRecDepth 100000 in
set_option maxHeartbeats 1000000 in
theorem chits_0_e (op d r t i : Int) (w : World) :
    Calls Tryd.prog 91 #[.int .u8 0, .agg #[.int .i64 op, .int .i64 d, .int .i64 r, .int .i64 t, .int .i64 i]] w fun e w' => e = .returned (.bool false) ∧ Below w.heap.size w w' := by
  go_enter Tryd.func91, Tryd.ntmps91
  have e1 : Hm.hasN 0 1 = false := by decide
  have e2 : Hm.hasN 0 2 = false := by decide
  have e4 : Hm.hasN 0 4 = false := by decide
  have e8 : Hm.hasN 0 8 = false := by decide
  have e16 : Hm.hasN 0 16 = false := by decide
  go_wp2_with (go_at_call 121; refine (chas_any _ _ _ (by decide) (by decide) (by decide) (by decide)).mono ?_; rintro e w' ⟨rfl, rfl⟩; (first | rw [e1] | rw [e2] | rw [e4] | rw [e8] | rw [e16]))
  go_ret
  exact ⟨rfl, (Below.refl _ _).alloc (Nat.le_refl _) _⟩

set_option maxRecDepth 100000 in
set_option maxHeartbeats 1000000 in
theorem chits_1_0 (op d r t i : Int) (w : World) (h0 : i = 0) :
    Calls Tryd.prog 91 #[.int .u8 1, .agg #[.int .i64 op, .int .i64 d, .int .i64 r, .int .i64 t, .int .i64 i]] w fun e w' => e = .returned (.bool true) ∧ Below w.heap.size w w' := by
  go_enter Tryd.func91, Tryd.ntmps91
  have e1 : Hm.hasN 1 1 = true := by decide
  have e2 : Hm.hasN 1 2 = false := by decide
  have e4 : Hm.hasN 1 4 = false := by decide
  have e8 : Hm.hasN 1 8 = false := by decide
  have e16 : Hm.hasN 1 16 = false := by decide
  go_wp2_with (go_at_call 121; refine (chas_any _ _ _ (by decide) (by decide) (by decide) (by decide)).mono ?_; rintro e w' ⟨rfl, rfl⟩; (first | rw [e1] | rw [e2] | rw [e4] | rw [e8] | rw [e16]))
  go_ret
  exact ⟨ret_bool (by simp [h0]), (Below.refl _ _).alloc (Nat.le_refl _) _⟩

set_option maxRecDepth 100000 in
set_option maxHeartbeats 1000000 in
theorem chits_1_e (op d r t i : Int) (w : World) (h0 : ¬ i = 0) :
    Calls Tryd.prog 91 #[.int .u8 1, .agg #[.int .i64 op, .int .i64 d, .int .i64 r, .int .i64 t, .int .i64 i]] w fun e w' => e = .returned (.bool false) ∧ Below w.heap.size w w' := by
  go_enter Tryd.func91, Tryd.ntmps91
  have e1 : Hm.hasN 1 1 = true := by decide
  have e2 : Hm.hasN 1 2 = false := by decide
  have e4 : Hm.hasN 1 4 = false := by decide
  have e8 : Hm.hasN 1 8 = false := by decide
  have e16 : Hm.hasN 1 16 = false := by decide
  go_wp2_with (go_at_call 121; refine (chas_any _ _ _ (by decide) (by decide) (by decide) (by decide)).mono ?_; rintro e w' ⟨rfl, rfl⟩; (first | rw [e1] | rw [e2] | rw [e4] | rw [e8] | rw [e16]))
  go_ret
  exact ⟨ret_bool (by simp [h0]), (Below.refl _ _).alloc (Nat.le_refl _) _⟩

set_option maxRecDepth 100000 in
set_option maxHeartbeats 1000000 in
theorem chits_2_0 (op d r t i : Int) (w : World) (h0 : d = 0) :
    Calls Tryd.prog 91 #[.int .u8 2, .agg #[.int .i64 op, .int .i64 d, .int .i64 r, .int .i64 t, .int .i64 i]] w fun e w' => e = .returned (.bool true) ∧ Below w.heap.size w w' := by
  go_enter Tryd.func91, Tryd.ntmps91
  have e1 : Hm.hasN 2 1 = false := by decide
  have e2 : Hm.hasN 2 2 = true := by decide
  have e4 : Hm.hasN 2 4 = false := by decide
  have e8 : Hm.hasN 2 8 = false := by decide
  have e16 : Hm.hasN 2 16 = false := by decide
  go_wp2_with (go_at_call 121; refine (chas_any _ _ _ (by decide) (by decide) (by decide) (by decide)).mono ?_; rintro e w' ⟨rfl, rfl⟩; (first | rw [e1] | rw [e2] | rw [e4] | rw [e8] | rw [e16]))
  go_ret
  exact ⟨ret_bool (by simp [h0]), (Below.refl _ _).alloc (Nat.le_refl _) _⟩

set_option maxRecDepth 100000 in
set_option maxHeartbeats 1000000 in
theorem chits_2_e (op d r t i : Int) (w : World) (h0 : ¬ d = 0) :
    Calls Tryd.prog 91 #[.int .u8 2, .agg #[.int .i64 op, .int .i64 d, .int .i64 r, .int .i64 t, .int .i64 i]] w fun e w' => e = .returned (.bool false) ∧ Below w.heap.size w w' := by
  go_enter Tryd.func91, Tryd.ntmps91
  have e1 : Hm.hasN 2 1 = false := by decide
  have e2 : Hm.hasN 2 2 = true := by decide
  have e4 : Hm.hasN 2 4 = false := by decide
  have e8 : Hm.hasN 2 8 = false := by decide
  have e16 : Hm.hasN 2 16 = false := by decide
  go_wp2_with (go_at_call 121; refine (chas_any _ _ _ (by decide) (by decide) (by decide) (by decide)).mono ?_; rintro e w' ⟨rfl, rfl⟩; (first | rw [e1] | rw [e2] | rw [e4] | rw [e8] | rw [e16]))
  go_ret
  exact ⟨ret_bool (by simp [h0]), (Below.refl _ _).alloc (Nat.le_refl _) _⟩

set_option maxRecDepth 100000 in
set_option maxHeartbeats 1000000 in
theorem chits_5_0 (op d r t i : Int) (w : World) (h0 : i = 0) :
    Calls Tryd.prog 91 #[.int .u8 5, .agg #[.int .i64 op, .int .i64 d, .int .i64 r, .int .i64 t, .int .i64 i]] w fun e w' => e = .returned (.bool true) ∧ Below w.heap.size w w' := by
  go_enter Tryd.func91, Tryd.ntmps91
  have e1 : Hm.hasN 5 1 = true := by decide
  have e2 : Hm.hasN 5 2 = false := by decide
  have e4 : Hm.hasN 5 4 = true := by decide
  have e8 : Hm.hasN 5 8 = false := by decide
  have e16 : Hm.hasN 5 16 = false := by decide
  go_wp2_with (go_at_call 121; refine (chas_any _ _ _ (by decide) (by decide) (by decide) (by decide)).mono ?_; rintro e w' ⟨rfl, rfl⟩; (first | rw [e1] | rw [e2] | rw [e4] | rw [e8] | rw [e16]))
  go_ret
  exact ⟨ret_bool (by simp [h0]), (Below.refl _ _).alloc (Nat.le_refl _) _⟩

set_option maxRecDepth 100000 in
set_option maxHeartbeats 1000000 in
theorem chits_5_1 (op d r t i : Int) (w : World) (h0 : ¬ i = 0) (h1 : d = 2) :
    Calls Tryd.prog 91 #[.int .u8 5, .agg #[.int .i64 op, .int .i64 d, .int .i64 r, .int .i64 t, .int .i64 i]] w fun e w' => e = .returned (.bool true) ∧ Below w.heap.size w w' := by
  go_enter Tryd.func91, Tryd.ntmps91
  have e1 : Hm.hasN 5 1 = true := by decide
  have e2 : Hm.hasN 5 2 = false := by decide
  have e4 : Hm.hasN 5 4 = true := by decide
  have e8 : Hm.hasN 5 8 = false := by decide
  have e16 : Hm.hasN 5 16 = false := by decide
  go_wp2_with (go_at_call 121; refine (chas_any _ _ _ (by decide) (by decide) (by decide) (by decide)).mono ?_; rintro e w' ⟨rfl, rfl⟩; (first | rw [e1] | rw [e2] | rw [e4] | rw [e8] | rw [e16]))
  go_ret
  exact ⟨ret_bool (by simp [h0, h1]), (Below.refl _ _).alloc (Nat.le_refl _) _⟩

set_option maxRecDepth 100000 in
set_option maxHeartbeats 1000000 in
theorem chits_5_e (op d r t i : Int) (w : World) (h0 : ¬ i = 0) (h1 : ¬ d = 2) :
    Calls Tryd.prog 91 #[.int .u8 5, .agg #[.int .i64 op, .int .i64 d, .int .i64 r, .int .i64 t, .int .i64 i]] w fun e w' => e = .returned (.bool false) ∧ Below w.heap.size w w' := by
  go_enter Tryd.func91, Tryd.ntmps91
  have e1 : Hm.hasN 5 1 = true := by decide
  have e2 : Hm.hasN 5 2 = false := by decide
  have e4 : Hm.hasN 5 4 = true := by decide
  have e8 : Hm.hasN 5 8 = false := by decide
  have e16 : Hm.hasN 5 16 = false := by decide
  go_wp2_with (go_at_call 121; refine (chas_any _ _ _ (by decide) (by decide) (by decide) (by decide)).mono ?_; rintro e w' ⟨rfl, rfl⟩; (first | rw [e1] | rw [e2] | rw [e4] | rw [e8] | rw [e16]))
  go_ret
  exact ⟨ret_bool (by simp [h0, h1]), (Below.refl _ _).alloc (Nat.le_refl _) _⟩

set_option maxRecDepth 100000 in
set_option maxHeartbeats 1000000 in
theorem chits_8_0 (op d r t i : Int) (w : World) (h0 : r = 0) :
    Calls Tryd.prog 91 #[.int .u8 8, .agg #[.int .i64 op, .int .i64 d, .int .i64 r, .int .i64 t, .int .i64 i]] w fun e w' => e = .returned (.bool true) ∧ Below w.heap.size w w' := by
  go_enter Tryd.func91, Tryd.ntmps91
  have e1 : Hm.hasN 8 1 = false := by decide
  have e2 : Hm.hasN 8 2 = false := by decide
  have e4 : Hm.hasN 8 4 = false := by decide
  have e8 : Hm.hasN 8 8 = true := by decide
  have e16 : Hm.hasN 8 16 = false := by decide
  go_wp2_with (go_at_call 121; refine (chas_any _ _ _ (by decide) (by decide) (by decide) (by decide)).mono ?_; rintro e w' ⟨rfl, rfl⟩; (first | rw [e1] | rw [e2] | rw [e4] | rw [e8] | rw [e16]))
  go_ret
  exact ⟨ret_bool (by simp [h0]), (Below.refl _ _).alloc (Nat.le_refl _) _⟩

set_option maxRecDepth 100000 in
set_option maxHeartbeats 1000000 in
theorem chits_8_e (op d r t i : Int) (w : World) (h0 : ¬ r = 0) :
    Calls Tryd.prog 91 #[.int .u8 8, .agg #[.int .i64 op, .int .i64 d, .int .i64 r, .int .i64 t, .int .i64 i]] w fun e w' => e = .returned (.bool false) ∧ Below w.heap.size w w' := by
  go_enter Tryd.func91, Tryd.ntmps91
  have e1 : Hm.hasN 8 1 = false := by decide
  have e2 : Hm.hasN 8 2 = false := by decide
  have e4 : Hm.hasN 8 4 = false := by decide
  have e8 : Hm.hasN 8 8 = true := by decide
  have e16 : Hm.hasN 8 16 = false := by decide
  go_wp2_with (go_at_call 121; refine (chas_any _ _ _ (by decide) (by decide) (by decide) (by decide)).mono ?_; rintro e w' ⟨rfl, rfl⟩; (first | rw [e1] | rw [e2] | rw [e4] | rw [e8] | rw [e16]))
  go_ret
  exact ⟨ret_bool (by simp [h0]), (Below.refl _ _).alloc (Nat.le_refl _) _⟩

set_option maxRecDepth 100000 in
set_option maxHeartbeats 1000000 in
theorem chits_16_0 (op d r t i : Int) (w : World) (h0 : t = 0) :
    Calls Tryd.prog 91 #[.int .u8 16, .agg #[.int .i64 op, .int .i64 d, .int .i64 r, .int .i64 t, .int .i64 i]] w fun e w' => e = .returned (.bool true) ∧ Below w.heap.size w w' := by
  go_enter Tryd.func91, Tryd.ntmps91
  have e1 : Hm.hasN 16 1 = false := by decide
  have e2 : Hm.hasN 16 2 = false := by decide
  have e4 : Hm.hasN 16 4 = false := by decide
  have e8 : Hm.hasN 16 8 = false := by decide
  have e16 : Hm.hasN 16 16 = true := by decide
  go_wp2_with (go_at_call 121; refine (chas_any _ _ _ (by decide) (by decide) (by decide) (by decide)).mono ?_; rintro e w' ⟨rfl, rfl⟩; (first | rw [e1] | rw [e2] | rw [e4] | rw [e8] | rw [e16]))
  go_ret
  exact ⟨ret_bool (by simp [h0]), (Below.refl _ _).alloc (Nat.le_refl _) _⟩

set_option maxRecDepth 100000 in
set_option maxHeartbeats 1000000 in
theorem chits_16_e (op d r t i : Int) (w : World) (h0 : ¬ t = 0) :
    Calls Tryd.prog 91 #[.int .u8 16, .agg #[.int .i64 op, .int .i64 d, .int .i64 r, .int .i64 t, .int .i64 i]] w fun e w' => e = .returned (.bool false) ∧ Below w.heap.size w w' := by
  go_enter Tryd.func91, Tryd.ntmps91
  have e1 : Hm.hasN 16 1 = false := by decide
  have e2 : Hm.hasN 16 2 = false := by decide
  have e4 : Hm.hasN 16 4 = false := by decide
  have e8 : Hm.hasN 16 8 = false := by decide
  have e16 : Hm.hasN 16 16 = true := by decide
  go_wp2_with (go_at_call 121; refine (chas_any _ _ _ (by decide) (by decide) (by decide) (by decide)).mono ?_; rintro e w' ⟨rfl, rfl⟩; (first | rw [e1] | rw [e2] | rw [e4] | rw [e8] | rw [e16]))
  go_ret
  exact ⟨ret_bool (by simp [h0]), (Below.refl _ _).alloc (Nat.le_refl _) _⟩

theorem chits_any (b op d r t i : Int) (w : World) (hb : b = 0 ∨ b = 1 ∨ b = 2 ∨ b = 5 ∨ b = 8 ∨ b = 16) :
    Calls Tryd.prog 91 #[.int .u8 b, .agg #[.int .i64 op, .int .i64 d, .int .i64 r, .int .i64 t, .int .i64 i]] w fun e w' => e = .returned (.bool (Hm.hitsC b ⟨d, r, t, i⟩)) ∧ Below w.heap.size w w' := by
  rcases hb with rfl | rfl | rfl | rfl | rfl | rfl
  · rw [(show Hm.hitsC 0 ⟨d, r, t, i⟩ = false by simp [Hm.hitsC, show Hm.hasN 0 1 = false by decide, show Hm.hasN 0 2 = false by decide, show Hm.hasN 0 4 = false by decide, show Hm.hasN 0 8 = false by decide, show Hm.hasN 0 16 = false by decide])]; exact chits_0_e op d r t i w
  · by_cases g0 : i = 0
    · rw [(show Hm.hitsC 1 ⟨d, r, t, i⟩ = true by simp [Hm.hitsC, show Hm.hasN 1 1 = true by decide, show Hm.hasN 1 2 = false by decide, show Hm.hasN 1 4 = false by decide, show Hm.hasN 1 8 = false by decide, show Hm.hasN 1 16 = false by decide, g0])]; exact chits_1_0 op d r t i w g0
    · rw [(show Hm.hitsC 1 ⟨d, r, t, i⟩ = false by simp [Hm.hitsC, show Hm.hasN 1 1 = true by decide, show Hm.hasN 1 2 = false by decide, show Hm.hasN 1 4 = false by decide, show Hm.hasN 1 8 = false by decide, show Hm.hasN 1 16 = false by decide, g0])]; exact chits_1_e op d r t i w g0
  · by_cases g0 : d = 0
    · rw [(show Hm.hitsC 2 ⟨d, r, t, i⟩ = true by simp [Hm.hitsC, show Hm.hasN 2 1 = false by decide, show Hm.hasN 2 2 = true by decide, show Hm.hasN 2 4 = false by decide, show Hm.hasN 2 8 = false by decide, show Hm.hasN 2 16 = false by decide, g0])]; exact chits_2_0 op d r t i w g0
    · rw [(show Hm.hitsC 2 ⟨d, r, t, i⟩ = false by simp [Hm.hitsC, show Hm.hasN 2 1 = false by decide, show Hm.hasN 2 2 = true by decide, show Hm.hasN 2 4 = false by decide, show Hm.hasN 2 8 = false by decide, show Hm.hasN 2 16 = false by decide, g0])]; exact chits_2_e op d r t i w g0
  · by_cases g0 : i = 0
    · rw [(show Hm.hitsC 5 ⟨d, r, t, i⟩ = true by simp [Hm.hitsC, show Hm.hasN 5 1 = true by decide, show Hm.hasN 5 2 = false by decide, show Hm.hasN 5 4 = true by decide, show Hm.hasN 5 8 = false by decide, show Hm.hasN 5 16 = false by decide, g0])]; exact chits_5_0 op d r t i w g0
    · by_cases g1 : d = 2
      · rw [(show Hm.hitsC 5 ⟨d, r, t, i⟩ = true by simp [Hm.hitsC, show Hm.hasN 5 1 = true by decide, show Hm.hasN 5 2 = false by decide, show Hm.hasN 5 4 = true by decide, show Hm.hasN 5 8 = false by decide, show Hm.hasN 5 16 = false by decide, g0, g1])]; exact chits_5_1 op d r t i w g0 g1
      · rw [(show Hm.hitsC 5 ⟨d, r, t, i⟩ = false by simp [Hm.hitsC, show Hm.hasN 5 1 = true by decide, show Hm.hasN 5 2 = false by decide, show Hm.hasN 5 4 = true by decide, show Hm.hasN 5 8 = false by decide, show Hm.hasN 5 16 = false by decide, g0, g1])]; exact chits_5_e op d r t i w g0 g1
  · by_cases g0 : r = 0
    · rw [(show Hm.hitsC 8 ⟨d, r, t, i⟩ = true by simp [Hm.hitsC, show Hm.hasN 8 1 = false by decide, show Hm.hasN 8 2 = false by decide, show Hm.hasN 8 4 = false by decide, show Hm.hasN 8 8 = true by decide, show Hm.hasN 8 16 = false by decide, g0])]; exact chits_8_0 op d r t i w g0
    · rw [(show Hm.hitsC 8 ⟨d, r, t, i⟩ = false by simp [Hm.hitsC, show Hm.hasN 8 1 = false by decide, show Hm.hasN 8 2 = false by decide, show Hm.hasN 8 4 = false by decide, show Hm.hasN 8 8 = true by decide, show Hm.hasN 8 16 = false by decide, g0])]; exact chits_8_e op d r t i w g0
  · by_cases g0 : t = 0
    · rw [(show Hm.hitsC 16 ⟨d, r, t, i⟩ = true by simp [Hm.hitsC, show Hm.hasN 16 1 = false by decide, show Hm.hasN 16 2 = false by decide, show Hm.hasN 16 4 = false by decide, show Hm.hasN 16 8 = false by decide, show Hm.hasN 16 16 = true by decide, g0])]; exact chits_16_0 op d r t i w g0
    · rw [(show Hm.hitsC 16 ⟨d, r, t, i⟩ = false by simp [Hm.hitsC, show Hm.hasN 16 1 = false by decide, show Hm.hasN 16 2 = false by decide, show Hm.hasN 16 4 = false by decide, show Hm.hasN 16 8 = false by decide, show Hm.hasN 16 16 = true by decide, g0])]; exact chits_16_e op d r t i w g0
end Go.Proofs.YtdcmdjeooklmjaaDoor
