/-
  W8 W9 in one text.
-/
import Derived.Test.YtdcmdjeooklmjaaDoorGJ
set_option linter.unusedVariables false
set_option linter.unusedSimpArgs false
/-
  Walks: hartref's Encode.
-/
namespace Go.Proofs.YtdcmdjeooklmjaaDoor
open Go.RowKit

set_option maxRecDepth 100000 in
set_option maxHeartbeats 2000000 in
theorem refEncode_any (op rd rs1 rs2 imm : Int) (w : World) (hrd : I64 rd) (hrs1 : I64 rs1) (hrs2 : I64 rs2) (himm : I64 imm) :
    Calls Tryd.prog 14 #[.agg #[.int .i64 op, .int .i64 rd, .int .i64 rs1, .int .i64 rs2, .int .i64 imm]] w fun e w' => e = .returned (.tuple #[.int .i64 (Hm.encR op rd rs1 rs2 imm), .int .i64 (Hm.errR op rd rs1 rs2 imm)]) ∧ Below w.heap.size w w' := by
  cases hl : Hm.legalR op rd rs1 rs2 imm with
  | false =>
    have HE : Hid (Hm.encR op rd rs1 rs2 imm = 0) := by simp [Hid, Hm.encR, hl]
    have HR : Hid (Hm.errR op rd rs1 rs2 imm = 1) := by simp [Hid, Hm.errR, hl]
    go_enter Tryd.func14, Tryd.ntmps14
    go_wp2_with fail
    refine (refLegal_any _ _ _ _ _ _).mono ?_
    rintro e w1 ⟨rfl, hb⟩
    have HB : Hid (Below w.heap.size w w1) := ((Below.refl _ _).alloc (Nat.le_refl _) _).trans (hb.mono (by simp))
    clear hb
    go_wp2
    go_ret2
    exact ⟨ret_ints2 HE.out.symm HR.out.symm, HB.out⟩
  | true =>
    have hop : 1 ≤ op ∧ op ≤ 48 := by
      by_cases h : 1 ≤ op ∧ op ≤ 48
      · exact h
      · unfold Hm.legalR at hl; rw [if_neg h] at hl; cases hl
    obtain ⟨k, rfl⟩ := Int.eq_ofNat_of_zero_le (by omega : 0 ≤ op)
    have HE : Hid (Hm.encR k rd rs1 rs2 imm = Hm.fill rd rs1 rs2 imm (Hm.bitsS k).data.toList 0) := by simp [Hid, Hm.encR, hl, Hm.bitsS_list]
    have HR : Hid (Hm.errR k rd rs1 rs2 imm = 0) := by simp [Hid, Hm.errR, hl]
    have h4 : (k : Int) < 49 := by omega
    have h5 : (0 : Int) ≤ k := by omega
    have hk : k < 49 := by omega
    clear hop
    go_enter Tryd.func14, Tryd.ntmps14
    go_wp2_with fail
    refine (refLegal_any _ _ _ _ _ _).mono ?_
    rintro e w1 ⟨rfl, hb⟩
    have HB : Hid (Below w.heap.size w w1) := ((Below.refl _ _).alloc (Nat.le_refl _) _).trans (hb.mono (by simp))
    have hz : w.heap.size < w1.heap.size := by have := hb.size; simp at this; omega
    have c0 : w1.cell? ⟨w.heap.size, 0, none⟩ = some (.int .i64 k) := by rw [bcell hb _ _ (by simp)]; simp
    have c1 : w1.cell? ⟨w.heap.size, 1, none⟩ = some (.int .i64 rd) := by rw [bcell hb _ _ (by simp)]; simp
    have c2 : w1.cell? ⟨w.heap.size, 2, none⟩ = some (.int .i64 rs1) := by rw [bcell hb _ _ (by simp)]; simp
    have c3 : w1.cell? ⟨w.heap.size, 3, none⟩ = some (.int .i64 rs2) := by rw [bcell hb _ _ (by simp)]; simp
    have c4 : w1.cell? ⟨w.heap.size, 4, none⟩ = some (.int .i64 imm) := by rw [bcell hb _ _ (by simp)]; simp
    clear hb
    go_wp2
    refine wp_region_held_drew (S := fun w' => w'.cell? ⟨w.heap.size, 0, none⟩ = some (.int .i64 k) ∧ w'.cell? ⟨w.heap.size, 1, none⟩ = some (.int .i64 rd) ∧ w'.cell? ⟨w.heap.size, 2, none⟩ = some (.int .i64 rs1) ∧ w'.cell? ⟨w.heap.size, 3, none⟩ = some (.int .i64 rs2) ∧ w'.cell? ⟨w.heap.size, 4, none⟩ = some (.int .i64 imm)) (by kernel_rfl) (by go_keep) (fun hHeld => ?_)
    refine' takeH_1 _ (by kernel_rfl) (by kernel_rfl) (by kernel_rfl) (fun _ _ _ h => h) (by rfl) ?hy1 hHeld ?rest1
    case hy1 => (intro w hSw; (try dsimp only at hSw); go_simp; try with_reducible rfl)
    simp only [Act.put, List.setIfInBounds_toArray, List.set_cons_zero, List.set_cons_succ]
    refine' takeH_2 _ (by kernel_rfl) (by kernel_rfl) (by kernel_rfl) (fun _ _ _ h => h) (by rfl) ?hy2 hHeld ?rest2
    case hy2 => (intro w hSw; (try dsimp only at hSw); go_simp; try with_reducible rfl)
    simp only [Act.put, List.setIfInBounds_toArray, List.set_cons_zero, List.set_cons_succ]
    refine' takeH_5 _ (by kernel_rfl) (by kernel_rfl) (by kernel_rfl) (fun _ _ _ h => h) (by rfl) ?hy3 hHeld ?rest3
    case hy3 => (intro w hSw; (try dsimp only at hSw); go_simp; try with_reducible rfl)
    simp only [Act.put, List.setIfInBounds_toArray, List.set_cons_zero, List.set_cons_succ]
    refine' takeH_6 _ (by kernel_rfl) (by kernel_rfl) (by kernel_rfl) (fun _ _ _ h => h) (by rfl) ?hy4 hHeld ?rest4
    case hy4 => (intro w hSw; (try dsimp only at hSw); go_simp; try with_reducible rfl)
    simp only [Act.put, List.setIfInBounds_toArray, List.set_cons_zero, List.set_cons_succ]
    refine' takeH_7 _ (by kernel_rfl) (by kernel_rfl) (by kernel_rfl) (fun _ _ _ h => h) (by rfl) ?hy5 hHeld ?rest5
    case hy5 => (intro w hSw; (try dsimp only at hSw); go_simp; try with_reducible rfl)
    simp only [Act.put, List.setIfInBounds_toArray, List.set_cons_zero, List.set_cons_succ]
    refine' takeH_8 _ (by kernel_rfl) (by kernel_rfl) (by kernel_rfl) (fun _ _ _ h => h) (by rfl) ?hy6 hHeld ?rest6
    case hy6 => (intro w hSw; (try dsimp only at hSw); go_simp; try with_reducible rfl)
    simp only [Act.put, List.setIfInBounds_toArray, List.set_cons_zero, List.set_cons_succ]
    refine' takeH_9 _ (by kernel_rfl) (by kernel_rfl) (by kernel_rfl) (fun _ _ _ h => h) (by rfl) ?hy7 hHeld ?rest7
    case hy7 => (intro w hSw; (try dsimp only at hSw); go_simp; try with_reducible rfl)
    simp only [Act.put, List.setIfInBounds_toArray, List.set_cons_zero, List.set_cons_succ]
    refine' takeH_10 _ (by kernel_rfl) (by kernel_rfl) (by kernel_rfl) (fun _ _ _ h => h) (by rfl) ?hy8 hHeld ?rest8
    case hy8 => (intro w hSw; (try dsimp only at hSw); go_simp; try with_reducible rfl)
    simp only [Act.put, List.setIfInBounds_toArray, List.set_cons_zero, List.set_cons_succ]
    refine' takeH_11 _ (by kernel_rfl) (by kernel_rfl) (by kernel_rfl) (fun _ _ _ h => h) (by rfl) ?hy9 hHeld ?rest9
    case hy9 => (intro w hSw; (try dsimp only at hSw); go_simp; try with_reducible rfl)
    simp only [Act.put, List.setIfInBounds_toArray, List.set_cons_zero, List.set_cons_succ]
    refine' takeH_12 _ (by kernel_rfl) (by kernel_rfl) (by kernel_rfl) (fun _ _ _ h => h) (by rfl) ?hy10 hHeld ?rest10
    case hy10 => (intro w hSw; (try dsimp only at hSw); go_simp; try with_reducible rfl)
    simp only [Act.put, List.setIfInBounds_toArray, List.set_cons_zero, List.set_cons_succ]
    refine runH_0 (by kernel_rfl) (fun K hK => ?_)
    go_simp
    (go_at_call 33; refine (bits_any _).mono ?_; rintro e w2 ⟨rfl, hz2, hb2, hc⟩; go_wp2_with fail)
    refine hK.out _ _ ?hS12 (fun hHeld => ?rest12)
    case hS12 => ((simp only [bcell hb2 _ _ (show w.heap.size < _ by simp; omega)]; go_keep))
    clear hK K
    (try simp only [Act.put, List.setIfInBounds_toArray, List.set_cons_zero, List.set_cons_succ])
    have hck := hc k hk
    simp at hck
    have HB2 : Hid (Below w.heap.size w w2) := (HB.out.drew).trans (hb2.mono (by simp; omega))
    have hs := Hm.bitsS_size k
    clear hb2 hc hz2
    refine' takeH_3 _ (by kernel_rfl) (by kernel_rfl) (by kernel_rfl) (fun _ _ _ h => h) (by rfl) ?hy13 hHeld ?rest13
    case hy13 => (intro w hSw; (try dsimp only at hSw); go_simp; try with_reducible rfl)
    simp only [Act.put, List.setIfInBounds_toArray, List.set_cons_zero, List.set_cons_succ]
    refine runH_4 (by kernel_rfl) (fun K hK => ?_)
    go_simp
    refine hK.out _ _ ?hS15 (fun hHeld => ?rest15)
    case hS15 => (exact hHeld)
    clear hK K
    (try simp only [Act.put, List.setIfInBounds_toArray, List.set_cons_zero, List.set_cons_succ])
    refine runH_13 (by kernel_rfl) (fun K hK => ?_)
    go_simp
    (go_at_call 39; refine (fill_any _ _ _ _ _ _ hs hrd.1 hrd.2 hrs1.1 hrs1.2 hrs2.1 hrs2.2 himm.1 himm.2).mono ?_; rintro e w3 ⟨rfl, rfl⟩; go_wp2_with fail)
    refine hK.out _ _ ?hS16 (fun hHeld => ?rest16)
    case hS16 => (exact hHeld)
    clear hK K
    (try simp only [Act.put, List.setIfInBounds_toArray, List.set_cons_zero, List.set_cons_succ])
    refine' takeH_14 _ (by kernel_rfl) (by kernel_rfl) (by kernel_rfl) (fun _ _ _ h => h) (by rfl) ?hy17 hHeld ?rest17
    case hy17 => (intro w hSw; (try dsimp only at hSw); go_simp; try with_reducible rfl)
    simp only [Act.put, List.setIfInBounds_toArray, List.set_cons_zero, List.set_cons_succ]
    refine' takeH_15 _ (by kernel_rfl) (by kernel_rfl) (by kernel_rfl) (fun _ _ _ h => h) (by rfl) ?hy18 hHeld ?rest18
    case hy18 => (intro w hSw; (try dsimp only at hSw); go_simp; try with_reducible rfl)
    simp only [Act.put, List.setIfInBounds_toArray, List.set_cons_zero, List.set_cons_succ]
    refine wpAnyH_done (by kernel_rfl) ?_ _
    go_wp2
    go_ret2
    exact ⟨ret_ints2 HE.out.symm HR.out.symm, HB2.out⟩

end Go.Proofs.YtdcmdjeooklmjaaDoor

/-
  Walks: hartref's Decode.
-/
namespace Go.Proofs.YtdcmdjeooklmjaaDoor
open Go.RowKit

def decVal (d : Hm.Dec) : Value := .tuple #[.agg #[.int .i64 d.op, .int .i64 d.f.d, .int .i64 d.f.r, .int .i64 d.f.t, .int .i64 d.f.imm], .int .i64 d.err]

theorem below_five {B : Nat} {w w' : World} (h : Below B w w') (v0 v1 v2 v3 v4 : Value) :
    Below B w (((((w'.setCell ⟨B, 0, none⟩ v0).setCell ⟨B, 1, none⟩ v1).setCell ⟨B, 2, none⟩ v2).setCell ⟨B, 3, none⟩ v3).setCell ⟨B, 4, none⟩ v4) :=
  ((((h.setCell (Nat.le_refl _) _).setCell (Nat.le_refl _) _).setCell (Nat.le_refl _) _).setCell (Nat.le_refl _) _).setCell (Nat.le_refl _) _
theorem ret_dec {a b : Hm.Dec} (h : a = b) : Ending.returned (decVal a) = .returned (decVal b) := by rw [h]

set_option maxRecDepth 100000 in
set_option maxHeartbeats 4000000 in
theorem refDecode_any (x : Int) (w : World) (x0 : 0 ≤ x) (x1 : x < 4294967296) :
    Calls Tryd.prog 16 #[.int .i64 x] w fun e w' => e = .returned (decVal (Hm.decR x)) ∧ Below w.heap.size w w' := by
  go_enter Tryd.func16, Tryd.ntmps16
  go_wp2_with fail
  refine (bits_any _).mono ?_
  rintro e w2 ⟨rfl, hz2, hb2, hc⟩
  replace hc : ∀ k, k < 49 → w2.cell? ⟨w.heap.size + 1, k, none⟩ = some (.string (Hm.bitsS k)) := fun k hk => by simpa using hc k hk
  have HB : Hid (Below w.heap.size w w2) := ((Below.refl _ _).alloc (Nat.le_refl _) _).trans (hb2.mono (by simp))
  have HC : Hid (∀ k, k < 49 → w2.cell? ⟨w.heap.size + 1, k, none⟩ = some (.string (Hm.bitsS k))) := hc
  have hfr : ∀ o, w2.frozen? ⟨w.heap.size, o, none⟩ = false := fun o => by rw [hb2.frozen (p := ⟨w.heap.size, o, none⟩) (by simp)]; simp
  have r0 : w2.cell? ⟨w.heap.size, 0, none⟩ = some (.int .i64 0) := by rw [bcell hb2 _ _ (by simp)]; simp
  have r1 : w2.cell? ⟨w.heap.size, 1, none⟩ = some (.int .i64 0) := by rw [bcell hb2 _ _ (by simp)]; simp
  have r2 : w2.cell? ⟨w.heap.size, 2, none⟩ = some (.int .i64 0) := by rw [bcell hb2 _ _ (by simp)]; simp
  have r3 : w2.cell? ⟨w.heap.size, 3, none⟩ = some (.int .i64 0) := by rw [bcell hb2 _ _ (by simp)]; simp
  have r4 : w2.cell? ⟨w.heap.size, 4, none⟩ = some (.int .i64 0) := by rw [bcell hb2 _ _ (by simp)]; simp
  clear hc hb2 hz2
  go_wp2
  go_loop [5] (fun o => ∃ k : Nat, 1 ≤ k ∧ k ≤ 49 ∧ o = .int .i64 k ∧ Hm.decFrom x (49 - k) k = Hm.decR x) (fun o => 49 - (intOf o).toNat)
  case atStart => exact ⟨1, by omega, by omega, rfl, rfl⟩
  case round =>
    obtain ⟨k, hk1, hk2, rfl, hd0⟩ := hrel
    have HD : Hid (Hm.decFrom x (49 - k) k = Hm.decR x) := hd0
    clear hd0
    by_cases hlt : k < 49
    · have hck := HC.out k hlt
      have h4 : (k : Int) < 49 := by omega
      cases hr : Hm.rd x (Hm.bitsS k).data.toList ⟨0, 0, 0, 0⟩ with
      | none =>
        have HD2 : Hid (Hm.decFrom x (49 - (k + 1)) (k + 1) = Hm.decR x) := by
          have := HD.out
          rw [show 49 - k = (49 - (k + 1)) + 1 from by omega, Hm.decFrom_none hr] at this
          exact this
        have HR : Hid (rdVal (Hm.rd x (Hm.bitsS k).data.toList ⟨0, 0, 0, 0⟩) = .tuple #[.int .i64 0, .int .i64 0, .int .i64 0, .int .i64 0, .bool false]) := by rw [hr]; rfl
        go_wp2_with (go_at_call 41; refine (read_any _ _ _ (Hm.bitsS_size k) x0 x1).mono ?_; rintro e w' ⟨rfl, rfl⟩; rw [HR.out])
        go_round
        case rel => exact ⟨k + 1, by omega, by omega, by go_num, HD2.out⟩
        case measure => simp [intOf]; omega
      | some f =>
        have hbd := Hm.rd_bd hr
        have hln : (Hm.bitsS k).data.toList.length ≤ 32 := by have := Hm.bitsS_size k; simpa using this
        have i0 : 0 ≤ f.imm := hbd.1
        have i1 : f.imm ≤ 33554432 := by have := hbd.2; simp only at this; omega
        have HR : Hid (rdVal (Hm.rd x (Hm.bitsS k).data.toList ⟨0, 0, 0, 0⟩) = .tuple #[.int .i64 f.d, .int .i64 f.r, .int .i64 f.t, .int .i64 f.imm, .bool true]) := by rw [hr]; rfl
        have HD2 : Hid (Hm.decR x = ⟨k, { f with imm := Hm.immR (Hm.bitsS k).data.toList f.imm }, 0⟩) := by
          have := HD.out
          rw [show 49 - k = (49 - (k + 1)) + 1 from by omega, Hm.decFrom_some hr] at this
          exact this.symm
        have hno : Hm.hi (Hm.bitsS k).data.toList < 0 → f.imm = 0 := fun h => Hm.rd_imm_no (Hm.no_letter h) hr
        have hhi := Hm.hi_bd (Hm.bitsS k).data.toList
        have hsz : (Hm.bitsS k).size ≤ 1000 := Nat.le_trans (Hm.bitsS_size k) (by decide)
        clear hr hbd hln HD HC
        by_cases hu : Hm.kind (Hm.bitsS k).data.toList = 85
        · have hu' : (Hm.kind (Hm.bitsS k).data.toList != 85) = false := by rw [hu]; rfl
          have HI : Hid (Hm.immR (Hm.bitsS k).data.toList f.imm = f.imm) := by simp [Hid, Hm.immR, hu]
          clear hu hno
          go_wp2_with (first | (go_at_call 41; refine (read_any _ _ _ (Hm.bitsS_size k) x0 x1).mono ?_; rintro e w' ⟨rfl, rfl⟩; rw [HR.out]) | (go_at_call 37; refine (kind_any _ _ hsz).mono ?_; rintro e w' ⟨rfl, rfl⟩) | (go_at_call 43; refine (highest_any _ _ hsz).mono ?_; rintro e w' ⟨rfl, rfl⟩) | (go_at_call 42; refine (signed_any _ _ _ (by omega) (by omega) (by omega) (by omega)).mono ?_; rintro e w' ⟨rfl, rfl⟩))
          exact bodyPost_ret (v := decVal ⟨k, ⟨f.d, f.r, f.t, f.imm⟩, 0⟩) (by simp [results, Tryd.results16, go_sem, decVal, r0, r1, r2, r3, r4]) rfl ⟨ret_dec (by rw [HD2.out, HI.out]), below_five HB.out _ _ _ _ _⟩
        have hu' : (Hm.kind (Hm.bitsS k).data.toList != 85) = true := by simpa using hu
        by_cases hh : Hm.kind (Hm.bitsS k).data.toList = 72
        · have hh' : (Hm.kind (Hm.bitsS k).data.toList != 72) = false := by rw [hh]; rfl
          have HI : Hid (Hm.immR (Hm.bitsS k).data.toList f.imm = f.imm) := by simp [Hid, Hm.immR, hh]
          clear hu hno hh
          go_wp2_with (first | (go_at_call 41; refine (read_any _ _ _ (Hm.bitsS_size k) x0 x1).mono ?_; rintro e w' ⟨rfl, rfl⟩; rw [HR.out]) | (go_at_call 37; refine (kind_any _ _ hsz).mono ?_; rintro e w' ⟨rfl, rfl⟩) | (go_at_call 43; refine (highest_any _ _ hsz).mono ?_; rintro e w' ⟨rfl, rfl⟩) | (go_at_call 42; refine (signed_any _ _ _ (by omega) (by omega) (by omega) (by omega)).mono ?_; rintro e w' ⟨rfl, rfl⟩))
          exact bodyPost_ret (v := decVal ⟨k, ⟨f.d, f.r, f.t, f.imm⟩, 0⟩) (by simp [results, Tryd.results16, go_sem, decVal, r0, r1, r2, r3, r4]) rfl ⟨ret_dec (by rw [HD2.out, HI.out]), below_five HB.out _ _ _ _ _⟩
        have hh' : (Hm.kind (Hm.bitsS k).data.toList != 72) = true := by simpa using hh
        by_cases hp : 0 < f.imm
        · have hh0 : 0 ≤ Hm.hi (Hm.bitsS k).data.toList := by
            by_cases h : 0 ≤ Hm.hi (Hm.bitsS k).data.toList
            · exact h
            · have := hno (by omega); omega
          have HI : Hid (Hm.immR (Hm.bitsS k).data.toList f.imm = Hm.sgn f.imm (Hm.hi (Hm.bitsS k).data.toList).toNat) := by simp [Hid, Hm.immR, hu, hh, hp]
          obtain ⟨hhi0, hhi1⟩ := hhi
          clear hu hno hh
          go_wp2_with (first | (go_at_call 41; refine (read_any _ _ _ (Hm.bitsS_size k) x0 x1).mono ?_; rintro e w' ⟨rfl, rfl⟩; rw [HR.out]) | (go_at_call 37; refine (kind_any _ _ hsz).mono ?_; rintro e w' ⟨rfl, rfl⟩) | (go_at_call 43; refine (highest_any _ _ hsz).mono ?_; rintro e w' ⟨rfl, rfl⟩) | (go_at_call 42; refine (signed_any _ _ _ (by omega) (by omega) (by omega) (by omega)).mono ?_; rintro e w' ⟨rfl, rfl⟩))
          exact bodyPost_ret (v := decVal ⟨k, ⟨f.d, f.r, f.t, Hm.sgn f.imm (Hm.hi (Hm.bitsS k).data.toList).toNat⟩, 0⟩) (by simp [results, Tryd.results16, go_sem, decVal, r0, r1, r2, r3, r4]) rfl ⟨ret_dec (by rw [HD2.out, HI.out]), below_five HB.out _ _ _ _ _⟩
        · have HI : Hid (Hm.immR (Hm.bitsS k).data.toList f.imm = f.imm) := by simp [Hid, Hm.immR, hp]
          clear hu hno hh
          go_wp2_with (first | (go_at_call 41; refine (read_any _ _ _ (Hm.bitsS_size k) x0 x1).mono ?_; rintro e w' ⟨rfl, rfl⟩; rw [HR.out]) | (go_at_call 37; refine (kind_any _ _ hsz).mono ?_; rintro e w' ⟨rfl, rfl⟩) | (go_at_call 43; refine (highest_any _ _ hsz).mono ?_; rintro e w' ⟨rfl, rfl⟩) | (go_at_call 42; refine (signed_any _ _ _ (by omega) (by omega) (by omega) (by omega)).mono ?_; rintro e w' ⟨rfl, rfl⟩))
          exact bodyPost_ret (v := decVal ⟨k, ⟨f.d, f.r, f.t, f.imm⟩, 0⟩) (by simp [results, Tryd.results16, go_sem, decVal, r0, r1, r2, r3, r4]) rfl ⟨ret_dec (by rw [HD2.out, HI.out]), below_five HB.out _ _ _ _ _⟩
    · have HD2 : Hid (Hm.decR x = ⟨0, ⟨0, 0, 0, 0⟩, 2⟩) := by
        have := HD.out
        rw [show 49 - k = 0 from by omega] at this
        exact this.symm
      clear HD HC
      go_wp2
      exact bodyPost_ret (v := decVal ⟨0, ⟨0, 0, 0, 0⟩, 2⟩) (by simp [results, Tryd.results16, go_sem, decVal, r0, r1, r2, r3, r4]) rfl ⟨ret_dec (by rw [HD2.out]), below_five HB.out _ _ _ _ _⟩

end Go.Proofs.YtdcmdjeooklmjaaDoor
