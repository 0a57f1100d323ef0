/-
  Walks: hartref's Decode.
-/
import Derived.Test.YtkjkddcgigbglaaDoorW8
set_option linter.unusedVariables false
set_option linter.unusedSimpArgs false
namespace Go.Proofs.YtkjkddcgigbglaaDoor
open Go.RowKit

def decVal (d : Hm.Dec) : Value := .tuple #[.agg #[.int .i64 d.op, .int .i64 d.f.d, .int .i64 d.f.r, .int .i64 d.f.t, .int .i64 d.f.imm], .int .i64 d.err]

theorem below_five {B : Nat} {w w' : World} (h : Below B w w') (v0 v1 v2 v3 v4 : Value) :
    Below B w (((((w'.setCell ⟨B, 0, none⟩ v0).setCell ⟨B, 1, none⟩ v1).setCell ⟨B, 2, none⟩ v2).setCell ⟨B, 3, none⟩ v3).setCell ⟨B, 4, none⟩ v4) :=
  ((((h.setCell (Nat.le_refl _) _).setCell (Nat.le_refl _) _).setCell (Nat.le_refl _) _).setCell (Nat.le_refl _) _).setCell (Nat.le_refl _) _
theorem ret_dec {a b : Hm.Dec} (h : a = b) : Ending.returned (decVal a) = .returned (decVal b) := by rw [h]

set_option maxRecDepth 100000 in
set_option maxHeartbeats 4000000 in
theorem refDecode_any (x : Int) (w : World) (x0 : 0 ≤ x) (x1 : x < 4294967296) :
    Calls Tryd.prog 10 #[.int .i64 x] w fun e w' => e = .returned (decVal (Hm.decR x)) ∧ Below w.heap.size w w' := by
  go_enter Tryd.func10, Tryd.ntmps10
  go_wp2_with fail
  refine (bits_any _).mono ?_
  rintro e w2 ⟨rfl, hz2, hb2, hc⟩
  replace hc : ∀ k, k < 49 → w2.cell? ⟨w.heap.size + 1, k, none⟩ = some (.string (Hm.bitsS k)) := fun k hk => by simpa using hc k hk
  have HB : Hid (Below w.heap.size w w2) := ((Below.refl _ _).alloc (Nat.le_refl _) _).trans (hb2.mono (by simp))
  have HC : Hid (∀ k, k < 49 → w2.cell? ⟨w.heap.size + 1, k, none⟩ = some (.string (Hm.bitsS k))) := hc
  have hfr : ∀ o, w2.frozen? ⟨w.heap.size, o, none⟩ = false := fun o => by rw [hb2.frozen (p := ⟨w.heap.size, o, none⟩) (by simp)]; simp
  have r0 : w2.cell? ⟨w.heap.size, 0, none⟩ = some (.int .i64 0) := by rw [bcell hb2 _ _ (by simp)]; simp
  have r1 : w2.cell? ⟨w.heap.size, 1, none⟩ = some (.int .i64 0) := by rw [bcell hb2 _ _ (by simp)]; simp
  have r2 : w2.cell? ⟨w.heap.size, 2, none⟩ = some (.int .i64 0) := by rw [bcell hb2 _ _ (by simp)]; simp
  have r3 : w2.cell? ⟨w.heap.size, 3, none⟩ = some (.int .i64 0) := by rw [bcell hb2 _ _ (by simp)]; simp
  have r4 : w2.cell? ⟨w.heap.size, 4, none⟩ = some (.int .i64 0) := by rw [bcell hb2 _ _ (by simp)]; simp
  clear hc hb2 hz2
  go_wp2
  go_loop [5] (fun o => ∃ k : Nat, 1 ≤ k ∧ k ≤ 49 ∧ o = .int .i64 k ∧ Hm.decFrom x (49 - k) k = Hm.decR x) (fun o => 49 - (intOf o).toNat)
  case atStart => exact ⟨1, by omega, by omega, rfl, rfl⟩
  case round =>
    obtain ⟨k, hk1, hk2, rfl, hd0⟩ := hrel
    have HD : Hid (Hm.decFrom x (49 - k) k = Hm.decR x) := hd0
    clear hd0
    by_cases hlt : k < 49
    · have hck := HC.out k hlt
      have h4 : (k : Int) < 49 := by omega
      cases hr : Hm.rd x (Hm.bitsS k).data.toList ⟨0, 0, 0, 0⟩ with
      | none =>
        have HD2 : Hid (Hm.decFrom x (49 - (k + 1)) (k + 1) = Hm.decR x) := by
          have := HD.out
          rw [show 49 - k = (49 - (k + 1)) + 1 from by omega, Hm.decFrom_none hr] at this
          exact this
        have HR : Hid (rdVal (Hm.rd x (Hm.bitsS k).data.toList ⟨0, 0, 0, 0⟩) = .tuple #[.int .i64 0, .int .i64 0, .int .i64 0, .int .i64 0, .bool false]) := by rw [hr]; rfl
        go_wp2_with (go_at_call 22; refine (read_any _ _ _ (Hm.bitsS_size k) x0 x1).mono ?_; rintro e w' ⟨rfl, rfl⟩; rw [HR.out])
        go_round
        case rel => exact ⟨k + 1, by omega, by omega, by go_num, HD2.out⟩
        case measure => simp [intOf]; omega
      | some f =>
        have hbd := Hm.rd_bd hr
        have hln : (Hm.bitsS k).data.toList.length ≤ 32 := by have := Hm.bitsS_size k; simpa using this
        have i0 : 0 ≤ f.imm := hbd.1
        have i1 : f.imm ≤ 33554432 := by have := hbd.2; simp only at this; omega
        have HR : Hid (rdVal (Hm.rd x (Hm.bitsS k).data.toList ⟨0, 0, 0, 0⟩) = .tuple #[.int .i64 f.d, .int .i64 f.r, .int .i64 f.t, .int .i64 f.imm, .bool true]) := by rw [hr]; rfl
        have HD2 : Hid (Hm.decR x = ⟨k, { f with imm := Hm.immR (Hm.bitsS k).data.toList f.imm }, 0⟩) := by
          have := HD.out
          rw [show 49 - k = (49 - (k + 1)) + 1 from by omega, Hm.decFrom_some hr] at this
          exact this.symm
        have hno : Hm.hi (Hm.bitsS k).data.toList < 0 → f.imm = 0 := fun h => Hm.rd_imm_no (Hm.no_letter h) hr
        have hhi := Hm.hi_bd (Hm.bitsS k).data.toList
        have hsz : (Hm.bitsS k).size ≤ 1000 := Nat.le_trans (Hm.bitsS_size k) (by decide)
        clear hr hbd hln HD HC
        by_cases hu : Hm.kind (Hm.bitsS k).data.toList = 85
        · have hu' : (Hm.kind (Hm.bitsS k).data.toList != 85) = false := by rw [hu]; rfl
          have HI : Hid (Hm.immR (Hm.bitsS k).data.toList f.imm = f.imm) := by simp [Hid, Hm.immR, hu]
          clear hu hno
          go_wp2_with (first | (go_at_call 22; refine (read_any _ _ _ (Hm.bitsS_size k) x0 x1).mono ?_; rintro e w' ⟨rfl, rfl⟩; rw [HR.out]) | (go_at_call 18; refine (kind_any _ _ hsz).mono ?_; rintro e w' ⟨rfl, rfl⟩) | (go_at_call 24; refine (highest_any _ _ hsz).mono ?_; rintro e w' ⟨rfl, rfl⟩) | (go_at_call 23; refine (signed_any _ _ _ (by omega) (by omega) (by omega) (by omega)).mono ?_; rintro e w' ⟨rfl, rfl⟩))
          exact bodyPost_ret (v := decVal ⟨k, ⟨f.d, f.r, f.t, f.imm⟩, 0⟩) (by simp [results, Tryd.results10, go_sem, decVal, r0, r1, r2, r3, r4]) rfl ⟨ret_dec (by rw [HD2.out, HI.out]), below_five HB.out _ _ _ _ _⟩
        have hu' : (Hm.kind (Hm.bitsS k).data.toList != 85) = true := by simpa using hu
        by_cases hh : Hm.kind (Hm.bitsS k).data.toList = 72
        · have hh' : (Hm.kind (Hm.bitsS k).data.toList != 72) = false := by rw [hh]; rfl
          have HI : Hid (Hm.immR (Hm.bitsS k).data.toList f.imm = f.imm) := by simp [Hid, Hm.immR, hh]
          clear hu hno hh
          go_wp2_with (first | (go_at_call 22; refine (read_any _ _ _ (Hm.bitsS_size k) x0 x1).mono ?_; rintro e w' ⟨rfl, rfl⟩; rw [HR.out]) | (go_at_call 18; refine (kind_any _ _ hsz).mono ?_; rintro e w' ⟨rfl, rfl⟩) | (go_at_call 24; refine (highest_any _ _ hsz).mono ?_; rintro e w' ⟨rfl, rfl⟩) | (go_at_call 23; refine (signed_any _ _ _ (by omega) (by omega) (by omega) (by omega)).mono ?_; rintro e w' ⟨rfl, rfl⟩))
          exact bodyPost_ret (v := decVal ⟨k, ⟨f.d, f.r, f.t, f.imm⟩, 0⟩) (by simp [results, Tryd.results10, go_sem, decVal, r0, r1, r2, r3, r4]) rfl ⟨ret_dec (by rw [HD2.out, HI.out]), below_five HB.out _ _ _ _ _⟩
        have hh' : (Hm.kind (Hm.bitsS k).data.toList != 72) = true := by simpa using hh
        by_cases hp : 0 < f.imm
        · have hh0 : 0 ≤ Hm.hi (Hm.bitsS k).data.toList := by
            by_cases h : 0 ≤ Hm.hi (Hm.bitsS k).data.toList
            · exact h
            · have := hno (by omega); omega
          have HI : Hid (Hm.immR (Hm.bitsS k).data.toList f.imm = Hm.sgn f.imm (Hm.hi (Hm.bitsS k).data.toList).toNat) := by simp [Hid, Hm.immR, hu, hh, hp]
          obtain ⟨hhi0, hhi1⟩ := hhi
          clear hu hno hh
          go_wp2_with (first | (go_at_call 22; refine (read_any _ _ _ (Hm.bitsS_size k) x0 x1).mono ?_; rintro e w' ⟨rfl, rfl⟩; rw [HR.out]) | (go_at_call 18; refine (kind_any _ _ hsz).mono ?_; rintro e w' ⟨rfl, rfl⟩) | (go_at_call 24; refine (highest_any _ _ hsz).mono ?_; rintro e w' ⟨rfl, rfl⟩) | (go_at_call 23; refine (signed_any _ _ _ (by omega) (by omega) (by omega) (by omega)).mono ?_; rintro e w' ⟨rfl, rfl⟩))
          exact bodyPost_ret (v := decVal ⟨k, ⟨f.d, f.r, f.t, Hm.sgn f.imm (Hm.hi (Hm.bitsS k).data.toList).toNat⟩, 0⟩) (by simp [results, Tryd.results10, go_sem, decVal, r0, r1, r2, r3, r4]) rfl ⟨ret_dec (by rw [HD2.out, HI.out]), below_five HB.out _ _ _ _ _⟩
        · have HI : Hid (Hm.immR (Hm.bitsS k).data.toList f.imm = f.imm) := by simp [Hid, Hm.immR, hp]
          clear hu hno hh
          go_wp2_with (first | (go_at_call 22; refine (read_any _ _ _ (Hm.bitsS_size k) x0 x1).mono ?_; rintro e w' ⟨rfl, rfl⟩; rw [HR.out]) | (go_at_call 18; refine (kind_any _ _ hsz).mono ?_; rintro e w' ⟨rfl, rfl⟩) | (go_at_call 24; refine (highest_any _ _ hsz).mono ?_; rintro e w' ⟨rfl, rfl⟩) | (go_at_call 23; refine (signed_any _ _ _ (by omega) (by omega) (by omega) (by omega)).mono ?_; rintro e w' ⟨rfl, rfl⟩))
          exact bodyPost_ret (v := decVal ⟨k, ⟨f.d, f.r, f.t, f.imm⟩, 0⟩) (by simp [results, Tryd.results10, go_sem, decVal, r0, r1, r2, r3, r4]) rfl ⟨ret_dec (by rw [HD2.out, HI.out]), below_five HB.out _ _ _ _ _⟩
    · have HD2 : Hid (Hm.decR x = ⟨0, ⟨0, 0, 0, 0⟩, 2⟩) := by
        have := HD.out
        rw [show 49 - k = 0 from by omega] at this
        exact this.symm
      clear HD HC
      go_wp2
      exact bodyPost_ret (v := decVal ⟨0, ⟨0, 0, 0, 0⟩, 2⟩) (by simp [results, Tryd.results10, go_sem, decVal, r0, r1, r2, r3, r4]) rfl ⟨ret_dec (by rw [HD2.out]), below_five HB.out _ _ _ _ _⟩

end Go.Proofs.YtkjkddcgigbglaaDoor
