/-
  Q1 Q2 Q3 in one text.
-/
import Derived.Test.YtdcmdjeooklmjaaDoorQJ
import Derived.Test.YtdcmdjeooklmjaaDoorQA
set_option linter.unusedVariables false
set_option linter.unusedSimpArgs false
/-
  Walks: hartref's Decimal, names, load.
-/
namespace Go.Proofs.YtdcmdjeooklmjaaDoor
open Go.RowKit

theorem conv_one (w : World) (n : Int) : (convert 133 9 (.slice (some ⟨w.heap.size, 0, none⟩) 1 1)).run Tryd.prog (w.alloc (.cells #[.int .u8 n] 5)) = .ok (.string (Hm.bs [UInt8.ofNat n.toNat])) (w.alloc (.cells #[.int .u8 n] 5)) :=
  run_convert_bytes_arg _ _ _ Tryd.underlying133 Tryd.underlying5 w.heap.size 0 1 1 [n] rfl (fun i hi => by
    obtain rfl : i = 0 := by omega
    simp) _ Tryd.underlying9
theorem bs_append (x y : List UInt8) : Hm.bs x ++ Hm.bs y = Hm.bs (x ++ y) := ByteArray.mk_append_mk x y
theorem bs_size (x : List UInt8) : (Hm.bs x).size = x.length := by show x.toArray.size = x.length; simp
theorem digE (n : Nat) : UInt8.ofNat (48 + n) = 48 + UInt8.ofNat n := by rw [UInt8.ofNat_add]; rfl
theorem ret_str {a b : ByteArray} (h : a = b) : Ending.returned (.string a) = .returned (.string b) := by rw [h]

set_option maxRecDepth 100000 in
set_option maxHeartbeats 1000000 in
theorem decimal_nat : ∀ (f n : Nat) (w : World), n < 10 ^ (f + 1) → n ≤ 9223372036854775807 → f ≤ 30 →
    Calls Tryd.prog 50 #[.int .i64 n] w fun e w' => e = .returned (.string (Hm.bs (Hm.decF (f + 1) n))) ∧ Below w.heap.size w w' := by
  intro f
  induction f with
  | zero =>
    intro n w h hm hf
    have h10 : n < 10 := by simpa using h
    have HD : Hid (Hm.decF 1 n = [48 + UInt8.ofNat (n % 10)]) := by
      show _ = _
      rw [show n % 10 = n from by omega]
      simp [Hm.decF, h10, Hm.dig]
    have hcv := conv_one
    clear h
    go_enter Tryd.func50, Tryd.ntmps50
    go_wp2_with fail
    go_ret
    exact ⟨ret_str (by rw [HD.out, digE]), (Below.refl _ _).alloc (Nat.le_refl _) _⟩
  | succ f ih0 =>
    have ih : Hid (∀ (n : Nat) (w : World), n < 10 ^ (f + 1) → n ≤ 9223372036854775807 → f ≤ 30 →
      Calls Tryd.prog 50 #[.int .i64 n] w fun e w' => e = .returned (.string (Hm.bs (Hm.decF (f + 1) n))) ∧ Below w.heap.size w w') := ih0
    clear ih0
    intro n w h hm hf
    have hcv := conv_one
    by_cases h10 : n < 10
    · have HD : Hid (Hm.decF (f + 1 + 1) n = [48 + UInt8.ofNat (n % 10)]) := by
        show _ = _
        rw [show n % 10 = n from by omega]
        simp [Hm.decF, h10, Hm.dig]
      clear h
      go_enter Tryd.func50, Tryd.ntmps50
      go_wp2_with fail
      go_ret
      exact ⟨ret_str (by rw [HD.out, digE]), (Below.refl _ _).alloc (Nat.le_refl _) _⟩
    · have HD : Hid (Hm.decF (f + 1 + 1) n = Hm.decF (f + 1) (n / 10) ++ [48 + UInt8.ofNat (n % 10)]) := by
        show _ = _
        rw [Hm.decF, if_neg h10]; rfl
      have HL : Hid (n / 10 < 10 ^ (f + 1)) := by
        show n / 10 < 10 ^ (f + 1)
        rw [Nat.div_lt_iff_lt_mul (by decide)]
        rw [Nat.pow_succ] at h
        exact h
      have hlen := Hm.decF_len (f + 1) (n / 10)
      have hs1 : (Hm.bs (Hm.decF (f + 1) (n / 10))).size ≤ 100 := by rw [bs_size]; omega
      have hs2 : ∀ c, (Hm.bs [c]).size = 1 := fun _ => rfl
      clear h hlen
      go_enter Tryd.func50, Tryd.ntmps50
      go_wp2_with fail
      rw [show ((n : Int) / 10) = ((n / 10 : Nat) : Int) from by omega]
      refine (ih.out (n / 10) _ HL.out (by omega) (by omega)).mono ?_
      rintro e w1 ⟨rfl, hb⟩
      have HB : Hid (Below w.heap.size w w1) := ((Below.refl _ _).alloc (Nat.le_refl _) _).trans (hb.mono (by simp))
      clear hb
      go_wp2_with fail
      go_ret
      exact ⟨ret_str (by rw [HD.out, bs_append]), HB.out⟩
end Go.Proofs.YtdcmdjeooklmjaaDoor

/-
  Walks: hartref's Decimal of any number, names, load.
-/
namespace Go.Proofs.YtdcmdjeooklmjaaDoor
open Go.RowKit

set_option maxRecDepth 100000 in
set_option maxHeartbeats 1000000 in
theorem decimal_any (n : Int) (w : World) (h0 : -1000000000000000000 ≤ n) (h1 : n ≤ 1000000000000000000) :
    Calls Tryd.prog 50 #[.int .i64 n] w fun e w' => e = .returned (.string (Hm.bs (Hm.decS n))) ∧ Below w.heap.size w w' := by
  by_cases h : n < 0
  · have HD : Hid (Hm.decS n = [45] ++ Hm.decF 20 (-n).toNat) := by simp [Hid, Hm.decS, h]
    have hlen := Hm.decF_len 20 (-n).toNat
    have hs1 : (Hm.bs (Hm.decF 20 (-n).toNat)).size ≤ 100 := by rw [bs_size]; omega
    have hb : (-n).toNat < 10 ^ (19 + 1) := Nat.lt_of_lt_of_le (by omega : (-n).toNat < 10000000000000000000) (by decide)
    have HB0 : Hid ((-n).toNat < 10 ^ (19 + 1)) := hb
    clear hlen hb
    go_enter Tryd.func50, Tryd.ntmps50
    go_wp2_with fail
    rw [show -n = (((-n).toNat : Nat) : Int) from by omega]
    refine (decimal_nat 19 (-n).toNat _ HB0.out (by omega) (by omega)).mono ?_
    rintro e w1 ⟨rfl, hb⟩
    have HB : Hid (Below w.heap.size w w1) := hb
    clear hb
    go_wp2_with fail
    go_ret
    exact ⟨ret_str (by rw [HD.out, ← bs_append]; rfl), HB.out⟩
  · have e : Hm.decS n = Hm.decF 20 n.toNat := by simp [Hm.decS, h]
    obtain ⟨m, rfl⟩ := Int.eq_ofNat_of_zero_le (by omega : 0 ≤ n)
    rw [e, Int.toNat_natCast]
    exact decimal_nat 19 m w (Nat.lt_of_lt_of_le (by omega : m < 10000000000000000000) (by decide)) (by omega) (by omega)

set_option maxRecDepth 100000 in
set_option maxHeartbeats 4000000 in
theorem names_any (w : World) :
    Calls Tryd.prog 51 #[] w fun e w' => e = .returned (.slice (some ⟨w.heap.size, 0, none⟩) 49 49) ∧ w'.heap.size = w.heap.size + 1 ∧ Below w.heap.size w w' ∧ ∀ k, k < 49 → w'.cell? ⟨w.heap.size, k, none⟩ = some (.string (Hm.bs (Hm.nameOf k))) := by
  go_enter Tryd.func51, Tryd.ntmps51
  go_wp2
  go_ret
  refine ⟨rfl, by simp, (Below.refl _ _).alloc (Nat.le_refl _) _, ?_⟩
  exact fun k hk => cells_of_row (fun k => .string (Hm.bs (Hm.nameOf k))) 49 (by kernel_rfl) w _ k hk

set_option maxHeartbeats 400000 in
theorem load_any (op : Int) (w : World) :
    Calls Tryd.prog 52 #[.int .i64 op] w fun e w' => e = .returned (.bool (Hm.loadB op)) ∧ w' = w := by
  by_cases h : 11 ≤ op
  · have HK : Hid (Hm.loadB op = decide (op ≤ 15)) := by simp [Hid, Hm.loadB, h]
    go_enter Tryd.func52, Tryd.ntmps52
    go_wp2
    go_ret
    exact ⟨ret_bool HK.out.symm, rfl⟩
  · have HK : Hid (Hm.loadB op = false) := by simp [Hid, Hm.loadB, h]
    go_enter Tryd.func52, Tryd.ntmps52
    go_wp2
    go_ret
    exact ⟨ret_bool HK.out.symm, rfl⟩
end Go.Proofs.YtdcmdjeooklmjaaDoor

/-
  Walks: hartref's Print.
-/
namespace Go.Proofs.YtdcmdjeooklmjaaDoor
open Go.RowKit

theorem ret_si {a b : ByteArray} {m n : Int} (h1 : a = b) (h2 : m = n) : Ending.returned (.tuple #[.string a, .int .i64 m]) = .returned (.tuple #[.string b, .int .i64 n]) := by rw [h1, h2]

set_option maxRecDepth 100000 in
set_option maxHeartbeats 1000000 in
theorem print_no (op rd rs1 rs2 imm : Int) (w : World) (hl : Hm.legalR op rd rs1 rs2 imm = false) :
    Calls Tryd.prog 24 #[.agg #[.int .i64 op, .int .i64 rd, .int .i64 rs1, .int .i64 rs2, .int .i64 imm]] w fun e w' => e = .returned (.tuple #[.string (Hm.bs (Hm.printR op rd rs1 rs2 imm)), .int .i64 (Hm.errR op rd rs1 rs2 imm)]) ∧ Below w.heap.size w w' := by
  have HE : Hid (Hm.printR op rd rs1 rs2 imm = []) := by simp [Hid, Hm.printR, hl]
  have HR : Hid (Hm.errR op rd rs1 rs2 imm = 1) := by simp [Hid, Hm.errR, hl]
  go_enter Tryd.func24, Tryd.ntmps24
  go_wp2_with fail
  refine (refLegal_any _ _ _ _ _ _).mono ?_
  rintro e w1 ⟨rfl, hb⟩
  have HB : Hid (Below w.heap.size w w1) := ((Below.refl _ _).alloc (Nat.le_refl _) _).trans (hb.mono (by simp))
  clear hb
  go_wp2
  go_ret2
  exact ⟨ret_si (by rw [HE.out]; rfl) HR.out.symm, HB.out⟩

set_option maxRecDepth 100000 in
set_option maxHeartbeats 8000000 in
theorem print_yes (k : Nat) (rd rs1 rs2 imm : Int) (w : World) (k0 : 1 ≤ k) (k1 : k ≤ 48) (hl : Hm.legalR k rd rs1 rs2 imm = true)
    (bd : -1000000000000000000 ≤ rd ∧ rd ≤ 1000000000000000000) (br : -1000000000000000000 ≤ rs1 ∧ rs1 ≤ 1000000000000000000) (bt : -1000000000000000000 ≤ rs2 ∧ rs2 ≤ 1000000000000000000) (bi : -1000000000000000000 ≤ imm ∧ imm ≤ 1000000000000000000) :
    Calls Tryd.prog 24 #[.agg #[.int .i64 k, .int .i64 rd, .int .i64 rs1, .int .i64 rs2, .int .i64 imm]] w fun e w' => e = .returned (.tuple #[.string (Hm.bs (Hm.printR k rd rs1 rs2 imm)), .int .i64 (Hm.errR k rd rs1 rs2 imm)]) ∧ Below w.heap.size w w' := by
  have HE : Hid (Hm.printR k rd rs1 rs2 imm = Hm.wordsK (Hm.kind (Hm.bitsS k).data.toList) (Hm.loadB k) (Hm.nameOf k) ([120] ++ Hm.decS rd) ([120] ++ Hm.decS rs1) ([120] ++ Hm.decS rs2) (Hm.decS imm)) := by
    show _ = _
    unfold Hm.printR
    rw [if_pos hl, Int.toNat_natCast]; rfl
  have HR : Hid (Hm.errR k rd rs1 rs2 imm = 0) := by simp [Hid, Hm.errR, hl]
  have zd : (Hm.bs (Hm.decS rd)).size ≤ 21 := by rw [bs_size]; exact Hm.decS_len _
  have zs : (Hm.bs (Hm.decS rs1)).size ≤ 21 := by rw [bs_size]; exact Hm.decS_len _
  have zt : (Hm.bs (Hm.decS rs2)).size ≤ 21 := by rw [bs_size]; exact Hm.decS_len _
  have zn : (Hm.bs (Hm.decS imm)).size ≤ 21 := by rw [bs_size]; exact Hm.decS_len _
  have zm : (Hm.bs (Hm.nameOf k)).size ≤ 10 := by rw [bs_size]; exact Hm.name_len _
  have h4 : (k : Int) < 49 := by omega
  have h5 : (0 : Int) ≤ k := by omega
  have hk : k < 49 := by omega
  have hsz : (Hm.bitsS k).size ≤ 1000 := Nat.le_trans (Hm.bitsS_size k) (by decide)
  go_enter Tryd.func24, Tryd.ntmps24
  go_wp2_with fail
  refine (refLegal_any _ _ _ _ _ _).mono ?_
  rintro e w1 ⟨rfl, hb⟩
  have HB1 : Hid (Below w.heap.size w w1) := ((Below.refl _ _).alloc (Nat.le_refl _) _).trans (hb.mono (by simp))
  have hz1 : w.heap.size < w1.heap.size := by have := hb.size; simp at this; omega
  have a0 : w1.cell? ⟨w.heap.size, 0, none⟩ = some (.int .i64 k) := by rw [bcell hb _ _ (by simp)]; simp
  have a1 : w1.cell? ⟨w.heap.size, 1, none⟩ = some (.int .i64 rd) := by rw [bcell hb _ _ (by simp)]; simp
  have a2 : w1.cell? ⟨w.heap.size, 2, none⟩ = some (.int .i64 rs1) := by rw [bcell hb _ _ (by simp)]; simp
  have a3 : w1.cell? ⟨w.heap.size, 3, none⟩ = some (.int .i64 rs2) := by rw [bcell hb _ _ (by simp)]; simp
  have a4 : w1.cell? ⟨w.heap.size, 4, none⟩ = some (.int .i64 imm) := by rw [bcell hb _ _ (by simp)]; simp
  clear hb
  go_wp2_with fail
  refine (decimal_any rd _ bd.1 bd.2).mono ?_
  rintro e w2 ⟨rfl, hb⟩
  have HB2 : Hid (Below w.heap.size w w2) := HB1.out.trans (hb.mono (by omega))
  have hz2 : w.heap.size < w2.heap.size := by have := hb.size; omega
  have b0 : w2.cell? ⟨w.heap.size, 0, none⟩ = some (.int .i64 k) := by rw [bcell hb _ _ hz1]; exact a0
  have b1 : w2.cell? ⟨w.heap.size, 1, none⟩ = some (.int .i64 rd) := by rw [bcell hb _ _ hz1]; exact a1
  have b2 : w2.cell? ⟨w.heap.size, 2, none⟩ = some (.int .i64 rs1) := by rw [bcell hb _ _ hz1]; exact a2
  have b3 : w2.cell? ⟨w.heap.size, 3, none⟩ = some (.int .i64 rs2) := by rw [bcell hb _ _ hz1]; exact a3
  have b4 : w2.cell? ⟨w.heap.size, 4, none⟩ = some (.int .i64 imm) := by rw [bcell hb _ _ hz1]; exact a4
  clear hb HB1 hz1 a0 a1 a2 a3 a4
  go_wp2_with fail
  refine (decimal_any rs1 _ br.1 br.2).mono ?_
  rintro e w3 ⟨rfl, hb⟩
  have HB3 : Hid (Below w.heap.size w w3) := HB2.out.trans (hb.mono (by omega))
  have hz3 : w.heap.size < w3.heap.size := by have := hb.size; omega
  have a0 : w3.cell? ⟨w.heap.size, 0, none⟩ = some (.int .i64 k) := by rw [bcell hb _ _ hz2]; exact b0
  have a1 : w3.cell? ⟨w.heap.size, 1, none⟩ = some (.int .i64 rd) := by rw [bcell hb _ _ hz2]; exact b1
  have a2 : w3.cell? ⟨w.heap.size, 2, none⟩ = some (.int .i64 rs1) := by rw [bcell hb _ _ hz2]; exact b2
  have a3 : w3.cell? ⟨w.heap.size, 3, none⟩ = some (.int .i64 rs2) := by rw [bcell hb _ _ hz2]; exact b3
  have a4 : w3.cell? ⟨w.heap.size, 4, none⟩ = some (.int .i64 imm) := by rw [bcell hb _ _ hz2]; exact b4
  clear hb HB2 hz2 b0 b1 b2 b3 b4
  go_wp2_with fail
  refine (decimal_any rs2 _ bt.1 bt.2).mono ?_
  rintro e w4 ⟨rfl, hb⟩
  have HB4 : Hid (Below w.heap.size w w4) := HB3.out.trans (hb.mono (by omega))
  have hz4 : w.heap.size < w4.heap.size := by have := hb.size; omega
  have b0 : w4.cell? ⟨w.heap.size, 0, none⟩ = some (.int .i64 k) := by rw [bcell hb _ _ hz3]; exact a0
  have b1 : w4.cell? ⟨w.heap.size, 1, none⟩ = some (.int .i64 rd) := by rw [bcell hb _ _ hz3]; exact a1
  have b2 : w4.cell? ⟨w.heap.size, 2, none⟩ = some (.int .i64 rs1) := by rw [bcell hb _ _ hz3]; exact a2
  have b3 : w4.cell? ⟨w.heap.size, 3, none⟩ = some (.int .i64 rs2) := by rw [bcell hb _ _ hz3]; exact a3
  have b4 : w4.cell? ⟨w.heap.size, 4, none⟩ = some (.int .i64 imm) := by rw [bcell hb _ _ hz3]; exact a4
  clear hb HB3 hz3 a0 a1 a2 a3 a4
  go_wp2_with fail
  refine (decimal_any imm _ bi.1 bi.2).mono ?_
  rintro e w5 ⟨rfl, hb⟩
  have HB5 : Hid (Below w.heap.size w w5) := HB4.out.trans (hb.mono (by omega))
  have hz5 : w.heap.size < w5.heap.size := by have := hb.size; omega
  have a0 : w5.cell? ⟨w.heap.size, 0, none⟩ = some (.int .i64 k) := by rw [bcell hb _ _ hz4]; exact b0
  have a1 : w5.cell? ⟨w.heap.size, 1, none⟩ = some (.int .i64 rd) := by rw [bcell hb _ _ hz4]; exact b1
  have a2 : w5.cell? ⟨w.heap.size, 2, none⟩ = some (.int .i64 rs1) := by rw [bcell hb _ _ hz4]; exact b2
  have a3 : w5.cell? ⟨w.heap.size, 3, none⟩ = some (.int .i64 rs2) := by rw [bcell hb _ _ hz4]; exact b3
  have a4 : w5.cell? ⟨w.heap.size, 4, none⟩ = some (.int .i64 imm) := by rw [bcell hb _ _ hz4]; exact b4
  clear hb HB4 hz4 b0 b1 b2 b3 b4
  clear hl
  go_wp2
  refine wp_region_held_drew (S := fun w' => w'.cell? ⟨w.heap.size, 0, none⟩ = some (.int .i64 k)) (by kernel_rfl) (by go_keep) (fun hHeld => ?_)
  refine' takeH_1 _ (by kernel_rfl) (by kernel_rfl) (by kernel_rfl) (fun _ _ _ h => h) (by rfl) ?hy1 hHeld ?rest1
  case hy1 => (intro w hSw; (try dsimp only at hSw); go_simp; try with_reducible rfl)
  simp only [Act.put, List.setIfInBounds_toArray, List.set_cons_zero, List.set_cons_succ]
  refine' takeH_2 _ (by kernel_rfl) (by kernel_rfl) (by kernel_rfl) (fun _ _ _ h => h) (by rfl) ?hy2 hHeld ?rest2
  case hy2 => (intro w hSw; (try dsimp only at hSw); go_simp; try with_reducible rfl)
  simp only [Act.put, List.setIfInBounds_toArray, List.set_cons_zero, List.set_cons_succ]
  refine runH_0 (by kernel_rfl) (fun K hK => ?_)
  go_simp
  (go_at_call 51; refine (names_any _).mono ?_; rintro e w6 ⟨rfl, hz6, hb, hc⟩; go_wp2_with fail)
  refine hK.out _ _ ?hS4 (fun hHeld => ?rest4)
  case hS4 => ((rw [bcell hb _ _ (by simp; omega)]; exact hHeld))
  clear hK K
  (try simp only [Act.put, List.setIfInBounds_toArray, List.set_cons_zero, List.set_cons_succ])
  have hck := hc k hk
  simp at hck
  have HB6 : Hid (Below w.heap.size w w6) := (HB5.out.drew).trans (hb.mono (by simp; omega))
  have hz6' : w.heap.size < w6.heap.size := by rw [hz6]; simp; omega
  clear hb hc hz6 HB5 a0 a1 a2 a3 a4
  refine' takeH_3 _ (by kernel_rfl) (by kernel_rfl) (by kernel_rfl) (fun _ _ _ h => h) (by rfl) ?hy5 hHeld ?rest5
  case hy5 => (intro w hSw; (try dsimp only at hSw); go_simp; try with_reducible rfl)
  simp only [Act.put, List.setIfInBounds_toArray, List.set_cons_zero, List.set_cons_succ]
  refine runH_4 (by kernel_rfl) (fun K hK => ?_)
  go_simp
  refine hK.out _ _ ?hS7 (fun hHeld => ?rest7)
  case hS7 => (exact hHeld)
  clear hK K
  (try simp only [Act.put, List.setIfInBounds_toArray, List.set_cons_zero, List.set_cons_succ])
  refine' takeH_5 _ (by kernel_rfl) (by kernel_rfl) (by kernel_rfl) (fun _ _ _ h => h) (by rfl) ?hy8 hHeld ?rest8
  case hy8 => (intro w hSw; (try dsimp only at hSw); go_simp; try with_reducible rfl)
  simp only [Act.put, List.setIfInBounds_toArray, List.set_cons_zero, List.set_cons_succ]
  refine wpAnyH_done (by kernel_rfl) ?_ _
  have d0 : w6.cell? ⟨w.heap.size, 0, none⟩ = some (.int .i64 k) := hHeld
  clear hHeld hck
  go_wp2_with (go_at_call 52; refine (load_any _ _).mono ?_; rintro e w' ⟨rfl, rfl⟩)
  refine wp_region_held_drew (S := fun w' => w'.cell? ⟨w.heap.size, 0, none⟩ = some (.int .i64 k)) (by kernel_rfl) (by go_keep) (fun hHeld => ?_)
  refine' takeH_1 _ (by kernel_rfl) (by kernel_rfl) (by kernel_rfl) (fun _ _ _ h => h) (by rfl) ?hy9 hHeld ?rest9
  case hy9 => (intro w hSw; (try dsimp only at hSw); go_simp; try with_reducible rfl)
  simp only [Act.put, List.setIfInBounds_toArray, List.set_cons_zero, List.set_cons_succ]
  refine' takeH_2 _ (by kernel_rfl) (by kernel_rfl) (by kernel_rfl) (fun _ _ _ h => h) (by rfl) ?hy10 hHeld ?rest10
  case hy10 => (intro w hSw; (try dsimp only at hSw); go_simp; try with_reducible rfl)
  simp only [Act.put, List.setIfInBounds_toArray, List.set_cons_zero, List.set_cons_succ]
  refine runH_0 (by kernel_rfl) (fun K hK => ?_)
  go_simp
  (go_at_call 33; refine (bits_any _).mono ?_; rintro e w7 ⟨rfl, hz7, hb, hc⟩; go_wp2_with fail)
  refine hK.out _ _ ?hS12 (fun hHeld => ?rest12)
  case hS12 => ((rw [bcell hb _ _ (by simp; omega)]; exact hHeld))
  clear hK K
  (try simp only [Act.put, List.setIfInBounds_toArray, List.set_cons_zero, List.set_cons_succ])
  have hck := hc k hk
  simp at hck
  have HB7 : Hid (Below w.heap.size w _) := (HB6.out.drew).trans (hb.mono (by simp; omega))
  clear hb hc hz7 HB6 d0
  refine' takeH_3 _ (by kernel_rfl) (by kernel_rfl) (by kernel_rfl) (fun _ _ _ h => h) (by rfl) ?hy13 hHeld ?rest13
  case hy13 => (intro w hSw; (try dsimp only at hSw); go_simp; try with_reducible rfl)
  simp only [Act.put, List.setIfInBounds_toArray, List.set_cons_zero, List.set_cons_succ]
  refine runH_4 (by kernel_rfl) (fun K hK => ?_)
  go_simp
  refine hK.out _ _ ?hS15 (fun hHeld => ?rest15)
  case hS15 => (exact hHeld)
  clear hK K
  (try simp only [Act.put, List.setIfInBounds_toArray, List.set_cons_zero, List.set_cons_succ])
  refine runH_5 (by kernel_rfl) (fun K hK => ?_)
  go_simp
  (go_at_call 37; refine (kind_any _ _ hsz).mono ?_; rintro e w8 ⟨rfl, rfl⟩; go_wp2_with fail)
  refine hK.out _ _ ?hS16 (fun hHeld => ?rest16)
  case hS16 => (exact hHeld)
  clear hK K
  (try simp only [Act.put, List.setIfInBounds_toArray, List.set_cons_zero, List.set_cons_succ])
  refine wpAnyH_done (by kernel_rfl) ?_ _
  clear hHeld hck
  have hko := kind_ok (Hm.bitsS k).data.toList
  generalize hkk : Hm.kind (Hm.bitsS k).data.toList = kd at *
  clear hkk
  rcases hko with rfl | rfl | rfl | rfl | rfl | rfl | rfl | rfl
  · cases hm : Hm.loadB k with
    | true =>
      rw [hm] at HE
      go_wp2
      go_ret2
      exact ⟨ret_si (by rw [HE.out]; simp only [Hm.wordsK, ← bs_append]; rfl) HR.out.symm, HB7.out⟩
    | false =>
      rw [hm] at HE
      go_wp2
      go_ret2
      exact ⟨ret_si (by rw [HE.out]; simp only [Hm.wordsK, ← bs_append]; rfl) HR.out.symm, HB7.out⟩
  · go_wp2
    go_ret2
    exact ⟨ret_si (by rw [HE.out]; simp only [Hm.wordsK, ← bs_append]; rfl) HR.out.symm, HB7.out⟩
  · cases hm : Hm.loadB k with
    | true =>
      rw [hm] at HE
      go_wp2
      go_ret2
      exact ⟨ret_si (by rw [HE.out]; simp only [Hm.wordsK, ← bs_append]; rfl) HR.out.symm, HB7.out⟩
    | false =>
      rw [hm] at HE
      go_wp2
      go_ret2
      exact ⟨ret_si (by rw [HE.out]; simp only [Hm.wordsK, ← bs_append]; rfl) HR.out.symm, HB7.out⟩
  all_goals
    go_wp2
    go_ret2
    exact ⟨ret_si (by rw [HE.out]; simp only [Hm.wordsK, ← bs_append]; rfl) HR.out.symm, HB7.out⟩
end Go.Proofs.YtdcmdjeooklmjaaDoor
