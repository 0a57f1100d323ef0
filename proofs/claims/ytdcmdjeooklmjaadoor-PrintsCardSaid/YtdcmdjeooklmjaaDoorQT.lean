/-
  K1 K2 in one text.
-/
import Derived.Test.YtdcmdjeooklmjaaDoorQN
import Derived.Test.YtdcmdjeooklmjaaDoorQO
import Derived.Test.YtdcmdjeooklmjaaDoorQA
import Derived.Lib.LaidTab
import Derived.Lib.ItoaNum
import Derived.Lib.Space
import Derived.Laws.OwnMore
import Derived.Test.YtdcmdjeooklmjaaDoorQS
set_option linter.unusedVariables false
set_option linter.unusedSimpArgs false
/-
  The tables that Print reads. Walks: package code's FormatOf; package source's isLoad, operandsOf.
-/
namespace Go.Proofs.YtdcmdjeooklmjaaDoor
open Go.RowKit

theorem tabIs_below {P : Program} {w w' : World} {name : String} {k : IntKind} {zs : List Int} {B : Nat} (h : Lib.TabIs P w name k zs) (hb : Below B w w') (hB : w.heap.size ≤ B) : Lib.TabIs P w' name k zs := by
  unfold Lib.TabIs World.var? at *
  cases hg : P.globalNamed name with
  | none => simp [hg] at h
  | some g =>
    simp only [hg, Option.bind_some] at h ⊢
    have hlt : g < w.heap.size := by
      cases hq : w.heap[g]? with
      | none => rw [hq] at h; cases h
      | some o => exact (Array.getElem?_eq_some_iff.1 hq).1
    rw [hb.block g (Nat.lt_of_lt_of_le hlt hB)]
    exact h

/-- The tables that Print reads. -/
structure PTab (w : World) : Prop where
  tab : Tab w
  pow : Lib.TabIs Tryd.prog w "internal/strconv.uint64pow10" .u64 Lib.pow10Tab
  spc : Lib.TabIs Tryd.prog w "strings.asciiSpace" .u8 Lib.asciiSpaceTab
theorem PTab.below {B : Nat} {w w' : World} (h : PTab w) (hb : Below B w w') (hB : w.heap.size ≤ B) : PTab w' :=
  ⟨h.tab.below hb (Nat.lt_of_lt_of_le h.tab.1 hB), tabIs_below h.pow hb hB, tabIs_below h.spc hb hB⟩
theorem PTab.alloc {w : World} (h : PTab w) (o : Obj) : PTab (w.alloc o) := h.below ((Below.refl _ _).alloc (Nat.le_refl _) o) (Nat.le_refl _)

theorem PTab.drew {w : World} (h : PTab w) : PTab w.drew := h.below (Below.refl w.heap.size w).drew (Nat.le_refl _)

theorem own_below {w w' : World} {B e size n : Nat} {v : Value} {xs : List Value} (h : w.ownsRow B e size v n xs) (hb : Below w.heap.size w w') : w'.ownsRow B e size v n xs := by
  refine ⟨h.1, ?_⟩
  rcases h.2 with hn | ⟨g, cap, cur, rfl, hg, hgg, rest⟩
  · exact .inl hn
  · exact .inr ⟨g, cap, cur, rfl, hg, by rw [hb.block g (Array.getElem?_eq_some_iff.1 hgg).1]; exact hgg, rest⟩

set_option maxRecDepth 100000 in
set_option maxHeartbeats 1000000 in
theorem formatOf_any (op : Int) (w : World) (ht : Tab w) :
    Calls Tryd.prog 94 #[.int .i64 op] w fun e w' => e = .returned (.int .u8 (Hm.fmtOf op)) ∧ Below w.heap.size w w' := by
  have HT : Hid (Tab w) := ht
  clear ht
  have hfl := fld_row
  go_enter Tryd.func94, Tryd.ntmps94
  go_wp2_with fail
  refine (rowOf_any _ _ HT.out).mono ?_
  rintro e w1 ⟨rfl, hb⟩
  have HB : Hid (Below w.heap.size w w1) := hb
  clear hb
  go_wp2
  go_ret
  exact ⟨rfl, HB.out⟩

set_option maxHeartbeats 400000 in
theorem isLoad_any (op : Int) (w : World) :
    Calls Tryd.prog 95 #[.int .i64 op] w fun e w' => e = .returned (.bool (Hm.loadB op)) ∧ w' = w := by
  by_cases h : 11 ≤ op
  · have HK : Hid (Hm.loadB op = decide (op ≤ 15)) := by simp [Hid, Hm.loadB, h]
    go_enter Tryd.func95, Tryd.ntmps95
    go_wp2
    go_ret
    exact ⟨ret_bool HK.out.symm, rfl⟩
  · have HK : Hid (Hm.loadB op = false) := by simp [Hid, Hm.loadB, h]
    go_enter Tryd.func95, Tryd.ntmps95
    go_wp2
    go_ret
    exact ⟨ret_bool HK.out.symm, rfl⟩

theorem fmtOf_bd (op : Int) : Hm.fmtOf op = 0 ∨ Hm.fmtOf op = 1 ∨ Hm.fmtOf op = 2 ∨ Hm.fmtOf op = 3 ∨ Hm.fmtOf op = 4 ∨ Hm.fmtOf op = 5 ∨ Hm.fmtOf op = 6 ∨ Hm.fmtOf op = 7 ∨ Hm.fmtOf op = 8 ∨ Hm.fmtOf op = 9 := by
  unfold Hm.fmtOf
  split
  · rename_i h
    have hd : ∀ k : Fin 49, Hm.fmtT k.val = 0 ∨ Hm.fmtT k.val = 1 ∨ Hm.fmtT k.val = 2 ∨ Hm.fmtT k.val = 3 ∨ Hm.fmtT k.val = 4 ∨ Hm.fmtT k.val = 5 ∨ Hm.fmtT k.val = 6 ∨ Hm.fmtT k.val = 7 ∨ Hm.fmtT k.val = 8 ∨ Hm.fmtT k.val = 9 := by decide +kernel
    exact hd ⟨op.toNat, by omega⟩
  · exact .inl rfl

def u8s (l : List Int) : List Value := l.map fun n => .int .u8 n
/-- A slice of operands. -/
def OpsAt (B : Nat) (W : World) (v : Value) (l : List Int) : Prop := W.ownsRow B 130 1 v l.length (u8s l)

theorem opsAt_lit {B : Nat} {w w1 : World} (hb : Below w.heap.size w w1) (l : List Int) (hB : B ≤ w1.heap.size) (h3 : l.length ≤ 3) (cs : Array Value) (hcs : cs.toList = u8s l) : OpsAt B (w1.alloc (.cells cs 130)) (.slice (some ⟨w1.heap.size, 0, none⟩) l.length l.length) l := by
  unfold OpsAt
  rw [← hcs]
  refine World.ownsRow_lit w1 cs l.length hB (by unfold maxLen; omega) ?_
  rw [← Array.length_toList, hcs]
  simp [u8s]

set_option maxRecDepth 100000 in
set_option maxHeartbeats 4000000 in
theorem operandsOf_any (op : Int) (w : World) (ht : Tab w) :
    Calls Tryd.prog 73 #[.int .i64 op] w fun e w' => ∃ v, e = .returned v ∧ OpsAt w.heap.size w' v (Hm.opsC (Hm.fmtOf op) (Hm.loadB op)) ∧ Below w.heap.size w w' := by
  have HT : Hid (Tab w) := ht
  clear ht
  have hf := fmtOf_bd op
  generalize hF : Hm.fmtOf op = f at hf ⊢
  generalize hL : Hm.loadB op = ld
  have HF : Hid (Hm.fmtOf op = f) := hF
  have HL : Hid (Hm.loadB op = ld) := hL
  clear hF hL
  go_enter Tryd.func73, Tryd.ntmps73
  go_wp2_with fail
  refine (formatOf_any _ _ HT.out).mono ?_
  rintro e w1 ⟨rfl, hb⟩
  rw [HF.out]
  have HB : Hid (Below w.heap.size w w1) := hb
  have hz : w.heap.size ≤ w1.heap.size := hb.size
  clear hb HT HF
  rcases hf with rfl | rfl | rfl | rfl | rfl | rfl | rfl | rfl | rfl | rfl
  case inl | inr.inr.inr.inr.inr.inr.inr.inr.inl | inr.inr.inr.inr.inr.inr.inr.inr.inr =>
    go_wp2
    go_ret
    exact ⟨_, rfl, World.ownsRow_nil _ _ _ _, HB.out⟩
  case inr.inl =>
    go_wp2
    go_ret
    exact ⟨_, rfl, opsAt_lit HB.out [0, 1, 2] hz (by decide) _ rfl, HB.out.alloc hz _⟩
  case inr.inr.inl =>
    cases ld with
    | true =>
      go_wp2_with (go_at_call 95; refine (isLoad_any _ _).mono ?_; rintro e w' ⟨rfl, rfl⟩; rw [HL.out])
      go_ret
      exact ⟨_, rfl, opsAt_lit HB.out [0, 4] hz (by decide) _ rfl, HB.out.alloc hz _⟩
    | false =>
      go_wp2_with (go_at_call 95; refine (isLoad_any _ _).mono ?_; rintro e w' ⟨rfl, rfl⟩; rw [HL.out])
      go_ret
      exact ⟨_, rfl, opsAt_lit HB.out [0, 1, 3] hz (by decide) _ rfl, HB.out.alloc hz _⟩
  case inr.inr.inr.inl =>
    cases ld with
    | true =>
      go_wp2_with (go_at_call 95; refine (isLoad_any _ _).mono ?_; rintro e w' ⟨rfl, rfl⟩; rw [HL.out])
      go_ret
      exact ⟨_, rfl, opsAt_lit HB.out [0, 4] hz (by decide) _ rfl, HB.out.alloc hz _⟩
    | false =>
      go_wp2_with (go_at_call 95; refine (isLoad_any _ _).mono ?_; rintro e w' ⟨rfl, rfl⟩; rw [HL.out])
      go_ret
      exact ⟨_, rfl, opsAt_lit HB.out [0, 1, 3] hz (by decide) _ rfl, HB.out.alloc hz _⟩
  case inr.inr.inr.inr.inl =>
    go_wp2
    go_ret
    exact ⟨_, rfl, opsAt_lit HB.out [2, 4] hz (by decide) _ rfl, HB.out.alloc hz _⟩
  case inr.inr.inr.inr.inr.inl =>
    go_wp2
    go_ret
    exact ⟨_, rfl, opsAt_lit HB.out [1, 2, 5] hz (by decide) _ rfl, HB.out.alloc hz _⟩
  case inr.inr.inr.inr.inr.inr.inl =>
    go_wp2
    go_ret
    exact ⟨_, rfl, opsAt_lit HB.out [0, 3] hz (by decide) _ rfl, HB.out.alloc hz _⟩
  case inr.inr.inr.inr.inr.inr.inr.inl =>
    go_wp2
    go_ret
    exact ⟨_, rfl, opsAt_lit HB.out [0, 5] hz (by decide) _ rfl, HB.out.alloc hz _⟩
end Go.Proofs.YtdcmdjeooklmjaaDoor

/-
  Walks: package source's registerName, operand.print, nameOf (over the shelf's contracts of strconv.Itoa, strings.Fields).
-/
namespace Hm
def opNames : List UInt8 := [108, 117, 105, 32, 97, 117, 105, 112, 99, 32, 106, 97, 108, 32, 106, 97, 108, 114, 32, 98, 101, 113, 32, 98, 110, 101, 32, 98, 108, 116, 32, 98, 103, 101, 32, 98, 108, 116, 117, 32, 98, 103, 101, 117, 32, 108, 98, 32, 108, 104, 32, 108, 119, 32, 108, 98, 117, 32, 108, 104, 117, 32, 115, 98, 32, 115, 104, 32, 115, 119, 32, 97, 100, 100, 105, 32, 115, 108, 116, 105, 32, 115, 108, 116, 105, 117, 32, 120, 111, 114, 105, 32, 111, 114, 105, 32, 97, 110, 100, 105, 32, 115, 108, 108, 105, 32, 115, 114, 108, 105, 32, 115, 114, 97, 105, 32, 97, 100, 100, 32, 115, 117, 98, 32, 115, 108, 108, 32, 115, 108, 116, 32, 115, 108, 116, 117, 32, 120, 111, 114, 32, 115, 114, 108, 32, 115, 114, 97, 32, 111, 114, 32, 97, 110, 100, 32, 109, 117, 108, 32, 109, 117, 108, 104, 32, 109, 117, 108, 104, 115, 117, 32, 109, 117, 108, 104, 117, 32, 100, 105, 118, 32, 100, 105, 118, 117, 32, 114, 101, 109, 32, 114, 101, 109, 117, 32, 102, 101, 110, 99, 101, 32, 101, 99, 97, 108, 108, 32, 101, 98, 114, 101, 97, 107]
theorem fields_names : Go.Lib.fields opNames = (List.range 48).map fun k => nameOf (k + 1) := by decide +kernel
theorem names_ascii : (opNames.all fun b => decide (b.toNat < 128)) = true := by decide +kernel
end Hm
namespace Go.Proofs.YtdcmdjeooklmjaaDoor
open Go.RowKit Go.Sort

theorem below_grow (w : World) (k : Nat) (os : Array Obj) : Below w.heap.size w (grow (w.drewN k) os) :=
  ⟨rfl, rfl, rfl, by simp [grow], fun j hj => by simp [grow, Array.getElem?_append, hj]⟩

set_option maxRecDepth 100000 in
theorem itoa_any (n : Int) (w : World) (ht : PTab w) (hn : I64 n) :
    Calls Tryd.prog 97 #[.int .i64 n] w fun e w' => e = .returned (.string (Hm.bs (Hm.decS n))) ∧ Below w.heap.size w w' := by
  have h0 : -9223372036854775808 ≤ n := by unfold I64 at hn; omega
  have h1 : n ≤ 9223372036854775807 := by unfold I64 at hn; omega
  refine (Tryd.strconv_Itoa n h0 h1 w ht.pow).mono ?_
  rintro e w' ⟨rfl, k, os, rfl⟩
  exact ⟨by rw [Hm.itoa_dec h0 h1]; rfl, below_grow w k os⟩

set_option maxRecDepth 100000 in
set_option maxHeartbeats 1000000 in
theorem registerName_any (n : Int) (w : World) (ht : PTab w) (hn : I64 n) :
    Calls Tryd.prog 96 #[.int .i64 n] w fun e w' => e = .returned (.string (Hm.bs (Hm.regS n))) ∧ Below w.heap.size w w' := by
  have HT : Hid (PTab w) := ht
  have HN : Hid (I64 n) := hn
  have zs : (Hm.bs (Hm.decS n)).size ≤ 21 := by rw [bs_size]; exact Hm.decS_len _
  clear ht hn
  go_enter Tryd.func96, Tryd.ntmps96
  go_wp2_with fail
  refine (itoa_any _ _ HT.out HN.out).mono ?_
  rintro e w1 ⟨rfl, hb⟩
  have HB : Hid (Below w.heap.size w w1) := hb
  clear hb
  go_wp2
  go_ret
  exact ⟨ret_str (by simp only [Hm.regS]; exact bs_append [120] _), HB.out⟩

set_option maxRecDepth 100000 in
theorem fields_any (w : World) (ht : PTab w) :
    Calls Tryd.prog 98 #[.string (Hm.bs Hm.opNames)] w fun e w' => e = .returned (.slice (some ⟨w.heap.size, 0, none⟩) 48 48) ∧ Below w.heap.size w w' ∧ ∀ k, k < 48 → w'.cell? ⟨w.heap.size, k, none⟩ = some (.string (Hm.bs (Hm.nameOf (k + 1)))) := by
  refine (Tryd.strings_Fields_laid (Hm.bs Hm.opNames) w (by decide +kernel) ?_ ht.spc).mono ?_
  · intro j b hj
    have h := List.all_eq_true.1 Hm.names_ascii b (List.mem_of_getElem? hj)
    simpa using h
  · rintro e w' ⟨rfl, rfl⟩
    have hl : Lib.fields (Hm.bs Hm.opNames).data.toList = (List.range 48).map fun k => Hm.nameOf (k + 1) := Hm.fields_names
    rw [hl]
    refine ⟨by simp, (Below.refl _ _).alloc (Nat.le_refl _) _, fun k hk => ?_⟩
    rw [World.cell?_alloc_new]
    simp [hk]
    rfl

set_option maxRecDepth 100000 in
set_option maxHeartbeats 4000000 in
theorem nameOf_any (op : Int) (w : World) (ht : PTab w) (h0 : 1 ≤ op) (h1 : op ≤ 48) :
    Calls Tryd.prog 75 #[.int .i64 op] w fun e w' => e = .returned (.string (Hm.bs (Hm.nameOf op.toNat))) ∧ Below w.heap.size w w' := by
  have HT : Hid (PTab w) := ht
  obtain ⟨k, rfl⟩ := Int.eq_ofNat_of_zero_le (by omega : 0 ≤ op)
  have hk0 : 1 ≤ k := by omega
  have hk1 : k ≤ 48 := by omega
  rw [Int.toNat_natCast]
  clear ht
  go_enter Tryd.func75, Tryd.ntmps75
  go_wp2_with fail
  refine (fields_any _ HT.out).mono ?_
  rintro e w1 ⟨rfl, hb, hc⟩
  have HB : Hid (Below w.heap.size w w1) := hb
  have hck := hc (k - 1) (by omega)
  rw [show k - 1 + 1 = k from by omega] at hck
  have h2 : (k : Int) - 1 = ((k - 1 : Nat) : Int) := by omega
  clear hb hc
  go_wp2
  go_ret
  exact ⟨rfl, HB.out⟩

theorem al5' (v0 v1 v2 v3 v4 : Int) (W : World) : Below W.heap.size W (W.alloc (.cells #[.int .i64 v0, .int .i64 v1, .int .i64 v2, .int .i64 v3, .int .i64 v4] 23)) := (Below.refl _ _).alloc (Nat.le_refl _) _

set_option maxRecDepth 100000 in
set_option maxHeartbeats 4000000 in
theorem print_any (o op rd rs1 rs2 imm : Int) (w : World) (ht : PTab w) (ho : o = 0 ∨ o = 1 ∨ o = 2 ∨ o = 3 ∨ o = 4 ∨ o = 5) (hd : I64 rd) (hs : I64 rs1) (hr : I64 rs2) (hi : I64 imm) :
    Calls Tryd.prog 74 #[.int .u8 o, .agg #[.int .i64 op, .int .i64 rd, .int .i64 rs1, .int .i64 rs2, .int .i64 imm]] w fun e w' => e = .returned (.string (Hm.bs (Hm.opS rd rs1 rs2 imm o))) ∧ Below w.heap.size w w' := by
  have HT : Hid (PTab w) := ht
  have HI : Hid (I64 rd ∧ I64 rs1 ∧ I64 rs2 ∧ I64 imm) := ⟨hd, hs, hr, hi⟩
  have zs : (Hm.bs (Hm.decS rs1)).size ≤ 21 := by rw [bs_size]; exact Hm.decS_len _
  have zr : (Hm.bs (Hm.regS rs1)).size ≤ 22 := by rw [bs_size]; have := Hm.decS_len rs1; simp [Hm.regS]; omega
  have zn : (Hm.bs (Hm.decS imm)).size ≤ 21 := by rw [bs_size]; exact Hm.decS_len _
  have HB0 : Hid (Below w.heap.size w _) := al5' op rd rs1 rs2 imm w
  have HE : Hid (Hm.opS rd rs1 rs2 imm 4 = Hm.decS imm ++ [40] ++ Hm.regS rs1 ++ [41]) := by simp [Hid, Hm.opS]
  clear ht hd hs hr hi
  rcases ho with rfl | rfl | rfl | rfl | rfl | rfl
  · go_enter Tryd.func74, Tryd.ntmps74
    go_wp2_with fail
    refine (registerName_any _ _ (HT.out.alloc _) HI.out.1).mono ?_
    rintro e w1 ⟨rfl, hb⟩
    have HB : Hid (Below w.heap.size w w1) := HB0.out.trans (hb.mono (by simp))
    clear hb HB0
    go_wp2
    go_ret
    exact ⟨rfl, HB.out⟩
  · go_enter Tryd.func74, Tryd.ntmps74
    go_wp2_with fail
    refine (registerName_any _ _ (HT.out.alloc _) HI.out.2.1).mono ?_
    rintro e w1 ⟨rfl, hb⟩
    have HB : Hid (Below w.heap.size w w1) := HB0.out.trans (hb.mono (by simp))
    clear hb HB0
    go_wp2
    go_ret
    exact ⟨rfl, HB.out⟩
  · go_enter Tryd.func74, Tryd.ntmps74
    go_wp2_with fail
    refine (registerName_any _ _ (HT.out.alloc _) HI.out.2.2.1).mono ?_
    rintro e w1 ⟨rfl, hb⟩
    have HB : Hid (Below w.heap.size w w1) := HB0.out.trans (hb.mono (by simp))
    clear hb HB0
    go_wp2
    go_ret
    exact ⟨rfl, HB.out⟩
  · go_enter Tryd.func74, Tryd.ntmps74
    go_wp2_with fail
    refine (itoa_any _ _ (HT.out.alloc _) HI.out.2.2.2).mono ?_
    rintro e w1 ⟨rfl, hb⟩
    have HB : Hid (Below w.heap.size w w1) := HB0.out.trans (hb.mono (by simp))
    clear hb HB0
    go_wp2
    go_ret
    exact ⟨rfl, HB.out⟩
  · go_enter Tryd.func74, Tryd.ntmps74
    go_wp2_with fail
    refine wp_region_held_drew (S := fun w' => w'.cell? ⟨w.heap.size, 4, none⟩ = some (.int .i64 imm) ∧ w'.cell? ⟨w.heap.size, 2, none⟩ = some (.int .i64 rs1)) (by kernel_rfl) (by go_keep) (fun hHeld => ?_)
    refine' takeH_0 _ (by kernel_rfl) (by kernel_rfl) (by kernel_rfl) (fun _ _ _ h => h) (by rfl) ?hy1 hHeld ?rest1
    case hy1 => (intro w hSw; (try dsimp only at hSw); go_simp; try with_reducible rfl)
    simp only [Act.put, List.setIfInBounds_toArray, List.set_cons_zero, List.set_cons_succ]
    refine' takeH_1 _ (by kernel_rfl) (by kernel_rfl) (by kernel_rfl) (fun _ _ _ h => h) (by rfl) ?hy2 hHeld ?rest2
    case hy2 => (intro w hSw; (try dsimp only at hSw); go_simp; try with_reducible rfl)
    simp only [Act.put, List.setIfInBounds_toArray, List.set_cons_zero, List.set_cons_succ]
    refine' takeH_4 _ (by kernel_rfl) (by kernel_rfl) (by kernel_rfl) (fun _ _ _ h => h) (by rfl) ?hy3 hHeld ?rest3
    case hy3 => (intro w hSw; (try dsimp only at hSw); go_simp; try with_reducible rfl)
    simp only [Act.put, List.setIfInBounds_toArray, List.set_cons_zero, List.set_cons_succ]
    refine' takeH_5 _ (by kernel_rfl) (by kernel_rfl) (by kernel_rfl) (fun _ _ _ h => h) (by rfl) ?hy4 hHeld ?rest4
    case hy4 => (intro w hSw; (try dsimp only at hSw); go_simp; try with_reducible rfl)
    simp only [Act.put, List.setIfInBounds_toArray, List.set_cons_zero, List.set_cons_succ]
    refine runH_2 (by kernel_rfl) (fun K hK => ?_)
    go_simp
    (go_at_call 97; refine (itoa_any _ _ ((HT.out.alloc _).drew) HI.out.2.2.2).mono ?_; rintro e w1 ⟨rfl, hb⟩; go_wp2_with fail)
    refine hK.out _ _ ?hS6 (fun hHeld => ?rest6)
    case hS6 => ((rw [bcell hb _ _ (by simp), bcell hb _ _ (by simp)]; exact hHeld))
    clear hK K
    (try simp only [Act.put, List.setIfInBounds_toArray, List.set_cons_zero, List.set_cons_succ])
    have HB1 : Hid (Below w.heap.size w w1) := (HB0.out.drew).trans (hb.mono (by simp))
    have HT1 : Hid (PTab w1) := ((HT.out.alloc _).drew).below hb (Nat.le_refl _)
    have hz1 : w.heap.size < w1.heap.size := by have := hb.size; simp at this; omega
    clear hb HB0 HT
    refine' takeH_3 _ (by kernel_rfl) (by kernel_rfl) (by kernel_rfl) (fun _ _ _ h => h) (by rfl) ?hy7 hHeld ?rest7
    case hy7 => (intro w hSw; (try dsimp only at hSw); go_simp; (rw [if_neg (by omega)]))
    simp only [Act.put, List.setIfInBounds_toArray, List.set_cons_zero, List.set_cons_succ]
    refine runH_6 (by kernel_rfl) (fun K hK => ?_)
    go_simp
    (go_at_call 96; refine (registerName_any _ _ HT1.out HI.out.2.1).mono ?_; rintro e w2 ⟨rfl, hb⟩; go_wp2_with fail)
    refine hK.out _ _ ?hS9 (fun hHeld => ?rest9)
    case hS9 => ((rw [bcell hb _ _ hz1, bcell hb _ _ hz1]; exact hHeld))
    clear hK K
    (try simp only [Act.put, List.setIfInBounds_toArray, List.set_cons_zero, List.set_cons_succ])
    have HB2 : Hid (Below w.heap.size w w2) := HB1.out.trans (hb.mono (by omega))
    clear hb HB1 HT1
    have zz : (Hm.bs (Hm.decS imm) ++ { data := #[40] }).size ≤ 30 := by rw [ByteArray.size_append]; show _ + 1 ≤ 30; omega
    refine' takeH_7 _ (by kernel_rfl) (by kernel_rfl) (by kernel_rfl) (fun _ _ _ h => h) (by rfl) ?hy10 hHeld ?rest10
    case hy10 => (intro w hSw; (try dsimp only at hSw); go_simp; (rw [if_neg (by omega)]))
    simp only [Act.put, List.setIfInBounds_toArray, List.set_cons_zero, List.set_cons_succ]
    have zy : (Hm.bs (Hm.decS imm) ++ { data := #[40] } ++ Hm.bs (Hm.regS rs1)).size ≤ 60 := by rw [ByteArray.size_append]; omega
    refine' takeH_8 _ (by kernel_rfl) (by kernel_rfl) (by kernel_rfl) (fun _ _ _ h => h) (by rfl) ?hy11 hHeld ?rest11
    case hy11 => (intro w hSw; (try dsimp only at hSw); go_simp; (rw [if_neg (by omega)]))
    simp only [Act.put, List.setIfInBounds_toArray, List.set_cons_zero, List.set_cons_succ]
    refine' takeH_9 _ (by kernel_rfl) (by kernel_rfl) (by kernel_rfl) (fun _ _ _ h => h) (by rfl) ?hy12 hHeld ?rest12
    case hy12 => (intro w hSw; (try dsimp only at hSw); go_simp; try with_reducible rfl)
    simp only [Act.put, List.setIfInBounds_toArray, List.set_cons_zero, List.set_cons_succ]
    refine wpAnyH_done (by kernel_rfl) ?_ _
    go_wp2
    go_ret
    exact ⟨ret_str (by rw [HE.out, ← bs_append, ← bs_append, ← bs_append]; rfl), HB2.out⟩
  · go_enter Tryd.func74, Tryd.ntmps74
    go_wp2_with fail
    refine (itoa_any _ _ (HT.out.alloc _) HI.out.2.2.2).mono ?_
    rintro e w1 ⟨rfl, hb⟩
    have HB : Hid (Below w.heap.size w w1) := HB0.out.trans (hb.mono (by simp))
    clear hb HB0
    go_wp2
    go_ret
    exact ⟨rfl, HB.out⟩
end Go.Proofs.YtdcmdjeooklmjaaDoor
