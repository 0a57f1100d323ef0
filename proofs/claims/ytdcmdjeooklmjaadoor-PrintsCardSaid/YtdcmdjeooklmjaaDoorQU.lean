/-
  K3 K4 in one text.
-/
import Derived.Test.YtdcmdjeooklmjaaDoorQT
import Derived.Test.YtdcmdjeooklmjaaDoorQM
import Derived.Test.YtdcmdjeooklmjaaDoorQO
import Derived.Deep.AppendLies
import Derived.Lib.SliceRun
set_option linter.unusedVariables false
set_option linter.unusedSimpArgs false
/-
  Walks: package source's Print.
-/
namespace Hm
theorem opS_len (rd rs1 rs2 imm o : Int) : (opS rd rs1 rs2 imm o).length ≤ 60 := by
  have h1 := decS_len rd
  have h2 := decS_len rs1
  have h3 := decS_len rs2
  have h4 := decS_len imm
  unfold opS regS
  split
  · simp; omega
  split
  · simp; omega
  split
  · simp; omega
  split
  · simp; omega
  · omega
theorem opsC_len (f : Int) (ld : Bool) : (opsC f ld).length ≤ 3 := by
  unfold opsC
  repeat' split
  all_goals simp
theorem opsC_bd (f : Int) (ld : Bool) : ∀ o ∈ opsC f ld, o = 0 ∨ o = 1 ∨ o = 2 ∨ o = 3 ∨ o = 4 ∨ o = 5 := by
  unfold opsC
  repeat' split
  all_goals simp
theorem join_len (s : List UInt8) (hs : s.length ≤ 2) : ∀ (l : List (List UInt8)), (∀ x ∈ l, x.length ≤ 60) → (Go.Lib.join l s).length ≤ 62 * l.length
  | [], _ => by simp [Go.Lib.join_nil]
  | x :: r, h => by
    rw [Go.Lib.join_cons]
    have hx := h x (by simp)
    have hr : (Go.Lib.joinTail s r).length ≤ 62 * r.length := by
      clear hx
      induction r with
      | nil => simp [Go.Lib.joinTail]
      | cons y r ih =>
        have hy := h y (by simp)
        have := ih (fun z hz => h z (by simp at hz ⊢; rcases hz with rfl | hz; exact .inl rfl; exact .inr (.inr hz)))
        simp only [Go.Lib.joinTail, List.map_cons, List.flatten_cons, List.length_append, List.length_cons] at this ⊢
        omega
    simp
    omega
end Hm
namespace Go.Proofs.YtdcmdjeooklmjaaDoor
open Go.RowKit Go.Sort

theorem hlay0 : LayoutOf := fun f w h0 h1 => layoutOf_any f w h0 h1
theorem strInfo0 : ∃ i, Tryd.prog.info? 9 = some i ∧ i.zero = some (.string { data := #[] }) ∧ i.size = 1 ∧ i.bytes = 16 := by
  have h : (Tryd.prog.info? 9).map (fun i => (i.zero, i.size, i.bytes)) = some (some (.string { data := #[] }), 1, 16) := by kernel_rfl
  cases hq : Tryd.prog.info? 9 with
  | none => rw [hq] at h; cases h
  | some i =>
    rw [hq] at h
    simp only [Option.map_some, Option.some.injEq, Prod.mk.injEq] at h
    exact ⟨i, rfl, h.1, h.2.1, h.2.2⟩
def strs0 (pre : List (List UInt8)) : List Value := pre.map fun x => .string (Hm.bs x)
theorem own_ge0 {W : World} {base n : Nat} {e : TypeId} {v : Value} {xs : List Value} (h : W.ownsRow base e 1 v n xs) : ∀ k, v.ownBlock = some k → base ≤ k := by
  intro k hk
  rcases h.2 with ⟨rfl, _⟩ | ⟨g, cap, cur, rfl, hb, _⟩
  · cases hk
  · cases hk; exact hb

def numV : Value → Nat
  | .int _ n => n.toNat
  | _ => 0
/-- How far the texts of the operands are laid. -/
structure PrAt (W wr : World) (v : Value) (m : Nat) (ts : List (List UInt8)) : Prop where
  below : Below W.heap.size W wr
  own : wr.ownsRow W.heap.size 9 1 v m (strs0 (ts.take m))
  none : m = 0 → v = .slice none 0 0

theorem join_cells {wr : World} {B g4 n cap : Nat} {ts : List (List UInt8)} (hown : wr.ownsRow B 9 1 (.slice (some ⟨g4, 0, none⟩) n cap) n (strs0 ts)) (hn : ts.length = n) : ∀ (j : Nat) x, (ts.map Hm.bs)[j]? = some x → wr.cell? ⟨g4, 0 + j, none⟩ = some (.string x) := by
  intro j x hj
  rw [List.getElem?_map] at hj
  cases hq : ts[j]? with
  | none => rw [hq] at hj; cases hj
  | some y =>
    rw [hq] at hj
    simp at hj
    subst hj
    rw [Nat.zero_add, hown.cellAt j (by have := (List.getElem?_eq_some_iff.1 hq).1; omega)]
    simp [strs0, hq]
theorem join_any (g c n : Nat) (ts : List (List UInt8)) (w : World) (hn : ts.length = n) (hcells : ∀ (j : Nat) x, (ts.map Hm.bs)[j]? = some x → w.cell? ⟨g, 0 + j, none⟩ = some (.string x)) (hg : g < w.heap.size) (hc : n ≤ c) (h3 : n ≤ 3) (hj : (Go.Lib.join ts [44, 32]).length ≤ 1000) :
    Calls Tryd.prog 76 #[.slice (some ⟨g, 0, none⟩) n c, .string { data := #[44, 32] }] w fun e w' => e = .returned (.string (Hm.bs (Go.Lib.join ts [44, 32]))) ∧ Below w.heap.size w w' := by
  subst hn
  have hl : (ts.map Hm.bs).length = ts.length := by simp
  have hmm : (ts.map Hm.bs).map (·.data.toList) = ts := by rw [List.map_map]; exact List.map_id'' (fun x => by simp [Hm.bs]) _
  have h := Tryd.strings_Join g 0 c (ts.map Hm.bs) ⟨#[44, 32]⟩ w hcells hg (by rw [hl]; omega) (by rw [hl]; exact hc) (by rw [hmm]; show (Go.Lib.join ts [44, 32]).length ≤ _; omega)
  rw [hl, hmm] at h
  exact h

set_option maxRecDepth 100000 in
set_option maxHeartbeats 1000000 in
theorem sprint_no (op rd rs1 rs2 imm : Int) (w : World) (ht : PTab w) (hl : Hm.legalC op rd rs1 rs2 imm = false) :
    Calls Tryd.prog 49 #[.agg #[.int .i64 op, .int .i64 rd, .int .i64 rs1, .int .i64 rs2, .int .i64 imm]] w fun e w' => e = .returned (.tuple #[.string (Hm.bs (Hm.printC op rd rs1 rs2 imm)), .int .i64 (Hm.perrC op rd rs1 rs2 imm)]) ∧ Below w.heap.size w w' := by
  have HT : Hid (PTab w) := ht
  have HE : Hid (Hm.printC op rd rs1 rs2 imm = []) := by simp [Hid, Hm.printC, hl]
  have HR : Hid (Hm.perrC op rd rs1 rs2 imm = 1) := by simp [Hid, Hm.perrC, hl]
  clear ht
  go_enter Tryd.func49, Tryd.ntmps49
  go_wp2_with fail
  refine (legal_any hlay0 _ _ _ _ _ _ (HT.out.alloc _).tab).mono ?_
  rintro e w1 ⟨rfl, hb⟩
  have HB : Hid (Below w.heap.size w w1) := ((Below.refl _ _).alloc (Nat.le_refl _) _).trans (hb.mono (by simp))
  clear hb
  go_wp2
  go_ret2
  exact ⟨ret_si (by rw [HE.out]; rfl) HR.out.symm, HB.out⟩

set_option maxRecDepth 100000 in
set_option maxHeartbeats 8000000 in
theorem sprint_yes (op rd rs1 rs2 imm : Int) (w : World) (ht : PTab w) (hl : Hm.legalC op rd rs1 rs2 imm = true) (hd : I64 rd) (hs : I64 rs1) (hr : I64 rs2) (hi : I64 imm) :
    Calls Tryd.prog 49 #[.agg #[.int .i64 op, .int .i64 rd, .int .i64 rs1, .int .i64 rs2, .int .i64 imm]] w fun e w' => e = .returned (.tuple #[.string (Hm.bs (Hm.printC op rd rs1 rs2 imm)), .int .i64 (Hm.perrC op rd rs1 rs2 imm)]) ∧ Below w.heap.size w w' := by
  have HT : Hid (PTab w) := ht
  obtain ⟨o0, o1⟩ := Hm.legal_op hl
  have HI : Hid (I64 rd ∧ I64 rs1 ∧ I64 rs2 ∧ I64 imm) := ⟨hd, hs, hr, hi⟩
  have HE : Hid (Hm.printC op rd rs1 rs2 imm = Hm.printY op rd rs1 rs2 imm) := by simp [Hid, Hm.printC, hl]
  have HR : Hid (Hm.perrC op rd rs1 rs2 imm = 0) := by simp [Hid, Hm.perrC, hl]
  have HL : Hid (Hm.legalC op rd rs1 rs2 imm = true) := hl
  have HO : Hid (1 ≤ op ∧ op ≤ 48) := ⟨o0, o1⟩
  have HB0 : Hid (Below w.heap.size w _) := al5' op rd rs1 rs2 imm w
  obtain ⟨i0, hii, hz0, hz1, hz2⟩ := strInfo0
  have HII : Hid (Tryd.prog.info? 9 = some i0 ∧ i0.zero = some (.string { data := #[] }) ∧ i0.size = 1 ∧ i0.bytes = 16) := ⟨hii, hz0, hz1, hz2⟩
  clear ht hl hd hs hr hi hii hz0 hz1 hz2
  have hnil := fun (w : World) (a : Option Addr) (n c : Nat) => Lib.run_eql_slice_nil w 72 9 a n c 0 0 Tryd.underlying72
  go_enter Tryd.func49, Tryd.ntmps49
  go_wp2_with fail
  refine (legal_any hlay0 _ _ _ _ _ _ (HT.out.alloc _).tab).mono ?_
  rintro e w1 ⟨rfl, hb⟩
  rw [HL.out]
  have HB1 : Hid (Below w.heap.size w w1) := HB0.out.trans (hb.mono (by simp))
  have HT1 : Hid (PTab w1) := (HT.out.alloc _).below hb (Nat.le_refl _)
  have hz1 : w.heap.size < w1.heap.size := by have := hb.size; simp at this; omega
  have a0 : w1.cell? ⟨w.heap.size, 0, none⟩ = some (.int .i64 op) := by rw [bcell hb _ _ (by simp)]; simp
  have a1 : w1.cell? ⟨w.heap.size, 1, none⟩ = some (.int .i64 rd) := by rw [bcell hb _ _ (by simp)]; simp
  have a2 : w1.cell? ⟨w.heap.size, 2, none⟩ = some (.int .i64 rs1) := by rw [bcell hb _ _ (by simp)]; simp
  have a3 : w1.cell? ⟨w.heap.size, 3, none⟩ = some (.int .i64 rs2) := by rw [bcell hb _ _ (by simp)]; simp
  have a4 : w1.cell? ⟨w.heap.size, 4, none⟩ = some (.int .i64 imm) := by rw [bcell hb _ _ (by simp)]; simp
  clear hb HB0 HT HL
  go_wp2_with fail
  refine (operandsOf_any _ _ HT1.out.tab).mono ?_
  rintro e w2 ⟨v, rfl, hops, hb⟩
  have HB2 : Hid (Below w.heap.size w w2) := HB1.out.trans (hb.mono (by omega))
  have HT2 : Hid (PTab w2) := HT1.out.below hb (Nat.le_refl _)
  have hz2 : w.heap.size < w2.heap.size := by have := hb.size; omega
  have b0 : w2.cell? ⟨w.heap.size, 0, none⟩ = some (.int .i64 op) := by rw [bcell hb _ _ hz1]; exact a0
  have b1 : w2.cell? ⟨w.heap.size, 1, none⟩ = some (.int .i64 rd) := by rw [bcell hb _ _ hz1]; exact a1
  have b2 : w2.cell? ⟨w.heap.size, 2, none⟩ = some (.int .i64 rs1) := by rw [bcell hb _ _ hz1]; exact a2
  have b3 : w2.cell? ⟨w.heap.size, 3, none⟩ = some (.int .i64 rs2) := by rw [bcell hb _ _ hz1]; exact a3
  have b4 : w2.cell? ⟨w.heap.size, 4, none⟩ = some (.int .i64 imm) := by rw [bcell hb _ _ hz1]; exact a4
  clear hb HB1 HT1 hz1 a0 a1 a2 a3 a4
  have HP : Hid (∀ wr, Below w2.heap.size w2 wr → w.heap.size < wr.heap.size ∧ wr.cell? ⟨w.heap.size, 0, none⟩ = some (.int .i64 op) ∧ wr.cell? ⟨w.heap.size, 1, none⟩ = some (.int .i64 rd) ∧ wr.cell? ⟨w.heap.size, 2, none⟩ = some (.int .i64 rs1) ∧ wr.cell? ⟨w.heap.size, 3, none⟩ = some (.int .i64 rs2) ∧ wr.cell? ⟨w.heap.size, 4, none⟩ = some (.int .i64 imm)) := by
    intro wr hw
    rw [bcell hw _ _ hz2, bcell hw _ _ hz2, bcell hw _ _ hz2, bcell hw _ _ hz2, bcell hw _ _ hz2]
    exact ⟨Nat.lt_of_lt_of_le hz2 hw.size, b0, b1, b2, b3, b4⟩
  clear b0 b1 b2 b3 b4
  have hL3 := Hm.opsC_len (Hm.fmtOf op) (Hm.loadB op)
  have hLb := Hm.opsC_bd (Hm.fmtOf op) (Hm.loadB op)
  have HY : Hid (Hm.printY op rd rs1 rs2 imm = if (Hm.opsC (Hm.fmtOf op) (Hm.loadB op)).isEmpty then Hm.nameOf op.toNat else Hm.nameOf op.toNat ++ [32] ++ Go.Lib.join ((Hm.opsC (Hm.fmtOf op) (Hm.loadB op)).map (Hm.opS rd rs1 rs2 imm)) [44, 32]) := rfl
  generalize Hm.opsC (Hm.fmtOf op) (Hm.loadB op) = L at *
  have HLB : Hid (∀ o ∈ L, o = 0 ∨ o = 1 ∨ o = 2 ∨ o = 3 ∨ o = 4 ∨ o = 5) := hLb
  have HOPS : Hid (OpsAt w1.heap.size w2 v L) := hops
  have zm : (Hm.bs (Hm.nameOf op.toNat)).size ≤ 10 := by rw [bs_size]; exact Hm.name_len _
  clear hLb
  have hform : (L = [] ∧ ∃ a c, v = .slice a 0 c) ∨ ∃ g c, v = .slice (some ⟨g, 0, none⟩) L.length c ∧ g < w2.heap.size ∧ ∀ j (hj : j < L.length), w2.cell? ⟨g, j, none⟩ = some (.int .u8 L[j]) := by
    unfold OpsAt at hops
    have hlt := hops.lt
    rcases hops.2 with ⟨rfl, hn⟩ | ⟨g, cap, cur, rfl, hb, hgg, hnc, _, _, _⟩
    · exact .inl ⟨by simpa using hn, _, _, rfl⟩
    · refine .inr ⟨g, cap, rfl, (hlt g rfl).2, fun j hj => ?_⟩
      have := hops.cellAt j (by omega)
      rw [this]
      simp [u8s, hj]
  clear hops HOPS
  rcases hform with ⟨rfl, a, c, rfl⟩ | ⟨g, c, rfl, hg, hcell⟩
  · have HY0 : Hid (Hm.printY op rd rs1 rs2 imm = Hm.nameOf op.toNat) := HY.out
    clear HY HLB hL3
    go_wp2
    go_loopw [4, 14] (fun u j wr => u = .slice none 0 0 ∧ j = .int .i64 0 ∧ wr = w2) (fun _ _ _ => 0)
    case atStart => exact ⟨rfl, rfl, rfl⟩
    case round =>
      obtain ⟨rfl, rfl, rfl⟩ := hrel
      obtain ⟨-, c0, c1, c2, c3, c4⟩ := HP.out _ (Below.refl _ _)
      go_wp2_with fail
      refine (nameOf_any _ _ HT2.out HO.out.1 HO.out.2).mono ?_
      rintro e w3 ⟨rfl, hb⟩
      have HB3 : Hid (Below w.heap.size w w3) := HB2.out.trans (hb.mono (Nat.le_of_lt hz2))
      clear hb
      go_wp2
      go_ret2
      exact ⟨ret_si (by rw [HE.out, HY0.out]) HR.out.symm, HB3.out⟩
  · have HC : Hid (∀ j (hj : j < L.length), w2.cell? ⟨g, j, none⟩ = some (.int .u8 L[j])) := hcell
    clear hcell
    go_wp2
    go_loopw [4, 14] (fun u j wr => ∃ m : Nat, j = .int .i64 m ∧ m ≤ L.length ∧ PrAt w2 wr u m (L.map (Hm.opS rd rs1 rs2 imm))) (fun _ j _ => L.length - numV j)
    case atStart => exact ⟨0, rfl, Nat.zero_le _, Below.refl _ _, World.ownsRow_nil _ _ _ _, fun _ => rfl⟩
    case round =>
      obtain ⟨m, rfl, hm, hat⟩ := hrel
      have HD : Hid _ := hat
      obtain ⟨hsz, c0, c1, c2, c3, c4⟩ := HP.out _ hat.below
      by_cases hmn : m < L.length
      · have hcm : wr.cell? ⟨g, m, none⟩ = some (.int .u8 L[m]) := by rw [bcell hat.below _ _ hg]; exact HC.out m hmn
        have HO2 : Hid _ := HLB.out L[m] (List.getElem_mem hmn)
        have HTR : Hid (PTab wr) := HT2.out.below hat.below (Nat.le_refl _)
        generalize hem : L[m] = o at *
        clear hat
        go_wp2_with fail
        refine (print_any o _ _ _ _ _ _ HTR.out HO2.out HI.out.1 HI.out.2.1 HI.out.2.2.1 HI.out.2.2.2).mono ?_
        rintro e w3 ⟨rfl, hb⟩
        have BEL : Hid (Below w2.heap.size w2 w3) := HD.out.below.trans (hb.mono HD.out.below.size)
        have OWN : Hid (w3.ownsRow w2.heap.size 9 1 u4 m (strs0 ((L.map (Hm.opS rd rs1 rs2 imm)).take m))) := own_below HD.out.own hb
        have hW3 : w2.heap.size ≤ w3.heap.size := BEL.out.size
        have HTK : Hid ((L.map (Hm.opS rd rs1 rs2 imm)).take (m + 1) = (L.map (Hm.opS rd rs1 rs2 imm)).take m ++ [Hm.opS rd rs1 rs2 imm o]) := by
          show _ = _
          rw [List.take_add_one, List.getElem?_map, List.getElem?_eq_getElem hmn, hem]; rfl
        clear hb c0 c1 c2 c3 c4 hcm hem HO2 HTR HD
        generalize Hm.opS rd rs1 rs2 imm o = tx at *
        go_wp2_with (at_builtin; refine wpList_append_lies _ rfl _ _ 72 rfl w2.heap.size 9 i0 (.string { data := #[] }) 1 16 Tryd.underlying72 HII.out.1 HII.out.2.1 HII.out.2.2.1 HII.out.2.2.2 rfl (by decide) _ m (strs0 ((L.map (Hm.opS rd rs1 rs2 imm)).take m)) rfl (OWN.out.alloc _) ⟨w3.heap.size, 0, none⟩ 1 1 [.string (Hm.bs tx)] rfl rfl ?zc1 ?zc2 (by decide) ?zc3 ?zc4 ?zc5 _ rfl ?zc6)
        case zc1 =>
          intro j u hj
          match j, hj with
          | 0, hj => simp at hj; subst hj; simp [Addr.add]
        case zc2 => intro u hu; simp at hu; subst hu; rfl
        case zc3 => unfold maxLen; omega
        case zc4 => omega
        case zc5 => simp; omega
        intro g4 cap w4 own4 hgrow _ hlt4
        have hbel : Below w2.heap.size w2 w4 := (BEL.out.alloc hW3 _).grown hgrow (by simp; omega) (own_ge0 OWN.out)
        have HPT : Hid (PrAt w2 w4 (.slice (some ⟨g4, 0, none⟩) (m + 1) cap) (m + 1) (L.map (Hm.opS rd rs1 rs2 imm))) := by
          refine ⟨hbel, ?_, fun h => absurd h (by omega)⟩
          rw [HTK.out, show strs0 ((L.map (Hm.opS rd rs1 rs2 imm)).take m ++ [tx]) = strs0 ((L.map (Hm.opS rd rs1 rs2 imm)).take m) ++ [.string (Hm.bs tx)] by simp [strs0]]
          exact own4
        clear hbel own4 hgrow BEL OWN
        go_wp2
        go_roundw
        case rel => exact ⟨m + 1, by push_cast; rfl, hmn, HPT.out⟩
        case measure => show L.length - numV (.int .i64 _) < L.length - numV (.int .i64 _); simp [numV]; omega
      · have hme : m = L.length := by omega
        subst hme
        have HTR : Hid (PTab wr) := HT2.out.below hat.below (Nat.le_refl _)
        have HBR : Hid (Below w.heap.size w wr) := HB2.out.trans (hat.below.mono (Nat.le_of_lt hz2))
        have htake : (L.map (Hm.opS rd rs1 rs2 imm)).take L.length = L.map (Hm.opS rd rs1 rs2 imm) := List.take_of_length_le (by simp)
        have hown := hat.own
        rw [htake] at hown
        clear htake
        by_cases hL0 : L = []
        · have hu := hat.none (by rw [hL0]; rfl)
          subst hu
          have HY0 : Hid (Hm.printY op rd rs1 rs2 imm = Hm.nameOf op.toNat) := by
            show _ = _
            rw [HY.out, hL0]; rfl
          clear hat hown HD HY HLB HC
          go_wp2_with fail
          refine (nameOf_any _ _ HTR.out HO.out.1 HO.out.2).mono ?_
          rintro e w3 ⟨rfl, hb⟩
          have HB3 : Hid (Below w.heap.size w w3) := HBR.out.trans (hb.mono (Nat.le_of_lt hsz))
          clear hb
          go_wp2
          go_ret2
          exact ⟨ret_si (by rw [HE.out, HY0.out]) HR.out.symm, HB3.out⟩
        · have hn0 : 0 < L.length := List.length_pos_iff.2 hL0
          have HY0 : Hid (Hm.printY op rd rs1 rs2 imm = Hm.nameOf op.toNat ++ [32] ++ Go.Lib.join (L.map (Hm.opS rd rs1 rs2 imm)) [44, 32]) := by
            show _ = _
            rw [HY.out, if_neg (by simpa using hL0)]
          obtain ⟨g4, cap, cur, rfl, hb4, hgg4, hnc, _, _, _⟩ := hown.2.resolve_left (fun h => by have := h.2; omega)
          have hlt4 := (hown.lt g4 rfl).2
          have hcells := join_cells hown (by simp)
          have hjl := Hm.join_len [44, 32] (by decide) (L.map (Hm.opS rd rs1 rs2 imm)) (fun x hx => by
            obtain ⟨o, _, rfl⟩ := List.mem_map.1 hx
            exact Hm.opS_len _ _ _ _ _)
          have hjl2 : (Go.Lib.join (L.map (Hm.opS rd rs1 rs2 imm)) [44, 32]).length ≤ 186 := by simp at hjl; omega
          have hlen : (L.map (Hm.opS rd rs1 rs2 imm)).length = L.length := by simp
          have HCL : Hid _ := hcells
          have HLE : Hid _ := hlen
          generalize hTT : L.map (Hm.opS rd rs1 rs2 imm) = ts at *
          have zj : (Hm.bs (Go.Lib.join ts [44, 32])).size ≤ 186 := by rw [bs_size]; exact hjl2
          clear hat hown HD HY HLB HC hcells hlen hjl hTT hjl2 hgg4 hb4
          have zq : (Hm.bs (Hm.nameOf op.toNat) ++ { data := #[32] }).size ≤ 20 := by rw [ByteArray.size_append]; show _ + 1 ≤ 20; omega
          go_wp2_with fail
          refine (nameOf_any _ _ HTR.out HO.out.1 HO.out.2).mono ?_
          rintro e w3 ⟨rfl, hb⟩
          have HB3 : Hid (Below w.heap.size w w3) := HBR.out.trans (hb.mono (Nat.le_of_lt hsz))
          have HC3 : Hid (∀ (j : Nat) x, (ts.map Hm.bs)[j]? = some x → w3.cell? ⟨g4, 0 + j, none⟩ = some (.string x)) := fun j x hj => by rw [bcell hb _ _ hlt4]; exact HCL.out j x hj
          have hlt3 : g4 < w3.heap.size := Nat.lt_of_lt_of_le hlt4 hb.size
          have hsz3 : w.heap.size < w3.heap.size := Nat.lt_of_lt_of_le hsz hb.size
          clear hb HCL
          go_wp2_with fail
          refine (join_any g4 cap L.length ts _ HLE.out HC3.out hlt3 hnc hL3 (by rw [bs_size] at zj; omega)).mono ?_
          rintro e w5 ⟨rfl, hb⟩
          have HB5 : Hid (Below w.heap.size w w5) := HB3.out.trans (hb.mono (Nat.le_of_lt hsz3))
          clear hb
          go_wp2
          go_ret2
          exact ⟨ret_si (by rw [HE.out, HY0.out, ← bs_append, ← bs_append]; rfl) HR.out.symm, HB5.out⟩

theorem sprint_any (op rd rs1 rs2 imm : Int) (w : World) (ht : PTab w) (hd : I64 rd) (hs : I64 rs1) (hr : I64 rs2) (hi : I64 imm) :
    Calls Tryd.prog 49 #[.agg #[.int .i64 op, .int .i64 rd, .int .i64 rs1, .int .i64 rs2, .int .i64 imm]] w fun e w' => e = .returned (.tuple #[.string (Hm.bs (Hm.printC op rd rs1 rs2 imm)), .int .i64 (Hm.perrC op rd rs1 rs2 imm)]) ∧ Below w.heap.size w w' := by
  cases hl : Hm.legalC op rd rs1 rs2 imm with
  | true => exact sprint_yes op rd rs1 rs2 imm w ht hl hd hs hr hi
  | false => exact sprint_no op rd rs1 rs2 imm w ht hl
end Go.Proofs.YtdcmdjeooklmjaaDoor

/-
  Walks: hartref's Print of any fields, package hart's Print, the law Prints.
-/
namespace Hm
theorem lay_bd (f : Int) : -1048576 ≤ (lay f).least ∧ (lay f).most ≤ 1048575 := by
  unfold lay
  repeat' split
  all_goals decide
theorem fits_bd {n : Int} {u : Bool} (h : fitsC n u = true) : 0 ≤ n ∧ n < 32 := by
  unfold fitsC at h
  cases u
  · simp at h; omega
  · simpa using h
theorem legal_bd {op rd rs1 rs2 imm : Int} (h : legalC op rd rs1 rs2 imm = true) : (0 ≤ rd ∧ rd < 32) ∧ (0 ≤ rs1 ∧ rs1 < 32) ∧ (0 ≤ rs2 ∧ rs2 < 32) ∧ -1048576 ≤ imm ∧ imm ≤ 1048575 := by
  unfold legalC at h
  by_cases hf : fmtOf op = 0
  · rw [if_pos hf] at h; cases h
  · rw [if_neg hf] at h
    simp only [Bool.and_eq_true] at h
    obtain ⟨⟨⟨h1, h2⟩, h3⟩, h4⟩ := h
    have hb := lay_bd (fmtOf op)
    unfold holdsC at h4
    have h5 := of_decide_eq_true h4
    exact ⟨fits_bd h1, fits_bd h2, fits_bd h3, by omega, by omega⟩
end Hm
namespace Go.Proofs.YtdcmdjeooklmjaaDoor
open Go.RowKit Go.Sort

theorem refPrint_any (op rd rs1 rs2 imm : Int) (w : World) :
    Calls Tryd.prog 24 #[.agg #[.int .i64 op, .int .i64 rd, .int .i64 rs1, .int .i64 rs2, .int .i64 imm]] w fun e w' => e = .returned (.tuple #[.string (Hm.bs (Hm.printR op rd rs1 rs2 imm)), .int .i64 (Hm.errR op rd rs1 rs2 imm)]) ∧ Below w.heap.size w w' := by
  cases hl : Hm.legalR op rd rs1 rs2 imm with
  | false => exact print_no op rd rs1 rs2 imm w hl
  | true =>
    have hc : Hm.legalC op rd rs1 rs2 imm = true := by rw [Hm.legal_eq]; exact hl
    obtain ⟨o0, o1⟩ := Hm.legal_op hc
    obtain ⟨h1, h2, h3, h4⟩ := Hm.legal_bd hc
    obtain ⟨k, rfl⟩ := Int.eq_ofNat_of_zero_le (by omega : 0 ≤ op)
    exact print_yes k rd rs1 rs2 imm w (by omega) (by omega) hl (by omega) (by omega) (by omega) (by omega)

set_option maxRecDepth 100000 in
set_option maxHeartbeats 1000000 in
theorem hPrint (op rd rs1 rs2 imm : Int) (w : World) (ht : PTab w) (hd : I64 rd) (hs : I64 rs1) (hr : I64 rs2) (hi : I64 imm) :
    Calls Tryd.prog 23 #[.agg #[.int .i64 op, .int .i64 rd, .int .i64 rs1, .int .i64 rs2, .int .i64 imm]] w fun e w' => e = .returned (.tuple #[.string (Hm.bs (Hm.printC op rd rs1 rs2 imm)), .int .i64 (Hm.perrC op rd rs1 rs2 imm)]) ∧ Below w.heap.size w w' := by
  have HT : Hid (PTab w) := ht
  have HI : Hid (I64 rd ∧ I64 rs1 ∧ I64 rs2 ∧ I64 imm) := ⟨hd, hs, hr, hi⟩
  clear ht hd hs hr hi
  go_enter Tryd.func23, Tryd.ntmps23
  go_wp2_with fail
  refine (sprint_any _ _ _ _ _ _ (HT.out.alloc _) HI.out.1 HI.out.2.1 HI.out.2.2.1 HI.out.2.2.2).mono ?_
  rintro e w1 ⟨rfl, hb⟩
  have HB : Hid (Below w.heap.size w w1) := ((Below.refl _ _).alloc (Nat.le_refl _) _).trans (hb.mono (by simp))
  clear hb
  go_wp2
  go_ret2
  exact ⟨rfl, HB.out⟩

set_option maxHeartbeats 400000 in
theorem num_any0 (n : Int) (w : World) : Calls Tryd.prog 17 #[.int .i64 n] w fun e w' => e = .returned (.int .i64 n) ∧ w' = w := by
  go_enter Tryd.func17, Tryd.ntmps17
  go_wp2
  go_ret
  exact ⟨rfl, rfl⟩

set_option maxRecDepth 100000 in
set_option maxHeartbeats 4000000 in
theorem prints_walk (op rd rs1 rs2 imm : Int) (w : World) (ht : PTab w) (hd : I64 rd) (hs : I64 rs1) (hr : I64 rs2) (hi : I64 imm) :
    Calls Tryd.prog 7 #[.agg #[.int .i64 op, .int .i64 rd, .int .i64 rs1, .int .i64 rs2, .int .i64 imm]] w fun e w' => e = .returned (.bool true) ∧ Below w.heap.size w w' := by
  have HT : Hid (PTab w) := ht
  have HI : Hid (I64 rd ∧ I64 rs1 ∧ I64 rs2 ∧ I64 imm) := ⟨hd, hs, hr, hi⟩
  have G1 : Hid (Hm.printR op rd rs1 rs2 imm = Hm.printC op rd rs1 rs2 imm) := Hm.print_eq _ _ _ _ _
  have G2 : Hid (Hm.errR op rd rs1 rs2 imm = Hm.perrC op rd rs1 rs2 imm) := Hm.perr_eq _ _ _ _ _
  clear ht hd hs hr hi
  go_enter Tryd.func7, Tryd.ntmps7
  go_wp2_with fail
  refine (hPrint _ _ _ _ _ _ (HT.out.alloc _) HI.out.1 HI.out.2.1 HI.out.2.2.1 HI.out.2.2.2).mono ?_
  rintro e w1 ⟨rfl, hb⟩
  have HB1 : Hid (Below w.heap.size w w1) := ((Below.refl _ _).alloc (Nat.le_refl _) _).trans (hb.mono (by simp))
  have hz1 : w.heap.size < w1.heap.size := by have := hb.size; simp at this; omega
  have a0 : w1.cell? ⟨w.heap.size, 0, none⟩ = some (.int .i64 op) := by rw [bcell hb _ _ (by simp)]; simp
  have a1 : w1.cell? ⟨w.heap.size, 1, none⟩ = some (.int .i64 rd) := by rw [bcell hb _ _ (by simp)]; simp
  have a2 : w1.cell? ⟨w.heap.size, 2, none⟩ = some (.int .i64 rs1) := by rw [bcell hb _ _ (by simp)]; simp
  have a3 : w1.cell? ⟨w.heap.size, 3, none⟩ = some (.int .i64 rs2) := by rw [bcell hb _ _ (by simp)]; simp
  have a4 : w1.cell? ⟨w.heap.size, 4, none⟩ = some (.int .i64 imm) := by rw [bcell hb _ _ (by simp)]; simp
  clear hb HT HI
  go_wp2_with fail
  refine (refPrint_any _ _ _ _ _ _).mono ?_
  rintro e w2 ⟨rfl, hb⟩
  rw [G1.out, G2.out]
  have HB2 : Hid (Below w.heap.size w w2) := HB1.out.trans (hb.mono (by omega))
  clear hb HB1 hz1 a0 a1 a2 a3 a4 G1 G2
  generalize Hm.bs (Hm.printC op rd rs1 rs2 imm) = S
  generalize Hm.perrC op rd rs1 rs2 imm = E
  go_wp2_with (go_at_call 17; refine (num_any0 _ _).mono ?_; rintro e w' ⟨rfl, rfl⟩)
  go_ret
  exact ⟨rfl, HB2.out⟩
end Go.Proofs.YtdcmdjeooklmjaaDoor
