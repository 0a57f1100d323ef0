/-
  ND NI in one text.
-/
import Derived.Test.YtdcmdjeooklmjaaDoorVD
import Derived.Test.YtdcmdjeooklmjaaDoorGX
import Derived.Test.YtdcmdjeooklmjaaDoorGO
import Derived.Test.YtdcmdjeooklmjaaDoorVC
import Derived.Test.YtdcmdjeooklmjaaDoorVB
set_option linter.unusedVariables false
set_option linter.unusedSimpArgs false
/-
  Walks: workOf; what the buffer begins with (cut).
-/
namespace Go.Proofs.YtdcmdjeooklmjaaDoor
open Go.RowKit Go.PageMap Go.Maps

def haltV (c : Cm) (k : Int) : Value := .agg #[.int .i64 c.op, .int .i64 c.rd, .int .i64 c.rs1, .int .i64 c.rs2, .int .i64 c.imm, .int .u32 c.pc, .int .i64 c.n, .int .i64 k]
def workV (c : Cm) : Value :=
  if c.op = 3 ∨ c.op = 4 then .iface 228 (cmV c) else
  if c.op = 5 ∨ c.op = 6 ∨ c.op = 7 ∨ c.op = 8 ∨ c.op = 9 ∨ c.op = 10 then .iface 229 (cmV c) else
  if c.op = 11 ∨ c.op = 12 ∨ c.op = 13 ∨ c.op = 14 ∨ c.op = 15 then .iface 230 (cmV c) else
  if c.op = 16 ∨ c.op = 17 ∨ c.op = 18 then .iface 185 (cmV c) else
  if c.op = 46 then .iface 231 (cmV c) else
  if c.op = 47 then .iface 183 (haltV c 2) else if c.op = 48 then .iface 183 (haltV c 3) else if c.op = 0 then .iface 183 (haltV c 1) else
  .iface 232 (cmV c)
set_option maxRecDepth 100000
set_option maxHeartbeats 2000000 in
theorem m_workOf_any (w : World) (c : Cm) :
    Calls Tryd.prog 131 #[cmV c] w fun e w' => e = .returned (workV c) ∧ Below w.heap.size w w' := by
  have HB : Hid (∀ o, Below w.heap.size w (w.alloc o)) := fun o => (Below.refl _ _).alloc (Nat.le_refl _) o
  obtain ⟨op, rd, rs1, rs2, imm, pc, n⟩ := c
  unfold cmV
  dsimp only
  go_enter Tryd.func131, Tryd.ntmps131
  go_wp2
  all_goals (
    go_ret
    refine ⟨?_, HB.out _⟩
    clear HB
    simp_all [workV, cmV, haltV])
end Go.Proofs.YtdcmdjeooklmjaaDoor

/-
  Walks: what the buffer begins with (cut).
-/
namespace Go.Proofs.YtdcmdjeooklmjaaDoor
open Go.RowKit Go.PageMap Go.Maps

def cmOf (d : Hm.Dec) (a : Int) (n : Nat) : Cm := ⟨d.op, d.f.d.toNat, d.f.r.toNat, d.f.t.toNat, d.f.imm, a, n⟩
def cutC (par : List (Int × Int)) (k : Nat) : Option Cm :=
  match par[k]? with
  | none => none
  | some p => if (Hm.expC p.2).err ≠ 3 ∨ p.2 % 32 = 31 then some (cmOf (Hm.expC p.2) p.1 1) else
    match par[k + 1]? with
    | none => none
    | some q => some (cmOf (Hm.decC (q.2 * 65536 + p.2)) p.1 2)
def cutV (o : Option Cm) : Value := match o with | none => .nilIface | some c => workV c
def ParOk (par : List (Int × Int)) : Prop := ∀ p ∈ par, 0 ≤ p.1 ∧ p.1 < 4294967296 ∧ 0 ≤ p.2 ∧ p.2 < 65536
/-- The registers of what is expanded or decoded are from 0 to 31. -/
def DecOk (d : Hm.Dec) : Prop := (0 ≤ d.f.d ∧ d.f.d < 32) ∧ (0 ≤ d.f.r ∧ d.f.r < 32) ∧ (0 ≤ d.f.t ∧ d.f.t < 32)
theorem regC_ok (x : Int) (b : Bool) : 0 ≤ Hm.regC x b ∧ Hm.regC x b < 32 := by
  unfold Hm.regC; split <;> omega
theorem zero_ok (e : Int) : DecOk ⟨0, ⟨0, 0, 0, 0⟩, e⟩ := ⟨⟨by show (0 : Int) ≤ 0; decide, by show (0 : Int) < 32; decide⟩, ⟨by show (0 : Int) ≤ 0; decide, by show (0 : Int) < 32; decide⟩, ⟨by show (0 : Int) ≤ 0; decide, by show (0 : Int) < 32; decide⟩⟩
theorem takeP_lt (p x : Int) : 0 ≤ Hm.takeP p x ∧ Hm.takeP p x < 32 := by
  have e0 : (2 : Int) ^ Int.toNat 0 = 1 := rfl
  have e3 : (2 : Int) ^ Int.toNat 3 = 8 := rfl
  have e5 : (2 : Int) ^ Int.toNat 5 = 32 := rfl
  unfold Hm.takeP Hm.fld
  repeat' split
  all_goals (simp only [Hm.pw, e0, e3, e5]; omega)
theorem dec_ok (x : Int) : DecOk (Hm.decC x) := by
  have h : ∀ n k, DecOk (Hm.decCFrom x n k) := by
    intro n
    induction n with
    | zero => intro k; exact zero_ok 2
    | succ n ih =>
      intro k
      rw [Hm.decCFrom]
      split
      · exact ⟨regC_ok _ _, regC_ok _ _, regC_ok _ _⟩
      · exact ih _
  exact h 48 1
theorem exp_ok (x : Int) : DecOk (Hm.expC x) := by
  have h : ∀ n k, DecOk (Hm.expCFrom x n k) := by
    intro n
    induction n with
    | zero => intro k; exact zero_ok 2
    | succ n ih =>
      intro k
      rw [Hm.expCFrom]
      split
      · exact ⟨takeP_lt _ _, takeP_lt _ _, takeP_lt _ _⟩
      · exact ih _
  unfold Hm.expC
  split
  · exact zero_ok 3
  · exact h 26 0
theorem or_hi (b1 b2 : Int) (h0 : 0 ≤ b1) (h1 : b1 < 65536) (h2 : 0 ≤ b2) (h3 : b2 < 65536) : bits .or .u32 (b2 * 65536) b1 = b2 * 65536 + b1 := by
  rw [u32_or _ _ (by omega) (by omega) h0 (by omega)]
  obtain ⟨y, rfl⟩ := Int.eq_ofNat_of_zero_le h0
  obtain ⟨c, rfl⟩ := Int.eq_ofNat_of_zero_le h2
  have e : ((c : Int) * 65536).toNat = c <<< 16 := by rw [Nat.shiftLeft_eq]; omega
  rw [e, Int.toNat_natCast, ← Nat.shiftLeft_add_eq_or_of_lt (by omega), Nat.shiftLeft_eq]
  omega
theorem cmOf_ok {d : Hm.Dec} {a : Int} {n : Nat} (h : DecOk d) (a0 : 0 ≤ a) (a1 : a < 4294967296) (hn : n = 1 ∨ n = 2) : CmOk (cmOf d a n) where
  rd := by have := h.1; simp only [cmOf]; omega
  rs1 := by have := h.2.1; simp only [cmOf]; omega
  rs2 := by have := h.2.2; simp only [cmOf]; omega
  pc0 := a0
  pc1 := a1
  n := hn
theorem cmV_of {d : Hm.Dec} {a : Int} {n : Nat} (h : DecOk d) : cmV (cmOf d a n) = .agg #[.int .i64 d.op, .int .i64 d.f.d, .int .i64 d.f.r, .int .i64 d.f.t, .int .i64 d.f.imm, .int .u32 a, .int .i64 n] := by
  have h1 : (d.f.d.toNat : Int) = d.f.d := by have := h.1; omega
  have h2 : (d.f.r.toNat : Int) = d.f.r := by have := h.2.1; omega
  have h3 : (d.f.t.toNat : Int) = d.f.t := by have := h.2.2; omega
  simp only [cmV, cmOf, h1, h2, h3]
/-- The parcels' cells. -/
theorem At.parcel {W : World} {L : Lay} {M : Mc} (h : At W L M) {g cap : Nat} (hpv : L.pv = .slice (some ⟨g, 0, none⟩) M.par.length cap) {k : Nat} {p : Int × Int} (hp : M.par[k]? = some p) :
    W.cell? ⟨g, k * 2, none⟩ = some (.int .u32 p.1) ∧ W.cell? ⟨g, k * 2 + 1, none⟩ = some (.int .u16 p.2) := by
  have hc := h.par.cells (g := g) (by rw [hpv]; rfl)
  have hk : (parCells M.par).drop (k * 2) = parCells (M.par.drop k) := parCells_drop M.par k
  have hd : M.par.drop k = p :: M.par.drop (k + 1) := by
    have hlt := (List.getElem?_eq_some_iff.1 hp).1
    rw [List.drop_eq_getElem_cons hlt, (List.getElem?_eq_some_iff.1 hp).2]
  have e0 : (parCells M.par)[k * 2]? = some (.int .u32 p.1) := by
    have := congrArg (fun l => l[0]?) hk
    simp only [List.getElem?_drop, Nat.add_zero] at this
    rw [this, hd]; rfl
  have e1 : (parCells M.par)[k * 2 + 1]? = some (.int .u16 p.2) := by
    have := congrArg (fun l => l[1]?) hk
    simp only [List.getElem?_drop] at this
    rw [this, hd]; rfl
  have f0 := hc _ _ e0
  have f1 := hc _ _ e1
  rw [Addr.add_lit, Nat.zero_add] at f0 f1
  exact ⟨f0, f1⟩
theorem below5 {B b : Nat} {w w' : World} (h : Below B w w') (hb : B ≤ b) (v0 v1 v2 v3 v4 : Value) :
    Below B w (((((w'.setCell ⟨b, 0, none⟩ v0).setCell ⟨b, 1, none⟩ v1).setCell ⟨b, 2, none⟩ v2).setCell ⟨b, 3, none⟩ v3).setCell ⟨b, 4, none⟩ v4) :=
  ((((h.setCell hb _).setCell hb _).setCell hb _).setCell hb _).setCell hb _
theorem five_cells {W W' : World} {B : Nat} (h : ∃ cs, W.heap[B]? = some (.cells cs 23 (0, 0)) ∧ cs.size = 5) (hb : Below W.heap.size W W') (hB : B < W.heap.size) :
    (∃ v, W'.cell? ⟨B, 0, none⟩ = some v) ∧ (∃ v, W'.cell? ⟨B, 1, none⟩ = some v) ∧ (∃ v, W'.cell? ⟨B, 2, none⟩ = some v) ∧ (∃ v, W'.cell? ⟨B, 3, none⟩ = some v) ∧ (∃ v, W'.cell? ⟨B, 4, none⟩ = some v) ∧ ∀ i, W'.frozen? ⟨B, i, none⟩ = false := by
  obtain ⟨cs, h1, h2⟩ := h
  have h3 : W'.heap[B]? = some (.cells cs 23 (0, 0)) := by rw [hb.block _ hB]; exact h1
  refine ⟨⟨cs[0], ?_⟩, ⟨cs[1], ?_⟩, ⟨cs[2], ?_⟩, ⟨cs[3], ?_⟩, ⟨cs[4], ?_⟩, fun i => ?_⟩
  all_goals simp [World.cell?, World.frozen?, h3, h2]
set_option maxRecDepth 100000
set_option maxHeartbeats 2000000 in
theorem m_cut_any (w : World) (L : Lay) (M : Mc) (k : Nat) (h : At w L M) (ht : Tabs w) (hp : ParOk M.par) (hl : M.par.length ≤ 100) (hk : k ≤ 2) :
    Calls Tryd.prog 112 #[.pointer (some ⟨L.b, 0, none⟩), .int .i64 k] w fun e w' => e = .returned (cutV (cutC M.par k)) ∧ Below w.heap.size w w' := by
  have hr := h.parcels
  have hlt := h.cells.lt
  have HA : Hid (At w L M) := h
  have HT : Hid (Tabs w) := ht
  by_cases hkl : k < M.par.length
  · rcases h.par.2 with ⟨_, h2⟩ | ⟨g, cap, cur, hpv, _, hgc, hc1, hc2, hc3, hc4⟩
    · omega
    · obtain ⟨p, hpk⟩ : ∃ p, M.par[k]? = some p := ⟨_, List.getElem?_eq_getElem hkl⟩
      obtain ⟨c0, c1⟩ := h.parcel hpv hpk
      obtain ⟨p0, p1, p2, p3⟩ := hp p (List.mem_of_getElem? hpk)
      rw [hpv] at hr
      have hgl : g < w.heap.size := (Array.getElem?_eq_some_iff.1 hgc).1
      have hki : (0 : Int) ≤ (k : Int) ∧ (k : Int) < (M.par.length : Int) := by omega
      have hand : bits .and .u16 p.2 31 = p.2 % 32 := and_mask16 p.2 5 p2 p3 (by decide)
      have HPK : Hid (M.par[k]? = some p) := hpk
      have HPO : Hid (ParOk M.par) := hp
      have HPV : Hid (L.pv = .slice (some ⟨g, 0, none⟩) M.par.length cap) := hpv
      clear h ht hp hpv hgc hc1 hc2 hc3 hc4 hpk
      go_enter Tryd.func112, Tryd.ntmps112
      go_wp2_with fail
      generalize hW : w.alloc _ = W0
      have HB0 : Hid (Below w.heap.size w W0) := by rw [Hid, ← hW]; exact (Below.refl _ _).alloc (Nat.le_refl _) _
      have HX0 : Hid (W0.heap[w.heap.size]? = some (.cells #[.int .u32 p.1, .int .u16 p.2] 212 (0, 0))) := by rw [Hid, ← hW]; exact heap_alloc_new _ _
      have hsz0 : w.heap.size < W0.heap.size := by rw [← hW]; simp
      have HT0 : Hid (Tabs W0) := HT.out.below HB0.out (Nat.le_refl _)
      clear hW
      refine (cexpand_any p.2 W0 HT0.out p2 p3).mono ?_
      rintro e w1 ⟨rfl, hb1⟩
      have HB1 : Hid (Below w.heap.size w w1) := HB0.out.trans (hb1.mono (Nat.le_of_lt hsz0))
      have hx1 : w1.heap[w.heap.size]? = some (.cells #[.int .u32 p.1, .int .u16 p.2] 212 (0, 0)) := by rw [hb1.block _ hsz0]; exact HX0.out
      have hsz1 : w.heap.size < w1.heap.size := Nat.lt_of_lt_of_le hsz0 hb1.size
      have d0 : w1.cell? ⟨w.heap.size, 0, none⟩ = some (.int .u32 p.1) := by simp [World.cell?, hx1]
      have d1 : w1.cell? ⟨w.heap.size, 1, none⟩ = some (.int .u16 p.2) := by simp [World.cell?, hx1]
      have hr1 : w1.cell? ⟨L.b, 34, none⟩ = some (.slice (some ⟨g, 0, none⟩) M.par.length cap) := by rw [HB1.out.cell hlt]; exact hr
      have HDO : Hid (DecOk (Hm.expC p.2)) := exp_ok p.2
      have hlt1 : L.b < w1.heap.size := Nat.lt_of_lt_of_le hlt HB1.out.size
      have hgl1 : g < w1.heap.size := Nat.lt_of_lt_of_le hgl HB1.out.size
      clear hb1 hx1 hsz0 hr c0 c1
      unfold decVal
      by_cases hwide : (Hm.expC p.2).err ≠ 3 ∨ p.2 % 32 = 31
      · have HC : Hid (cutC M.par k = some (cmOf (Hm.expC p.2) p.1 1)) := by rw [Hid, cutC, HPK.out]; simp only [if_pos hwide]
        have hcv : cmV (cmOf (Hm.expC p.2) p.1 1) = .agg #[.int .i64 (Hm.expC p.2).op, .int .i64 (Hm.expC p.2).f.d, .int .i64 (Hm.expC p.2).f.r, .int .i64 (Hm.expC p.2).f.t, .int .i64 (Hm.expC p.2).f.imm, .int .u32 p.1, .int .i64 1] := cmV_of HDO.out
        have HCV : Hid _ := hcv
        clear hcv
        have hpick : ((Hm.expC p.2).err != 3) = true ∨ (((Hm.expC p.2).err != 3) = false ∧ (p.2 % 32 == 31) = true) := by
          by_cases h3 : (Hm.expC p.2).err = 3
          · right; simp [h3]; rcases hwide with h | h
            · exact absurd h3 h
            · exact h
          · left; simp [h3]
        rcases hpick with q1 | ⟨q1, q2⟩
        all_goals (
          go_wp2_with fail
          generalize hW : w1.alloc _ = W2
          have HB2 : Hid (Below w.heap.size w W2) := by rw [Hid, ← hW]; exact HB1.out.alloc (Nat.le_of_lt hsz1) _
          clear hW
          have hcall := m_workOf_any W2 (cmOf (Hm.expC p.2) p.1 1)
          rw [HCV.out] at hcall
          refine hcall.mono ?_
          clear hcall
          rintro e w3 ⟨rfl, hb3⟩
          have HB3 : Hid (Below w.heap.size w w3) := HB2.out.trans (hb3.mono HB2.out.size)
          clear hb3
          go_wp2
          go_ret
          refine ⟨?_, HB3.out⟩
          rw [HC.out]; rfl)
      · have h3 : (Hm.expC p.2).err = 3 := Classical.byContradiction fun h => hwide (.inl h)
        have h31 : ¬ p.2 % 32 = 31 := fun h => hwide (.inr h)
        have q1 : ((Hm.expC p.2).err != 3) = false := by simp [h3]
        have q2 : (p.2 % 32 == 31) = false := by simp [h31]
        by_cases hk1 : k + 1 < M.par.length
        · obtain ⟨r, hrk⟩ : ∃ r, M.par[k + 1]? = some r := ⟨_, List.getElem?_eq_getElem hk1⟩
          obtain ⟨r0, r1, r2, r3⟩ := HPO.out r (List.mem_of_getElem? hrk)
          obtain ⟨c0, c1⟩ := (HA.out.below HB1.out (Nat.le_refl _)).parcel HPV.out hrk
          obtain ⟨X, hX⟩ : ∃ X, X = r.2 * 65536 + p.2 := ⟨_, rfl⟩
          have HOR : Hid (bits .or .u32 (IntKind.u32.wrap (IntKind.u32.wrap r.2 * 65536)) (IntKind.u32.wrap p.2) = X) := by
            rw [Hid, hX, IntKind.wrap_u32, IntKind.wrap_u32, IntKind.wrap_u32, Int.emod_eq_of_lt r2 (by omega), Int.emod_eq_of_lt p2 (by omega), Int.emod_eq_of_lt (by omega) (by omega), or_hi p.2 r.2 p2 p3 r2 r3]
          have X0 : 0 ≤ X := by omega
          have X1 : X < 4294967296 := by omega
          have HC : Hid (cutC M.par k = some (cmOf (Hm.decC X) p.1 2)) := by rw [Hid, cutC, HPK.out, hX]; simp only [if_neg hwide, hrk]
          have HDD : Hid (DecOk (Hm.decC X)) := dec_ok _
          have hcv : cmV (cmOf (Hm.decC X) p.1 2) = .agg #[.int .i64 (Hm.decC X).op, .int .i64 (Hm.decC X).f.d, .int .i64 (Hm.decC X).f.r, .int .i64 (Hm.decC X).f.t, .int .i64 (Hm.decC X).f.imm, .int .u32 p.1, .int .i64 2] := cmV_of HDD.out
          have HDC : Hid (∀ W, Tab W → Calls Tryd.prog 40 #[.int .u32 X] W fun e w' => e = .returned (decVal (Hm.decC X)) ∧ Below W.heap.size W w') := fun W hT => decode_any hlay X W hT X0 X1
          have HCV : Hid _ := hcv
          have hk2 : ¬ ((M.par.length : Int) ≤ (k : Int) + 1) := by omega
          have hki2 : (0 : Int) ≤ (k : Int) + 1 ∧ (k : Int) + 1 < (M.par.length : Int) := by omega
          have hkn : ((k : Int) + 1).toNat = k + 1 := by omega
          clear hcv hwide h3 h31 hrk c0 hX
          generalize Hm.decC X = dd at *
          go_wp2_with fail
          generalize hW : w1.alloc _ = W2
          have HB2 : Hid (Below w1.heap.size w1 W2) := by rw [Hid, ← hW]; exact (Below.refl _ _).alloc (Nat.le_refl _) _
          have HX2 : Hid (∃ cs, W2.heap[w1.heap.size]? = some (.cells cs 23 (0, 0)) ∧ cs.size = 5) := by rw [Hid, ← hW]; exact ⟨_, heap_alloc_new _ _, rfl⟩
          have hsz2 : w1.heap.size < W2.heap.size := by rw [← hW]; simp
          have HT2 : Hid (Tabs W2) := (HT.out.below HB1.out (Nat.le_refl _)).below HB2.out (Nat.le_refl _)
          have hr2 : W2.cell? ⟨L.b, 34, none⟩ = some (.slice (some ⟨g, 0, none⟩) M.par.length cap) := by rw [HB2.out.cell hlt1]; exact hr1
          have g1 : W2.cell? ⟨g, (k + 1) * 2 + 1, none⟩ = some (.int .u16 r.2) := by rw [HB2.out.cell hgl1]; exact c1
          have d0' : W2.cell? ⟨w.heap.size, 0, none⟩ = some (.int .u32 p.1) := by rw [HB2.out.cell hsz1]; exact d0
          have d1' : W2.cell? ⟨w.heap.size, 1, none⟩ = some (.int .u16 p.2) := by rw [HB2.out.cell hsz1]; exact d1
          have HD0 : Hid (W2.cell? ⟨w.heap.size, 0, none⟩ = some (.int .u32 p.1)) := d0'
          have hwr : IntKind.i64.wrap ((k : Int) + 1) = (k : Int) + 1 := by rw [IntKind.wrap_i64]; omega
          have hp0 : (0 : Int) ≤ (k : Int) + 1 := by omega
          have hp1 : (k : Int) + 1 < (M.par.length : Int) := by omega
          clear hW d0 d1 hr1 c1 hki2
          go_region_with (go_at_call 40; rw [HOR.out]; refine (HDC.out W2.drew (HT2.out.tab.blocks (Nat.le_refl _) rfl)).mono ?_; rintro e w5 ⟨rfl, hb5⟩; unfold decVal; have HB5 : Hid (Below W2.heap.size W2 w5) := (Below.refl W2.heap.size W2).drew.trans hb5; obtain ⟨⟨v0, x0⟩, ⟨v1, x1⟩, ⟨v2, x2⟩, ⟨v3, x3⟩, ⟨v4, x4⟩, yf⟩ := five_cells HX2.out HB5.out hsz2; have f0 : w5.cell? ⟨w.heap.size, 0, none⟩ = some (.int .u32 p.1) := (by rw [HB5.out.cell (Nat.lt_trans hsz1 hsz2)]; exact HD0.out); clear hb5)
          all_goals (
            have HB6 : Hid (Below w.heap.size w w5) := HB1.out.trans ((HB2.out.trans (HB5.out.mono (Nat.le_of_lt hsz2))).mono (Nat.le_of_lt hsz1))
            have hne6 : (⟨w.heap.size, 0, none⟩ : Addr) ≠ ⟨w1.heap.size, 0, none⟩ := by intro e; injection e; omega
            have hblk : w1.heap.size ≠ w.heap.size := by omega
            clear d0' d1' g1 hr2 HD0
            go_wp2_with fail
            have hcall := fun W => m_workOf_any W (cmOf dd p.1 2)
            rw [HCV.out] at hcall
            refine (hcall _).mono ?_
            clear hcall
            rintro e w7 ⟨rfl, hb7⟩
            have HB7 : Hid (Below w.heap.size w w7) := (below5 HB6.out (Nat.le_of_lt hsz1) _ _ _ _ _).trans (hb7.mono (by simp [World.setCell]; exact HB6.out.size))
            clear hb7
            go_wp2
            go_ret
            refine ⟨?_, HB7.out⟩
            rw [HC.out]; rfl)
        · have HC : Hid (cutC M.par k = none) := by
            have e : M.par[k + 1]? = none := List.getElem?_eq_none (by omega)
            rw [Hid, cutC, HPK.out]; simp only [if_neg hwide, e]
          have hk2 : (M.par.length : Int) ≤ (k : Int) + 1 := by omega
          clear hwide h3 h31
          go_wp2
          go_ret
          refine ⟨?_, HB1.out.alloc (Nat.le_of_lt hsz1) _⟩
          rw [HC.out]; rfl
  · have hpk : M.par[k]? = none := List.getElem?_eq_none (by omega)
    obtain ⟨a, cap, hpv, _, _⟩ := h.pv_eq
    rw [hpv] at hr
    have HC : Hid (cutC M.par k = none) := by rw [Hid, cutC, hpk]
    rw [HC.out]
    have hki : (M.par.length : Int) ≤ (k : Int) := by omega
    clear h ht hp hpv hpk
    go_enter Tryd.func112, Tryd.ntmps112
    go_wp2
    go_ret
    exact ⟨rfl, Below.refl _ _⟩
end Go.Proofs.YtdcmdjeooklmjaaDoor
