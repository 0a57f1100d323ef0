/-
  NK NL NM in one text.
-/
import Derived.Test.YtdcmdjeooklmjaaDoorVF
import Derived.Test.YtdcmdjeooklmjaaDoorVG
import Derived.Test.YtdcmdjeooklmjaaDoorVH
set_option linter.unusedVariables false
set_option linter.unusedSimpArgs false
/-
  Walks: isPair, cutWorks.
-/
namespace Go.Proofs.YtdcmdjeooklmjaaDoor
open Go.RowKit Go.PageMap Go.Maps
/-- The work of c, as an interface value's type and content. -/
def wkOf (c : Cm) : Wk :=
  if c.op = 3 ∨ c.op = 4 then ⟨228, cmV c, c⟩ else
  if c.op = 5 ∨ c.op = 6 ∨ c.op = 7 ∨ c.op = 8 ∨ c.op = 9 ∨ c.op = 10 then ⟨229, cmV c, c⟩ else
  if c.op = 11 ∨ c.op = 12 ∨ c.op = 13 ∨ c.op = 14 ∨ c.op = 15 then ⟨230, cmV c, c⟩ else
  if c.op = 16 ∨ c.op = 17 ∨ c.op = 18 then ⟨185, cmV c, c⟩ else
  if c.op = 46 then ⟨231, cmV c, c⟩ else
  if c.op = 47 then ⟨183, haltV c 2, c⟩ else if c.op = 48 then ⟨183, haltV c 3, c⟩ else if c.op = 0 then ⟨183, haltV c 1, c⟩ else
  ⟨232, cmV c, c⟩
theorem wkOf_v (c : Cm) : workV c = .iface (wkOf c).T (wkOf c).pay := by
  unfold workV wkOf
  repeat' split
  all_goals rfl
theorem wkOf_c (c : Cm) : (wkOf c).c = c := by
  unfold wkOf
  repeat' split
  all_goals rfl
theorem wkOf_is (c : Cm) : IsWork (wkOf c).T (wkOf c).pay (wkOf c).c := by
  unfold wkOf
  repeat' split
  · exact isWork_jump c
  · exact isWork_branch c
  · exact isWork_load c
  · exact isWork_store c
  · exact isWork_pause c
  · exact isWork_halt c 2
  · exact isWork_halt c 3
  · exact isWork_halt c 1
  · exact isWork_compute c
def secC (op : Int) : Int := if op = 1 ∨ op = 2 then 19 else if op = 25 then 26 else 0
def pairC (c d : Cm) : Bool := decide (c.rd ≠ 0 ∧ d.rd = c.rd ∧ d.rs1 = c.rd ∧ d.op = secC c.op)
/-- What is done in a tick. -/
def worksC (M : Mc) : List Cm :=
  match cutC M.par 0 with
  | none => []
  | some c => if M.fuse then (match cutC M.par c.n with | none => [c] | some d => if pairC c d then [c, d] else [c]) else [c]
set_option maxRecDepth 100000
theorem m_secondOf_any (op : Int) (w : World) : Calls Tryd.prog 132 #[.int .i64 op] w fun e w' => e = .returned (.int .i64 (secC op)) ∧ w' = w := by
  go_enter Tryd.func132, Tryd.ntmps132
  go_wp2
  all_goals (go_ret; refine ⟨?_, rfl⟩; simp_all [secC])
theorem nil_iface (T : TypeId) (p : Value) (w : World) : (binOp .eql 178 (.iface T p) .nilIface).run Tryd.prog w = .ok (.bool false) w := by rfl
theorem nil_nil (w : World) : (binOp .eql 178 .nilIface .nilIface).run Tryd.prog w = .ok (.bool true) w := by rfl
/-- The slice that cutWorks answers. -/
def WorksV (w : World) (v : Value) (cs : List Cm) : Prop := (cs = [] ∧ v = .slice none 0 0) ∨ (cs ≠ [] ∧ ∃ g, v = .slice (some ⟨g, 0, none⟩) cs.length cs.length ∧ WorksAt w g (cs.map wkOf))
theorem cut_ok {M : Mc} {k : Nat} {c : Cm} (hp : ParOk M.par) (h : cutC M.par k = some c) : CmOk c := by
  unfold cutC at h
  split at h
  · cases h
  · rename_i p hpk
    obtain ⟨p0, p1, p2, p3⟩ := hp p (List.mem_of_getElem? hpk)
    split at h
    · injection h with h; rw [← h]; exact cmOf_ok (exp_ok _) p0 p1 (.inl rfl)
    · split at h
      · cases h
      · injection h with h; rw [← h]; exact cmOf_ok (dec_ok _) p0 p1 (.inr rfl)
theorem worksAt_one (w : World) (c : Cm) (hc : CmOk c) : WorksAt (w.alloc (.cells #[.iface (wkOf c).T (wkOf c).pay] 178)) w.heap.size ([c].map wkOf) where
  lt := by simp
  cell := fun i hi => by
    obtain rfl : i = 0 := by simp at hi; omega
    simp
  work := fun x hx => by
    simp at hx; subst hx; exact wkOf_is c
  ok := fun x hx => by
    simp at hx; subst hx; rw [wkOf_c]; exact hc
set_option maxHeartbeats 2000000 in
theorem m_cutWorks_nofuse (w : World) (L : Lay) (M : Mc) (h : At w L M) (ht : Tabs w) (hp : ParOk M.par) (hl : M.par.length ≤ 100) (hf : M.fuse = false) :
    Calls Tryd.prog 82 #[.pointer (some ⟨L.b, 0, none⟩)] w fun e w' => ∃ v, e = .returned v ∧ WorksV w' v (worksC M) ∧ Below w.heap.size w w' ∧ ∀ g, v.ownBlock = some g → w.heap.size ≤ g := by
  have hlt := h.cells.lt
  have HA : Hid (At w L M) := h
  have HT : Hid (Tabs w) := ht
  have HPO : Hid (ParOk M.par) := hp
  clear h ht hp
  have hn1 := nil_iface
  have hn2 := nil_nil
  cases hc : cutC M.par 0 with
  | none =>
    have HW : Hid (worksC M = []) := by rw [Hid, worksC, hc]
    have HC : Hid (cutC M.par 0 = none) := hc
    clear hc
    go_enter Tryd.func82, Tryd.ntmps82
    go_wp2_with (go_at_call 112; refine (m_cut_any w L M 0 HA.out HT.out HPO.out hl (by decide)).mono ?_; rintro e w1 ⟨rfl, hb1⟩; rw [HC.out]; unfold cutV; have HB1 : Hid (Below w.heap.size w w1) := hb1; clear hb1; dsimp only)
    go_ret
    exact ⟨_, rfl, .inl ⟨HW.out, rfl⟩, HB1.out, fun g hg => by cases hg⟩
  | some c =>
    have HW : Hid (worksC M = [c]) := by rw [Hid, worksC, hc]; simp [hf]
    have HC : Hid (cutC M.par 0 = some c) := hc
    have HV : Hid (workV c = .iface (wkOf c).T (wkOf c).pay) := wkOf_v c
    have HK : Hid (CmOk c) := cut_ok HPO.out hc
    clear hc
    go_enter Tryd.func82, Tryd.ntmps82
    go_wp2_with (go_at_call 112; refine (m_cut_any w L M 0 HA.out HT.out HPO.out hl (by decide)).mono ?_; rintro e w1 ⟨rfl, hb1⟩; rw [HC.out]; unfold cutV; dsimp only; rw [HV.out]; have HB1 : Hid (Below w.heap.size w w1) := hb1; have hfu : w1.cell? ⟨L.b, 38, none⟩ = some (.bool false) := (by rw [← hf]; exact (HA.out.below hb1 (Nat.le_refl _)).fuse); clear hb1)
    go_ret
    refine ⟨_, rfl, .inr ⟨by rw [HW.out]; simp, w1.heap.size, by rw [HW.out]; rfl, by rw [HW.out]; exact worksAt_one w1 c HK.out⟩, HB1.out.alloc HB1.out.size _, fun g hg => ?_⟩
    have e : w1.heap.size = g := Option.some.inj hg
    rw [← e]; exact HB1.out.size
end Go.Proofs.YtdcmdjeooklmjaaDoor

/-
  Walks: Tick, where one compute is done and FUSES is no.
-/
namespace Go.Proofs.YtdcmdjeooklmjaaDoor
open Go.RowKit Go.PageMap Go.Maps
def IsComp (op : Int) : Prop := op = 1 ∨ op = 2 ∨ (19 ≤ op ∧ op ≤ 45)
theorem wkOf_comp {c : Cm} (h : IsComp c.op) : wkOf c = ⟨232, cmV c, c⟩ := by
  unfold IsComp at h
  unfold wkOf
  rw [if_neg (by omega), if_neg (by omega), if_neg (by omega), if_neg (by omega), if_neg (by omega), if_neg (by omega), if_neg (by omega), if_neg (by omega)]
/-- What a compute makes of a machine. -/
def Mc.comp (M : Mc) (c : Cm) : Mc := { M.put c.rd (resC c (M.regs c.rs1) (opdC M c)) with pc := c.next }
theorem Tabs.steps {L L' : Lay} {w w' : World} {M : Mc} (h : Tabs w) (ha : At w L M) (hs : Steps L w L' w') : Tabs w' where
  tab := h.tab.steps ha hs
  lt := Nat.lt_of_lt_of_le h.lt hs.size
  row := fun k hk j v hv => by
    have hb := hs.block _ h.lt (fun hf => Nat.lt_irrefl _ (ha.high _ hf).2)
    rw [World.cell?_of_block (w := w) (w' := w') (a := ⟨0, k * 8 + j, none⟩) hb]; exact h.row k hk j v hv
theorem Tabs.gl {w : World} (h : Tabs w) : Gl w := ⟨h.tab.1, h.lt⟩
theorem worksV_one {w : World} {v : Value} {c : Cm} (h : WorksV w v [c]) : ∃ g, v = .slice (some ⟨g, 0, none⟩) 1 1 ∧ WorksAt w g [wkOf c] := by
  rcases h with ⟨h, _⟩ | ⟨_, g, rfl, hW⟩
  · cases h
  · exact ⟨g, rfl, hW⟩
set_option maxRecDepth 100000
/-- doWorks of one compute. -/
theorem doComp (w : World) (L : Lay) (N : Mc) (c : Cm) (g : Nat) (h : At w L N) (ht : Tabs w) (hW : WorksAt w g [wkOf c]) (hc : IsComp c.op) (hk : CmOk c) (hr : RegsOk N) (hcn : c.n ≤ N.par.length) (hnf : ¬ L.foot g) :
    Calls Tryd.prog 81 #[.pointer (some ⟨L.b, 0, none⟩), .slice (some ⟨g, 0, none⟩) 1 1] w fun e w' => e = .returned (.tuple #[]) ∧ ∃ L', At w' L' (({ N.comp c with done := wrap64 ((N.comp c).done + 1) } : Mc).clear false c c.n) ∧ Steps L w L' w' := by
  have hwc : (wkOf c).c = c := wkOf_c c
  have hpar : (N.comp c).par = N.par := by unfold Mc.comp Mc.put; split <;> rfl
  have hsum : sumN [wkOf c] = c.n := by simp [sumN, hwc]
  have key := m_doWorks_compute w L [wkOf c] g (fun k => if k = 0 then N else { N.comp c with done := wrap64 ((N.comp c).done + 1) }) (fun _ => N.comp c) h ht.tab ht.gl hW
    (fun x hx => by simp at hx; subst hx; rw [wkOf_comp hc]; exact ⟨rfl, rfl⟩) (by simp) (by simp) (by rw [hsum]; show c.n ≤ (N.comp c).par.length; rw [hpar]; exact hcn) hnf
    (fun k hk' w1 L1 h1 ht1 hz1 => by
      obtain rfl : k = 0 := by simp at hk'; omega
      have := m_compute_do w1 L1 N c h1 ht1 hk hr
      simp only [List.getElem_cons_zero, hwc]
      exact this.mono fun e w' ⟨he, ha, hs⟩ => ⟨he, L1, ha, hs⟩)
    (fun k hk' => by
      obtain rfl : k = 0 := by simp at hk'; omega
      rfl)
  refine key.mono fun e w' ⟨he, L', ha, hs⟩ => ⟨he, L', ?_, hs⟩
  have e1 : ([wkOf c][[wkOf c].length - 1]'(by simp)).c = c := hwc
  rw [hsum, e1] at ha
  exact ha
set_option maxHeartbeats 2000000 in
theorem m_Tick_comp (w : World) (L : Lay) (M : Mc) (c : Cm) (h : At w L M) (ht : Tabs w) (hm : MemOk M.mem) (hl : LineOk M.line) (ha : 0 ≤ M.ahead ∧ M.ahead < 4294967296) (hp : M.par.length ≤ 48) (hca : M.cause = 0) (hf : M.fuse = false)
    (hpo : ParOk M.fetch.par) (hpl : M.fetch.par.length ≤ 100) (hcut : cutC M.fetch.par 0 = some c) (hcn : c.n ≤ M.fetch.par.length) (hc : IsComp c.op) (hr : RegsOk M) :
    Calls Tryd.prog 56 #[.pointer (some ⟨L.b, 0, none⟩), .bool false, .bool false] w fun e w' => e = .returned (.tuple #[]) ∧ ∃ L', At w' L' (({ M.fetch.comp c with done := wrap64 ((M.fetch.comp c).done + 1) } : Mc).clear false c c.n) ∧ Steps L w L' w' := by
  have hcause : (M.cause != 0) = false := by simp [hca]
  have HA : Hid (At w L M) := h
  have HT : Hid (Tabs w) := ht
  have HFE : Hid (MemOk M.mem ∧ LineOk M.line ∧ (0 ≤ M.ahead ∧ M.ahead < 4294967296)) := ⟨hm, hl, ha⟩
  obtain ⟨N, hN⟩ : ∃ N, N = M.fetch := ⟨_, rfl⟩
  have hNf : N.fuse = false ∧ RegsOk N := by
    have h1 : ∀ n, (M.fetchN n).fuse = M.fuse ∧ (M.fetchN n).regs = M.regs := by
      intro n
      induction n with
      | zero => exact ⟨rfl, rfl⟩
      | succ n ih => exact ih
    rw [hN]
    unfold Mc.fetch
    split
    · exact ⟨by rw [(h1 _).1, hf], fun k => by rw [(h1 _).2]; exact hr k⟩
    · exact ⟨hf, hr⟩
  rw [← hN] at hpo hpl hcut hcn ⊢
  have hw : worksC N = [c] := by rw [worksC, hcut]; simp [hNf.1]
  have HNN : Hid (N = M.fetch) := hN
  have HN2 : Hid (ParOk N.par ∧ RegsOk N ∧ worksC N = [c] ∧ c.n ≤ N.par.length ∧ N.fuse = false ∧ CmOk c) := ⟨hpo, hNf.2, hw, hcn, hNf.1, cut_ok hpo hcut⟩
  have HC : Hid (IsComp c.op) := hc
  clear h ht hm hl ha hN hNf hpo hcut hcn hw hc hr hf hca
  go_enter Tryd.func56, Tryd.ntmps56
  go_wp2_with (first
    | (go_at_call 79; refine (m_halted_any w L M HA.out).mono ?_; rintro e w0 ⟨rfl, hw0⟩; rw [hw0]; clear hw0 w0)
    | (go_at_call 80; refine (m_fetchLine_any w L M HA.out HT.out.gl HFE.out.1 HFE.out.2.1 HFE.out.2.2 hp).mono ?_; rintro e w1 ⟨rfl, L1, hA1, hS1⟩; have HA1 : Hid (At w1 L1 N) := (by rw [HNN.out]; exact hA1); have HS1 : Hid (Steps L w L1 w1) := hS1; have HT1 : Hid (Tabs w1) := HT.out.steps HA.out hS1; clear hA1 hS1)
    | (go_at_call 82; have hcall := m_cutWorks_nofuse w1 L1 N HA1.out HT1.out HN2.out.1 hpl HN2.out.2.2.2.2.1; rw [HS1.out.b] at hcall; refine hcall.mono ?_; clear hcall; rintro e w2 ⟨v, rfl, hv, hb2, hg2⟩; rw [HN2.out.2.2.1] at hv; obtain ⟨g, rfl, hW⟩ := worksV_one hv; have HV : Hid (WorksAt w2 g [wkOf c] ∧ Below w1.heap.size w1 w2 ∧ w1.heap.size ≤ g) := ⟨hW, hb2, hg2 g rfl⟩; clear hv hb2 hg2 hW)
    | (go_at_call 81; have hcall := doComp w2 L1 N c g (HA1.out.below HV.out.2.1 (Nat.le_refl _)) (HT1.out.below HV.out.2.1 (Nat.le_refl _)) HV.out.1 HC.out HN2.out.2.2.2.2.2 HN2.out.2.1 HN2.out.2.2.2.1 (fun hf => by have := HA1.out.foot_lt hf; have := HV.out.2.2; omega); rw [HS1.out.b] at hcall; refine hcall.mono ?_; clear hcall; rintro e w3 ⟨rfl, L3, hA3, hS3⟩; have HA3 : Hid (At w3 L3 (({ N.comp c with done := wrap64 ((N.comp c).done + 1) } : Mc).clear false c c.n)) := hA3; have HS3 : Hid (Steps L w L3 w3) := HS1.out.trans ((Steps.below HV.out.2.1).trans hS3); clear hA3 hS3))
  go_end0
  exact ⟨rfl, L3, HA3.out, HS3.out⟩
end Go.Proofs.YtdcmdjeooklmjaaDoor

/-
  Walks: Poke, New, Look.
-/
namespace Go.Proofs.YtdcmdjeooklmjaaDoor
open Go.RowKit Go.PageMap Go.Maps
set_option maxRecDepth 100000
set_option maxHeartbeats 2000000 in
theorem m_Poke_any (w : World) (L : Lay) (M : Mc) (a : Int) (s : ByteArray) (h : At w L M) (hz : Gl w) (a0 : 0 ≤ a) (a1 : a < 4294967296) :
    Calls Tryd.prog 78 #[.pointer (some ⟨L.b, 0, none⟩), .int .u32 a, .string s] w fun e w' => e = .returned (.tuple #[]) ∧ ∃ L', At w' L' { M with mem := wrL M.mem a s.data.toList, par := [], ahead := M.pc } ∧ Steps L w L' w' := by
  have HA : Hid (At w L M) := h
  have HZ : Hid (Gl w) := hz
  clear h hz
  go_enter Tryd.func78, Tryd.ntmps78
  go_wp2_with (go_at_call 105; refine (m_write_any w L M a s HA.out HZ.out a0 a1).mono ?_; rintro e w1 ⟨rfl, L1, hA1, hS1⟩; have HA1 : Hid (At w1 L1 { M with mem := wrL M.mem a s.data.toList }) := hA1; have HS1 : Hid (Steps L w L1 w1) := hS1; have hpc : w1.cell? ⟨L.b, 0, none⟩ = some (.int .u32 M.pc) := (by rw [← hS1.b]; exact hA1.pc); clear hA1 hS1)
  go_region_with (go_at_call 106; have hcall := m_restart_any w1.drew L1 _ M.pc HA1.out.drew; rw [HS1.out.b] at hcall; refine hcall.mono ?_; clear hcall; rintro e w2 ⟨rfl, L2, hA2, hS2⟩; have HA2 : Hid (At w2 L2 { M with mem := wrL M.mem a s.data.toList, par := [], ahead := M.pc }) := hA2; have HS2 : Hid (Steps L w L2 w2) := HS1.out.trans ((Steps.drew L1 w1).trans hS2); clear hA2 hS2)
  all_goals go_wp2
  all_goals go_end0
  all_goals exact ⟨rfl, L2, HA2.out, HS2.out⟩
/-- A machine behind its handle. -/
structure HAt (w : World) (p : Nat) (L : Lay) (M : Mc) : Prop where
  at' : At w L M
  cell : w.cell? ⟨p, 0, none⟩ = some (.pointer (some ⟨L.b, 0, none⟩))
  out : ¬ L.foot p
  lt : p < w.heap.size
theorem HAt.steps {w w' : World} {p : Nat} {L L' : Lay} {M M' : Mc} (h : HAt w p L M) (ha : At w' L' M') (hs : Steps L w L' w') : HAt w' p L' M' where
  at' := ha
  cell := by rw [World.cell?_of_block (w := w) (a := ⟨p, 0, none⟩) (hs.block p h.lt h.out), h.cell, hs.b]
  out := fun hf => (hs.foot p hf).elim h.out (fun h1 => by have := h.lt; omega)
  lt := Nat.lt_of_lt_of_le h.lt hs.size
theorem HAt.below {w w' : World} {p : Nat} {L : Lay} {M : Mc} (h : HAt w p L M) (hb : Below w.heap.size w w') : HAt w' p L M := h.steps (h.at'.below hb (Nat.le_refl _)) (Steps.below hb)
theorem h_Poke_any (w : World) (p : Nat) (L : Lay) (M : Mc) (a : Int) (s : ByteArray) (h : HAt w p L M) (hz : Gl w) (a0 : 0 ≤ a) (a1 : a < 4294967296) :
    Calls Tryd.prog 55 #[.pointer (some ⟨p, 0, none⟩), .int .u32 a, .string s] w fun e w' => e = .returned (.tuple #[]) ∧ ∃ L', HAt w' p L' { M with mem := wrL M.mem a s.data.toList, par := [], ahead := M.pc } ∧ Steps L w L' w' := by
  have hc := h.cell
  have HA : Hid (HAt w p L M) := h
  have HZ : Hid (Gl w) := hz
  clear h hz
  go_enter Tryd.func55, Tryd.ntmps55
  go_wp2_with (go_at_call 78; refine (m_Poke_any w L M a s HA.out.at' HZ.out a0 a1).mono ?_; rintro e w1 ⟨rfl, L1, hA1, hS1⟩; have HA1 : Hid (HAt w1 p L1 { M with mem := wrL M.mem a s.data.toList, par := [], ahead := M.pc }) := HA.out.steps hA1 hS1; have HS1 : Hid (Steps L w L1 w1) := hS1; clear hA1 hS1)
  go_end0
  exact ⟨rfl, L1, HA1.out, HS1.out⟩
end Go.Proofs.YtdcmdjeooklmjaaDoor
