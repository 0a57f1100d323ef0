/-
  O9 OF OL in one text.
-/
import Derived.Test.YtdcmdjeooklmjaaDoorWH
import Derived.Test.YtdcmdjeooklmjaaDoorWI
set_option linter.unusedVariables false
set_option linter.unusedSimpArgs false
/-
  Each tick does none, one or two instructions of the one machine that does one after the other.
-/
namespace Go.Proofs.YtdcmdjeooklmjaaDoor
open Go.RowKit Go.PageMap Go.Maps
set_option maxRecDepth 100000
theorem instAt_pc (mem : Int → Int) (pc : Int) : (instAt mem pc).pc = pc := by unfold instAt; split <;> rfl
theorem instAt_even (mem : Int → Int) (pc : Int) (hm : MemOk mem) (h : Hm.distOp (instAt mem pc).op) : (instAt mem pc).imm % 2 = 0 := by
  have h0 := num2 hm pc
  have h2 := num2 hm ((pc + 2) % 4294967296)
  unfold instAt at h ⊢
  split at h
  · rename_i hc
    rw [if_pos hc]
    exact Hm.exp_even _ h
  · rename_i hc
    rw [if_neg hc]
    exact Hm.dec_even _ (by omega) (by omega) h
theorem instAt_n (mem : Int → Int) (pc : Int) : (instAt mem pc).n = 1 ∨ (instAt mem pc).n = 2 := by unfold instAt; split; exact .inl rfl; exact .inr rfl
theorem instAt_op (mem : Int → Int) (pc : Int) : 0 ≤ (instAt mem pc).op ∧ (instAt mem pc).op ≤ 48 := by
  unfold instAt
  split
  · exact ⟨(exp_op _).1, (exp_op _).2.1⟩
  · exact ⟨(dec_op _).1, (dec_op _).2.1⟩
theorem next_even {c : Cm} (h : c.pc % 2 = 0) : c.next % 2 = 0 := by unfold Cm.next; omega
/-- PC behind an instruction. -/
theorem doK_pc (M : Mc) (c : Cm) (hp : c.pc % 2 = 0) (hi : Hm.distOp c.op → c.imm % 2 = 0) : 0 ≤ (M.doK c).pc ∧ (M.doK c).pc < 4294967296 ∧ (M.doK c).pc % 2 = 0 := by
  have hn := next_bd c
  have he := next_even hp
  have ht : 0 ≤ targetC M c ∧ targetC M c < 4294967296 ∧ (c.op = 3 ∨ c.op = 4 → targetC M c % 2 = 0) := by
    unfold targetC
    split
    · rename_i h3
      have := hi (.inl h3)
      omega
    · have : 0 ≤ addrC M c ∧ addrC M c < 4294967296 := by unfold addrC; omega
      omega
  unfold Mc.doK Mc.comp
  split
  · rename_i h; exact ⟨ht.1, ht.2.1, ht.2.2 h⟩
  split
  · rename_i h
    have := hi (.inr (by omega))
    dsimp only
    split
    · omega
    · exact ⟨hn.1, hn.2, he⟩
  repeat' split
  all_goals exact ⟨hn.1, hn.2, he⟩
theorem doK_mem (M : Mc) {c : Cm} (h : isStC c.op = false) : (M.doK c).mem = M.mem := by
  have hs : ¬ (c.op = 16 ∨ c.op = 17 ∨ c.op = 18) := by unfold isStC at h; simpa using h
  unfold Mc.doK Mc.comp
  repeat' split
  all_goals first | rfl | exact (put_rest M c.rd _).1 | exact absurd (by assumption) hs
/-- What a tick did. -/
inductive Did (M N : Mc) : Prop where
  | none (h : Arch M N)
  | halt (h0 : M.cause = 0) (hh : haltC (instAt M.mem M.pc).op ≠ 0) (h : Arch M.seq N)
  | one (h0 : M.cause = 0) (hh : haltC (instAt M.mem M.pc).op = 0) (h : Arch M.seq N)
  | two (h0 : M.cause = 0) (hh : haltC (instAt M.mem M.pc).op = 0) (hf : M.fuse = true) (hc : M.seq.cause = 0) (hh2 : haltC (instAt M.seq.mem M.seq.pc).op = 0) (h : Arch M.seq.seq N)
theorem clear_good {M : Mc} {c : Cm} {n k : Nat} {b : Bool} (hr : RegsOk M) (hm : MemOk M.mem) (hl : LineOk M.line) (p0 : 0 ≤ M.pc) (p1 : M.pc < 4294967296) (pe : M.pc % 2 = 0) {mem : Int → Int} {pc : Int} (hn : n ≤ 48) (hp : M.par = parsAt mem pc n) (ha : M.ahead = (pc + 2 * (n : Int)) % 4294967296)
    (hb : b = false → M.mem = mem) (hx : c.next = (pc + 2 * (k : Int)) % 4294967296) (hk : k ≤ n) : Good (M.clear b c k) := by
  unfold Mc.clear
  split
  · exact ⟨hr, hm, hl, p0, p1, pe, 0, by omega, rfl, by show M.pc = (M.pc + 2 * ((0 : Nat) : Int)) % 4294967296; omega⟩
  · rename_i h
    have h1 : ¬ b = true := fun e => h (.inl e)
    have h2 : M.pc = c.next := Classical.byContradiction fun e => h (.inr e)
    have hb' := hb (by cases b; rfl; exact absurd rfl h1)
    refine ⟨hr, hm, hl, p0, p1, pe, n - k, by omega, ?_, ?_⟩
    · show M.par.drop k = parsAt M.mem M.pc (n - k)
      rw [hp, parsAt_drop, hb', h2, hx]
    · show M.ahead = (M.pc + 2 * ((n - k : Nat) : Int)) % 4294967296
      rw [ha, h2, hx]; omega
theorem works_did {M : Mc} (h : Good M) (h0 : M.cause = 0) : Good (M.works (worksC M)) ∧ Did M (M.works (worksC M)) ∧ (M.works (worksC M)).line = M.line ∧ (M.works (worksC M)).fuse = M.fuse := by
  obtain ⟨n, hn, hp, ha⟩ := h.buf
  have hw := wks M
  have hone : ∀ N : Mc, Good N → N.cause = 0 → haltC (instAt N.mem N.pc).op = 0 → N.seq = N.one (instAt N.mem N.pc) := fun N _ hc hh => by
    unfold Mc.seq; rw [if_neg (by simp [hc]), if_neg (by simp [hh])]
  generalize worksC M = cs at *
  cases hw with
  | none _ => exact ⟨h, .none (Arch.refl M), rfl, rfl⟩
  | one c hc =>
    rw [hp] at hc
    have hf := cut_facts hc
    have e := cut_at hc
    have e' : c = instAt M.mem M.pc := by rw [e]; congr 1; have := h.pc0; have := h.pc1; omega
    have hpc : c.pc = M.pc := by rw [e', instAt_pc]
    by_cases hh : haltC c.op ≠ 0
    · have e1 : M.works [c] = { M with cause := haltC c.op } := by show (if haltC c.op ≠ 0 then _ else _) = _; rw [if_pos hh]
      rw [e1]
      refine ⟨⟨h.regs, h.mem, h.line, h.pc0, h.pc1, h.even, n, hn, hp, ha⟩, .halt h0 (by rw [← e']; exact hh) ?_, rfl, rfl⟩
      have : M.seq = { M with cause := haltC c.op } := by unfold Mc.seq; rw [if_neg (by simp [h0]), if_pos (by rw [← e']; exact hh), ← e']
      rw [this]; exact Arch.refl _
    · have hh' : haltC c.op = 0 := Classical.byContradiction hh
      have e1 : M.works [c] = (M.one c).clear (isStC c.op) c c.n := by show (if haltC c.op ≠ 0 then _ else _) = _; rw [if_neg hh]
      rw [e1]
      obtain ⟨hr, hd⟩ := one_rest M c
      obtain ⟨g1, g2⟩ := doK_regs M c h.regs h.mem
      obtain ⟨p0, p1, pe⟩ := doK_pc M c (by rw [hpc]; exact h.even) (by rw [e']; exact instAt_even _ _ h.mem)
      have hlen := hf.len
      rw [parsAt_len] at hlen
      refine ⟨clear_good (n := n) (mem := M.mem) (pc := M.pc) g1 g2 (by rw [hr.line]; exact h.line) p0 p1 pe hn (by rw [hr.par]; exact hp) (by rw [hr.ahead]; exact ha) (fun hb => doK_mem M hb) (by unfold Cm.next; rw [hpc]) (by omega), .one h0 (by rw [← e']; exact hh') ?_, ?_, ?_⟩
      · rw [hone M h h0 (by rw [← e']; exact hh'), ← e']
        exact clear_arch _ _ _ _
      · unfold Mc.clear; split <;> exact hr.line
      · unfold Mc.clear; split <;> exact hr.fuse
  | two c d hc hd hfu hpr =>
    rw [hp] at hc hd
    have hf := cut_facts hc
    have hg := cut_facts hd
    obtain ⟨ic, id⟩ := pair_ops hg hpr
    have e := cut_at hc
    have e' : c = instAt M.mem M.pc := by rw [e]; congr 1; have := h.pc0; have := h.pc1; omega
    have hpc : c.pc = M.pc := by rw [e', instAt_pc]
    have hnx : c.next = (M.pc + 2 * (c.n : Int)) % 4294967296 := by unfold Cm.next; rw [hpc]
    have ed := cut_at hd
    rw [← hnx] at ed
    have hpd : d.pc = c.next := by rw [ed, instAt_pc]
    have nst : ∀ {x : Cm}, IsComp x.op → isStC x.op = false ∧ haltC x.op = 0 := fun {x} hx => by
      unfold IsComp at hx
      refine ⟨by unfold isStC; simp; omega, by unfold haltC; rw [if_neg (by omega), if_neg (by omega), if_neg (by omega)]⟩
    have comp_pc : ∀ (N : Mc) {x : Cm}, IsComp x.op → (N.one x).pc = x.next := fun N {x} hx => by
      show (N.doK x).pc = _
      rw [doK_comp N hx]; rfl
    obtain ⟨hr1, hd1⟩ := one_rest M c
    obtain ⟨hr2, hd2⟩ := one_rest (M.one c) d
    obtain ⟨g1, g2⟩ := doK_regs M c h.regs h.mem
    obtain ⟨k1, k2⟩ := doK_regs (M.one c) d g1 g2
    have m1 : (M.one c).mem = M.mem := doK_mem M (nst ic).1
    have m2 : ((M.one c).one d).mem = M.mem := (doK_mem (M.one c) (nst id).1).trans m1
    have ne1 : c.next % 2 = 0 := next_even (by rw [hpc]; exact h.even)
    have ne2 : d.next % 2 = 0 := next_even (by rw [hpd]; exact ne1)
    have nb := next_bd d
    have hlen := hg.len
    rw [parsAt_len] at hlen
    have hs1 : M.seq = M.one c := by rw [hone M h h0 (by rw [← e']; exact (nst ic).2), ← e']
    have hci : instAt (M.one c).mem (M.one c).pc = d := by rw [m1, comp_pc M ic]; exact ed.symm
    have hc1 : (M.one c).cause = 0 := by rw [hr1.cause]; exact h0
    have hs2 : (M.one c).seq = (M.one c).one d := by
      unfold Mc.seq; rw [if_neg (by simp [hc1]), hci, if_neg (by simp [(nst id).2])]
    show Good (((M.one c).one d).clear false d (c.n + d.n)) ∧ Did M (((M.one c).one d).clear false d (c.n + d.n)) ∧ _ ∧ _
    refine ⟨clear_good (n := n) (mem := M.mem) (pc := M.pc) k1 k2 (by rw [hr2.line, hr1.line]; exact h.line) (by rw [comp_pc _ id]; exact nb.1) (by rw [comp_pc _ id]; exact nb.2) (by rw [comp_pc _ id]; exact ne2) hn (by rw [hr2.par, hr1.par]; exact hp) (by rw [hr2.ahead, hr1.ahead]; exact ha) (fun _ => m2) (by
        show (d.pc + 2 * (d.n : Int)) % 4294967296 = _
        rw [hpd, hnx]; push_cast; omega) hlen, .two h0 (by rw [← e']; exact (nst ic).2) hfu (by rw [hs1]; exact hc1) (by rw [hs1, hci]; exact (nst id).2) (by rw [hs1, hs2]; exact clear_arch _ _ _ _), ?_, ?_⟩
    · show (((M.one c).one d).clear false d (c.n + d.n)).line = _
      unfold Mc.clear; split <;> exact hr2.line.trans hr1.line
    · show (((M.one c).one d).clear false d (c.n + d.n)).fuse = _
      unfold Mc.clear; split <;> exact hr2.fuse.trans hr1.fuse
end Go.Proofs.YtdcmdjeooklmjaaDoor

/-
  A tick of any machine: what it does, and that two that stall nothing do an instruction.
-/
namespace Go.Proofs.YtdcmdjeooklmjaaDoor
open Go.RowKit Go.PageMap Go.Maps
set_option maxRecDepth 100000
/-- The instructions of the one machine that does one after the other. -/
def Mc.seqs (M : Mc) : Nat → Mc
  | 0 => M
  | n + 1 => (M.seqs n).seq
theorem seqs_add (M : Mc) (a b : Nat) : M.seqs (a + b) = (M.seqs a).seqs b := by
  induction b with
  | zero => rfl
  | succ b ih => rw [← Nat.add_assoc]; show (M.seqs (a + b)).seq = _; rw [ih]; rfl
theorem Arch.seqs {M N : Mc} (h : Arch M N) (k : Nat) : Arch (M.seqs k) (N.seqs k) := by
  induction k with
  | zero => exact h
  | succ k ih => exact ih.seq
theorem seq_halted {M : Mc} (h : M.cause ≠ 0) : M.seq = M := by unfold Mc.seq; rw [if_pos h]
theorem seqs_halted {M : Mc} (h : M.cause ≠ 0) (k : Nat) : M.seqs k = M := by
  induction k with
  | zero => rfl
  | succ k ih => show (M.seqs k).seq = M; rw [ih, seq_halted h]
/-- What an instruction does to the count. -/
theorem seq_done (M : Mc) (h0 : M.cause = 0) : (haltC (instAt M.mem M.pc).op ≠ 0 → M.seq.cause ≠ 0 ∧ M.seq.done = M.done ∧ M.seq.pc = M.pc ∧ M.seq.regs = M.regs ∧ M.seq.mem = M.mem) ∧ (haltC (instAt M.mem M.pc).op = 0 → M.seq.cause = 0 ∧ M.seq.done = wrap64 (M.done + 1)) := by
  unfold Mc.seq
  rw [if_neg (by simp [h0])]
  constructor
  · intro h; rw [if_pos h]; exact ⟨h, rfl, rfl, rfl, rfl⟩
  · intro h; rw [if_neg (by simp [h])]
    obtain ⟨hr, hd⟩ := one_rest M (instAt M.mem M.pc)
    exact ⟨hr.cause.trans h0, hd⟩
theorem fet_rest {M : Mc} (f : Bool) (h : Good M) : (M.fet f).line = M.line ∧ (M.fet f).fuse = M.fuse := by
  obtain ⟨_, _, h2, _, _, _, _, h7⟩ := fet_ok M f h.ok
  exact ⟨h7, h2⟩
theorem Did.pre {M N P : Mc} (h : Arch M N) (hf : N.fuse = M.fuse) (d : Did N P) : Did M P := by
  have hs := h.seq
  cases d with
  | none k => exact .none (h.trans k)
  | halt h0 hh k => exact .halt (h.cause ▸ h0) (by rw [← h.mem, ← h.pc]; exact hh) (hs.trans k)
  | one h0 hh k => exact .one (h.cause ▸ h0) (by rw [← h.mem, ← h.pc]; exact hh) (hs.trans k)
  | two h0 hh hfu hc hh2 k => exact .two (h.cause ▸ h0) (by rw [← h.mem, ← h.pc]; exact hh) (hf ▸ hfu) (by rw [← hs.cause]; exact hc) (by rw [← hs.mem, ← hs.pc]; exact hh2) (hs.seq.trans k)
theorem tick_did {M : Mc} (f r : Bool) (h : Good M) : Good (M.tick f r) ∧ Did M (M.tick f r) ∧ (M.tick f r).line = M.line ∧ (M.tick f r).fuse = M.fuse := by
  obtain ⟨hl, hf⟩ := fet_rest f h
  have ha := fet_arch f h
  have hg := fet_good f h
  unfold Mc.tick
  split
  · exact ⟨h, .none (Arch.refl M), rfl, rfl⟩
  · rename_i hc
    have h0 : M.cause = 0 := Classical.byContradiction hc
    cases r with
    | true => exact ⟨hg, .none ha, hl, hf⟩
    | false =>
      obtain ⟨k1, k2, k3, k4⟩ := works_did hg (ha.cause.trans h0)
      exact ⟨k1, k2.pre ha hf, k3.trans hl, k4.trans hf⟩
theorem did_seqs {M N : Mc} (d : Did M N) : ∃ j : Nat, j ≤ 2 ∧ Arch (M.seqs j) N := by
  cases d with
  | none k => exact ⟨0, by omega, k⟩
  | halt _ _ k => exact ⟨1, by omega, k⟩
  | one _ _ k => exact ⟨1, by omega, k⟩
  | two _ _ _ _ _ k => exact ⟨2, by omega, k⟩
theorem tick_stop {M : Mc} (f r : Bool) (h : M.cause ≠ 0) : M.tick f r = M := by unfold Mc.tick; rw [if_pos h]
theorem tick_rest {M : Mc} (f : Bool) (h : Good M) : Arch M (M.tick f true) := by
  unfold Mc.tick
  split
  · exact Arch.refl M
  · exact fet_arch f h
/-- The buffer behind a fetch. -/
theorem fetch_more {M : Mc} (h : Good M) : 1 ≤ M.fetch.par.length ∧ (1 ≤ M.par.length → 2 ≤ M.fetch.par.length) ∧ M.par.length ≤ M.fetch.par.length := by
  obtain ⟨n, hn, hp, ha⟩ := h.buf
  have hlen : M.par.length = n := by rw [hp, parsAt_len]
  have he := h.even
  have h0 := h.pc0
  have hae : M.ahead % 2 = 0 := by rw [ha]; omega
  have ha0 : 0 ≤ M.ahead := by rw [ha]; omega
  have hleft : 1 ≤ M.left ∧ M.left ≤ 32 := by
    unfold Mc.left
    rcases h.line with e | e | e | e | e <;> rw [e] <;> omega
  unfold Mc.fetch
  split
  · rw [(fetchN_facts M M.left).2.1]; omega
  · omega
theorem did_done {M N : Mc} (d : Did M N) (hd : 0 ≤ M.done ∧ M.done < 4611686018427387904) : M.done ≤ N.done ∧ N.done ≤ M.done + 2 ∧ (N.done = M.done + 2 → M.fuse = true) ∧ (M.cause ≠ 0 → N.cause = M.cause) ∧ (M.cause = 0 → N.cause = 0 → ∃ j : Nat, j ≤ 2 ∧ Arch (M.seqs j) N ∧ N.done = M.done + j ∧ ∀ i, i ≤ j → (M.seqs i).cause = 0) ∧ (M.cause = 0 → N.cause ≠ 0 → Arch M.seq N ∧ N.done = M.done) := by
  have w1 : wrap64 (M.done + 1) = M.done + 1 := by unfold wrap64; omega
  have w2 : wrap64 (M.done + 1 + 1) = M.done + 1 + 1 := by unfold wrap64; omega
  cases d with
  | none k =>
    refine ⟨by rw [k.done]; omega, by rw [k.done]; omega, fun e => by rw [k.done] at e; omega, fun _ => k.cause, fun h _ => ⟨0, by omega, k, by rw [k.done]; simp, fun i hi => by rw [Nat.le_zero.1 hi]; exact h⟩, fun h h' => absurd (k.cause.trans h) h'⟩
  | halt h0 hh k =>
    obtain ⟨c, e, _⟩ := (seq_done M h0).1 hh
    have e' : N.done = M.done := k.done.trans e
    refine ⟨by omega, by omega, fun e => by omega, fun h => absurd h0 h, fun _ h => absurd (k.cause.symm.trans h) c, fun _ _ => ⟨k, e'⟩⟩
  | one h0 hh k =>
    obtain ⟨c, e⟩ := (seq_done M h0).2 hh
    have e' : N.done = M.done + 1 := by rw [k.done, e, w1]
    refine ⟨by omega, by omega, fun e => by omega, fun h => absurd h0 h, fun _ _ => ⟨1, by omega, k, by rw [e']; rfl, fun i hi => ?_⟩, fun _ h => absurd (k.cause.trans c) h⟩
    match i, hi with
    | 0, _ => exact h0
    | 1, _ => exact c
  | two h0 hh hf hc hh2 k =>
    obtain ⟨c, e⟩ := (seq_done M h0).2 hh
    obtain ⟨c2, e2⟩ := (seq_done M.seq hc).2 hh2
    have e' : N.done = M.done + 2 := by rw [k.done, e2, e, w1, w2]; omega
    refine ⟨by omega, by omega, fun _ => hf, fun h => absurd h0 h, fun _ _ => ⟨2, by omega, k, by rw [e']; rfl, fun i hi => ?_⟩, fun _ h => absurd (k.cause.trans c2) h⟩
    match i, hi with
    | 0, _ => exact h0
    | 1, _ => exact c
    | 2, _ => exact c2
theorem clear_rest (M : Mc) (b : Bool) (c : Cm) (n : Nat) : (M.clear b c n).cause = M.cause ∧ (M.clear b c n).done = M.done := by
  unfold Mc.clear; split <;> exact ⟨rfl, rfl⟩
/-- What is done of a buffer. -/
theorem works_cases (M : Mc) (h0 : M.cause = 0) : (M.works (worksC M) = M ∧ M.par.length < 2) ∨ (M.works (worksC M)).cause ≠ 0 ∨ (M.works (worksC M)).done = wrap64 (M.done + 1) ∨ (M.works (worksC M)).done = wrap64 (wrap64 (M.done + 1) + 1) := by
  have hw := wks M
  generalize worksC M = cs at *
  cases hw with
  | none h =>
    refine .inl ⟨rfl, Classical.byContradiction fun hn => ?_⟩
    obtain ⟨c, hc⟩ := cut_some (par := M.par) (k := 0) (by omega)
    rw [h] at hc; cases hc
  | one c hc =>
    refine .inr ?_
    by_cases hh : haltC c.op ≠ 0
    · have e1 : M.works [c] = { M with cause := haltC c.op } := by show (if haltC c.op ≠ 0 then _ else _) = _; rw [if_pos hh]
      rw [e1]; exact .inl hh
    · have e1 : M.works [c] = (M.one c).clear (isStC c.op) c c.n := by show (if haltC c.op ≠ 0 then _ else _) = _; rw [if_neg hh]
      rw [e1, (clear_rest _ _ _ _).2]
      exact .inr (.inl (one_rest M c).2)
  | two c d _ _ _ _ =>
    refine .inr (.inr (.inr ?_))
    show (((M.one c).one d).clear false d (c.n + d.n)).done = _
    rw [(clear_rest _ _ _ _).2, (one_rest (M.one c) d).2, (one_rest M c).2]
def Mc.pot (M : Mc) : Int := 2 * M.done + (if M.par.length = 0 then 0 else 1)
theorem pot_le (M N : Mc) (h : N.done = M.done) (hp : M.par.length ≤ N.par.length) : M.pot ≤ N.pot := by
  unfold Mc.pot; rw [h]; split <;> split <;> omega
theorem pot_lt (M N : Mc) (h : M.done + 1 ≤ N.done) : M.pot + 1 ≤ N.pot := by
  unfold Mc.pot; split <;> split <;> omega
/-- A tick: the potential does not fall; it rises if nothing stalls. -/
theorem tick_pot {M : Mc} (f r : Bool) (h : Good M) (hd : 0 ≤ M.done ∧ M.done < 4611686018427387904) : (M.tick f r).cause ≠ 0 ∨ (M.pot ≤ (M.tick f r).pot ∧ (f = false → r = false → M.pot + 1 ≤ (M.tick f r).pot)) := by
  have w1 : wrap64 (M.done + 1) = M.done + 1 := by unfold wrap64; omega
  have w2 : wrap64 (M.done + 1 + 1) = M.done + 1 + 1 := by unfold wrap64; omega
  have ha := fet_arch f h
  by_cases hc : M.cause ≠ 0
  · rw [tick_stop f r hc]; exact .inl hc
  · have h0 : M.cause = 0 := Classical.byContradiction hc
    have hm : M.par.length ≤ (M.fet f).par.length ∧ (f = false → 1 ≤ (M.fet f).par.length ∧ (1 ≤ M.par.length → 2 ≤ (M.fet f).par.length)) := by
      cases f with
      | false => obtain ⟨a, b, c⟩ := fetch_more h; exact ⟨c, fun _ => ⟨a, b⟩⟩
      | true => exact ⟨Nat.le_refl _, fun e => by cases e⟩
    unfold Mc.tick
    rw [if_neg hc]
    cases r with
    | true => exact .inr ⟨pot_le _ _ ha.done hm.1, fun _ e => by cases e⟩
    | false =>
      simp only [Bool.false_eq_true, if_false]
      rcases works_cases (M.fet f) (ha.cause.trans h0) with ⟨e, hl⟩ | hh | e | e
      · rw [e]
        refine .inr ⟨pot_le _ _ ha.done hm.1, fun hf _ => ?_⟩
        obtain ⟨k1, k2⟩ := hm.2 hf
        unfold Mc.pot
        rw [ha.done, if_pos (by omega), if_neg (by omega)]; omega
      · exact .inl hh
      · rw [ha.done, w1] at e
        have := pot_lt M ((M.fet f).works (worksC (M.fet f))) (by omega)
        exact .inr ⟨by omega, fun _ _ => this⟩
      · rw [ha.done, w1, w2] at e
        have := pot_lt M ((M.fet f).works (worksC (M.fet f))) (by omega)
        exact .inr ⟨by omega, fun _ _ => this⟩
end Go.Proofs.YtdcmdjeooklmjaaDoor

/-
  Lively and Alike, plainly: a round of each.
-/
namespace Go.Proofs.YtdcmdjeooklmjaaDoor
open Go.RowKit Go.PageMap Go.Maps
set_option maxRecDepth 100000
/-- What Lively keeps: n ticks behind it, of them c that stall nothing. -/
structure Live (M : Mc) (n c : Nat) : Prop where
  good : Good M
  done0 : 0 ≤ M.done
  done1 : M.done ≤ 2 * n
  clear : c ≤ n
  pot : M.cause = 0 → (c : Int) ≤ M.pot
/-- What Lively asks of a tick. -/
structure LiveStep (M N : Mc) (c' : Nat) (f r : Bool) : Prop where
  n0 : 0 ≤ N.done - M.done
  n2 : N.done - M.done ≤ 2
  fuse : N.done - M.done = 2 → M.fuse = true
  stall : r = true → N.done = M.done ∧ N.cause = M.cause
  queue : N.par.length ≤ 48
  halted : M.cause ≠ 0 → N = M
  rate : N.cause = 0 → (c' : Int) / 2 ≤ N.done
  same : N.fuse = M.fuse
theorem live_step {M : Mc} {n c : Nat} (f r : Bool) (h : Live M n c) (hn : n < 2305843009213693951) : Live (M.tick f r) (n + 1) (c + (if f = false ∧ r = false then 1 else 0)) ∧ LiveStep M (M.tick f r) (c + (if f = false ∧ r = false then 1 else 0)) f r := by
  have hd1 := h.done1
  have hd0 := h.done0
  have hcn := h.clear
  obtain ⟨g, d, hl, hf⟩ := tick_did f r h.good
  obtain ⟨d1, d2, d3, d4, d5, d6⟩ := did_done d ⟨hd0, by omega⟩
  clear d5 d6 d4
  have hp := tick_pot f r h.good ⟨hd0, by omega⟩
  have pot : (M.tick f r).cause = 0 → ((c + (if f = false ∧ r = false then 1 else 0) : Nat) : Int) ≤ (M.tick f r).pot := by
    intro hc
    have c0 : M.cause = 0 := Classical.byContradiction fun e => e (by rw [tick_stop f r e] at hc; exact hc)
    have := h.pot c0
    rcases hp with q | ⟨q1, q2⟩
    · exact absurd hc q
    · split
      · rename_i e
        have := q2 e.1 e.2
        push_cast; omega
      · omega
  refine ⟨⟨g, by omega, by push_cast; omega, by split <;> omega, pot⟩, ⟨by omega, by omega, fun e => d3 (by omega), fun hr => ?_, g.ok.len, fun hc => tick_stop f r hc, fun hc => ?_, hf⟩⟩
  · subst hr
    have := tick_rest f h.good
    exact ⟨this.done, this.cause⟩
  · have hq := pot hc
    generalize c + (if f = false ∧ r = false then 1 else 0) = c' at hq ⊢
    unfold Mc.pot at hq
    split at hq <;> omega
/-- What Alike keeps: two machines that tell the same. -/
structure Two (A B : Mc) (n : Nat) : Prop where
  a : Good A
  b : Good B
  nofuse : B.fuse = false
  same : Arch A B
  done0 : 0 ≤ A.done
  done1 : A.done ≤ 2 * n
/-- How far the second has come up: j instructions behind, i of them done, in k ticks that stall nothing. -/
structure Catch (A A' B : Mc) (j i k : Nat) : Prop where
  good : Good B
  nofuse : B.fuse = false
  at' : Arch (A.seqs i) B
  le : i ≤ j
  two : j ≤ 2
  pot : 2 * A.done + k ≤ B.pot
  to : Arch (A.seqs j) A'
  dj : A'.done = A.done + j
  di : B.done = A.done + i
  un : ∀ i, i ≤ j → (A.seqs i).cause = 0
theorem seqs_one (A : Mc) (i : Nat) : A.seqs (i + 1) = (A.seqs i).seq := rfl
theorem catch_step {A A' B : Mc} {j i k : Nat} (h : Catch A A' B j i k) (hij : i < j) (hd : 0 ≤ A.done ∧ A.done < 2305843009213693951) : ∃ i', Catch A A' (B.tick false false) j i' (k + 1) := by
  obtain ⟨g, d, _, hf⟩ := tick_did false false h.good
  have hdi := h.di
  have hle := h.le
  have htw := h.two
  have hbd : 0 ≤ B.done ∧ B.done < 4611686018427387904 := by omega
  have c0 : B.cause = 0 := h.at'.cause.trans (h.un i h.le)
  have hs : Arch (A.seqs (i + 1)) B.seq := h.at'.seq
  have c1 : B.seq.cause = 0 := hs.cause.trans (h.un (i + 1) hij)
  obtain ⟨_, _, d3, _, d5, d6⟩ := did_done d hbd
  have hcn : (B.tick false false).cause = 0 := Classical.byContradiction fun e => by
    have := (d6 c0 e).1
    exact e (this.cause.trans c1)
  obtain ⟨m, hm, ha, hdm, _⟩ := d5 c0 hcn
  have hm1 : m ≤ 1 := Classical.byContradiction fun e => by
    have : m = 2 := by omega
    subst this
    have := d3 (by rw [hdm]; rfl)
    rw [h.nofuse] at this; cases this
  have hp : B.pot + 1 ≤ (B.tick false false).pot := by
    rcases tick_pot false false h.good hbd with q | ⟨_, q⟩
    · exact absurd hcn q
    · exact q rfl rfl
  have hpk := h.pot
  refine ⟨i + m, g, hf.trans h.nofuse, ?_, by omega, h.two, by push_cast; omega, h.to, h.dj, by rw [hdm, hdi]; push_cast; omega, h.un⟩
  rw [seqs_add]
  exact (h.at'.seqs m).trans ha
theorem catch_four {A A' B : Mc} {j i : Nat} (h : Catch A A' B j i 4) : i = j := by
  have hp := h.pot
  have := h.di
  have := h.two
  have := h.le
  unfold Mc.pot at hp
  split at hp <;> omega
/-- The first ticks: what the second has to come up to. -/
theorem two_tick {A B : Mc} {n : Nat} (f r : Bool) (h : Two A B n) (hn : n < 1152921504606846975) : (A.tick f r).fuse = A.fuse ∧
    (((A.tick f r).cause = 0 ∧ ∃ j, Catch A (A.tick f r) B j 0 0) ∨ ((A.tick f r).cause ≠ 0 ∧ (A.tick f r).done = B.done ∧ (Arch B (A.tick f r) ∧ B.cause ≠ 0 ∨ Arch B.seq (A.tick f r) ∧ B.cause = 0))) := by
  have hd0 := h.done0
  have hd1 := h.done1
  obtain ⟨g, d, _, hf⟩ := tick_did f r h.a
  obtain ⟨_, _, _, d4, d5, d6⟩ := did_done d ⟨hd0, by omega⟩
  refine ⟨hf, ?_⟩
  by_cases c0 : A.cause = 0
  · by_cases c1 : (A.tick f r).cause = 0
    · obtain ⟨j, hj, ha, hdj, hu⟩ := d5 c0 c1
      refine .inl ⟨c1, j, h.b, h.nofuse, h.same, Nat.zero_le _, hj, ?_, ha, hdj, by rw [h.same.done]; simp, hu⟩
      unfold Mc.pot
      rw [h.same.done]
      split <;> omega
    · obtain ⟨ha, hdn⟩ := d6 c0 c1
      exact .inr ⟨c1, hdn.trans h.same.done.symm, .inr ⟨h.same.symm.seq.trans ha, h.same.cause.trans c0⟩⟩
  · have e := tick_stop f r c0
    rw [e]
    exact .inr ⟨c0, h.same.done.symm, .inl ⟨h.same.symm, fun e => c0 (h.same.cause.symm.trans e)⟩⟩
/-- The first has halted: two ticks of the second. -/
theorem two_halt {A' B : Mc} (hb : Good B) (hd : 0 ≤ B.done ∧ B.done < 2305843009213693951) (hc : A'.cause ≠ 0) (h : Arch B A' ∧ B.cause ≠ 0 ∨ Arch B.seq A' ∧ B.cause = 0 ∧ A'.done = B.done) : Arch A' ((B.tick false false).tick false false) := by
  rcases h with ⟨h, hc'⟩ | ⟨h, c0, hdn⟩
  · rw [tick_stop false false hc', tick_stop false false hc']; exact h.symm
  · have hsc : B.seq.cause ≠ 0 := fun e => hc (h.cause.trans e)
    have hsd : B.seq.done = B.done := h.done.symm.trans hdn
    -- a tick of a machine that is at B: halted at B.seq, or still at B
    have one : ∀ N : Mc, Good N → Arch B N → ((N.tick false false).cause ≠ 0 ∧ Arch B.seq (N.tick false false)) ∨ (Good (N.tick false false) ∧ Arch B (N.tick false false) ∧ N.pot + 1 ≤ (N.tick false false).pot) := by
      intro N gN aN
      obtain ⟨g, d, _, _⟩ := tick_did false false gN
      have hdN : N.done = B.done := aN.done
      have hNc : N.cause = 0 := aN.cause.trans c0
      obtain ⟨_, _, _, _, d5, d6⟩ := did_done d ⟨by omega, by omega⟩
      by_cases c : (N.tick false false).cause = 0
      · obtain ⟨m, hm, ha, hdm, hu⟩ := d5 hNc c
        have hm0 : m = 0 := Classical.byContradiction fun e => by
          have := hu 1 (by omega)
          exact hsc (aN.seq.cause.symm.trans this)
        subst hm0
        rcases tick_pot false false gN ⟨by omega, by omega⟩ with q | ⟨_, q⟩
        · exact absurd c q
        · exact .inr ⟨g, aN.trans ha, q rfl rfl⟩
      · exact .inl ⟨c, aN.seq.trans (d6 hNc c).1⟩
    rcases one B hb (Arch.refl B) with ⟨c, a⟩ | ⟨g, a, p⟩
    · rw [tick_stop false false c]; exact h.symm.trans a
    · rcases one _ g a with ⟨c, a2⟩ | ⟨g2, a2, p2⟩
      · exact h.symm.trans a2
      · exfalso
        have e2 := a2.done
        unfold Mc.pot at p p2
        rw [a.done] at p p2
        rw [a2.done] at p2
        split at p <;> split at p <;> split at p2 <;> omega
end Go.Proofs.YtdcmdjeooklmjaaDoor
