/-
  O8 in one text.
-/
import Derived.Test.YtdcmdjeooklmjaaDoorWF
import Derived.Test.YtdcmdjeooklmjaaDoorWG
set_option linter.unusedVariables false
set_option linter.unusedSimpArgs false
/-
  What a tick makes of a machine: one instruction after the other. The buffer has what stands in memory from PC on.
-/
namespace Go.Proofs.YtdcmdjeooklmjaaDoor
open Go.RowKit Go.PageMap Go.Maps
set_option maxRecDepth 100000
/-- Of a list: the n parcels from pc on. -/
def parsAt (mem : Int → Int) (pc : Int) (n : Nat) : List (Int × Int) := (List.range n).map fun (i : Nat) => ((pc + 2 * (i : Int)) % 4294967296, numAt mem ((pc + 2 * (i : Int)) % 4294967296) 2)
theorem parsAt_len (mem : Int → Int) (pc : Int) (n : Nat) : (parsAt mem pc n).length = n := by simp [parsAt]
theorem parsAt_get (mem : Int → Int) (pc : Int) (n k : Nat) (hk : k < n) : (parsAt mem pc n)[k]? = some ((pc + 2 * (k : Int)) % 4294967296, numAt mem ((pc + 2 * (k : Int)) % 4294967296) 2) := by
  simp [parsAt, hk]
theorem parsAt_none (mem : Int → Int) (pc : Int) (n k : Nat) (hk : ¬ k < n) : (parsAt mem pc n)[k]? = none := by
  simp [parsAt]; omega
theorem parsAt_succ (mem : Int → Int) (pc : Int) (n : Nat) : parsAt mem pc (n + 1) = parsAt mem pc n ++ [((pc + 2 * (n : Int)) % 4294967296, numAt mem ((pc + 2 * (n : Int)) % 4294967296) 2)] := by
  simp [parsAt, List.range_succ]
theorem parsAt_drop (mem : Int → Int) (pc : Int) (n k : Nat) : (parsAt mem pc n).drop k = parsAt mem ((pc + 2 * (k : Int)) % 4294967296) (n - k) := by
  apply List.ext_getElem?
  intro i
  rw [List.getElem?_drop]
  by_cases h : i < n - k
  · rw [parsAt_get _ _ _ _ (by omega), parsAt_get _ _ _ _ h]
    have e : (pc + 2 * ((k + i : Nat) : Int)) % 4294967296 = ((pc + 2 * (k : Int)) % 4294967296 + 2 * (i : Int)) % 4294967296 := by push_cast; omega
    rw [e]
  · rw [parsAt_none _ _ _ _ (by omega), parsAt_none _ _ _ _ h]
/-- The instruction that lies at an address. -/
def instAt (mem : Int → Int) (pc : Int) : Cm :=
  if (Hm.expC (numAt mem pc 2)).err ≠ 3 ∨ numAt mem pc 2 % 32 = 31 then cmOf (Hm.expC (numAt mem pc 2)) pc 1
  else cmOf (Hm.decC (numAt mem ((pc + 2) % 4294967296) 2 * 65536 + numAt mem pc 2)) pc 2
theorem cut_at {mem : Int → Int} {pc : Int} {n k : Nat} {c : Cm} (h : cutC (parsAt mem pc n) k = some c) : c = instAt mem ((pc + 2 * (k : Int)) % 4294967296) := by
  unfold cutC at h
  by_cases hk : k < n
  · rw [parsAt_get _ _ _ _ hk] at h
    dsimp only at h
    unfold instAt
    split at h
    · rename_i hc
      rw [if_pos hc]
      injection h with h
      exact h.symm
    · rename_i hc
      rw [if_neg hc]
      by_cases hk1 : k + 1 < n
      · rw [parsAt_get _ _ _ _ hk1] at h
        injection h with h
        rw [← h]
        have e : (pc + 2 * ((k + 1 : Nat) : Int)) % 4294967296 = ((pc + 2 * (k : Int)) % 4294967296 + 2) % 4294967296 := by push_cast; omega
        rw [e]
      · rw [parsAt_none _ _ _ _ hk1] at h; cases h
  · rw [parsAt_none _ _ _ _ hk] at h; cases h
/-- A machine as it runs: its bounds, and the buffer. -/
structure Good (M : Mc) : Prop where
  regs : RegsOk M
  mem : MemOk M.mem
  line : LineOk M.line
  pc0 : 0 ≤ M.pc
  pc1 : M.pc < 4294967296
  even : M.pc % 2 = 0
  buf : ∃ n : Nat, n ≤ 48 ∧ M.par = parsAt M.mem M.pc n ∧ M.ahead = (M.pc + 2 * (n : Int)) % 4294967296
theorem Good.ok {M : Mc} (h : Good M) : McOk M := by
  obtain ⟨n, hn, hp, ha⟩ := h.buf
  refine ⟨h.regs, h.mem, h.line, by rw [ha]; omega, ?_, by rw [hp, parsAt_len]; exact hn⟩
  intro p hp'
  rw [hp] at hp'
  simp only [parsAt, List.mem_map] at hp'
  obtain ⟨i, _, rfl⟩ := hp'
  have hb := num2 h.mem ((M.pc + 2 * (i : Int)) % 4294967296)
  exact ⟨by dsimp only; omega, by dsimp only; omega, hb.1, hb.2⟩
/-- The same but for the buffer. -/
structure Arch (M N : Mc) : Prop where
  pc : N.pc = M.pc
  regs : N.regs = M.regs
  mem : N.mem = M.mem
  cause : N.cause = M.cause
  done : N.done = M.done
theorem Arch.refl (M : Mc) : Arch M M := ⟨rfl, rfl, rfl, rfl, rfl⟩
theorem Arch.trans {A B C : Mc} (h : Arch A B) (k : Arch B C) : Arch A C := ⟨k.pc.trans h.pc, k.regs.trans h.regs, k.mem.trans h.mem, k.cause.trans h.cause, k.done.trans h.done⟩
theorem Arch.symm {A B : Mc} (h : Arch A B) : Arch B A := ⟨h.pc.symm, h.regs.symm, h.mem.symm, h.cause.symm, h.done.symm⟩
/-- One instruction. -/
def Mc.seq (M : Mc) : Mc := if M.cause ≠ 0 then M else if haltC (instAt M.mem M.pc).op ≠ 0 then { M with cause := haltC (instAt M.mem M.pc).op } else M.one (instAt M.mem M.pc)
theorem Arch.doK {M N : Mc} (h : Arch M N) (c : Cm) : Arch (M.doK c) (N.doK c) := by
  obtain ⟨h1, h2, h3, h4, h5⟩ := h
  have ha : addrC N c = addrC M c := by unfold addrC; rw [h2]
  have ht : targetC N c = targetC M c := by unfold targetC; rw [ha]
  have ho : opdC N c = opdC M c := by unfold opdC; rw [h2]
  unfold Mc.doK Mc.comp Mc.put
  rw [h2, h3, ha, ht, ho]
  repeat' split
  all_goals first
    | exact ⟨rfl, h2, h3, h4, h5⟩
    | exact ⟨rfl, rfl, h3, h4, h5⟩
    | exact ⟨rfl, h2, rfl, h4, h5⟩
    | (refine ⟨rfl, ?_, h3, h4, h5⟩; simp only [h2])
    | (refine ⟨rfl, ?_, rfl, h4, h5⟩; simp only [h2])
theorem Arch.one {M N : Mc} (h : Arch M N) (c : Cm) : Arch (M.one c) (N.one c) := by
  obtain ⟨h1, h2, h3, h4, h5⟩ := h.doK c
  exact ⟨h1, h2, h3, h4, by show wrap64 ((N.doK c).done + 1) = wrap64 ((M.doK c).done + 1); rw [h5]⟩
theorem Arch.seq {M N : Mc} (h : Arch M N) : Arch M.seq N.seq := by
  unfold Mc.seq
  rw [h.cause, h.mem, h.pc]
  split
  · exact h
  split
  · exact ⟨rfl, h.regs, rfl, rfl, h.done⟩
  · exact h.one _
theorem clear_arch (M : Mc) (b : Bool) (c : Cm) (n : Nat) : Arch M (M.clear b c n) := by
  unfold Mc.clear
  split <;> exact ⟨rfl, rfl, rfl, rfl, rfl⟩
theorem fet_arch {M : Mc} (f : Bool) (h : Good M) : Arch M (M.fet f) := by
  obtain ⟨_, h1, _, h3, h4, h5, h6, _⟩ := fet_ok M f h.ok
  exact ⟨h4, h5, h6, h1, h3⟩
theorem fetch_good {M : Mc} (h : Good M) : Good M.fetch := by
  obtain ⟨n, hn, hp, ha⟩ := h.buf
  have hN : ∀ k : Nat, (M.fetchN k).par = parsAt M.mem M.pc (n + k) ∧ (M.fetchN k).ahead = (M.pc + 2 * ((n + k : Nat) : Int)) % 4294967296 ∧ (M.fetchN k).mem = M.mem ∧ (M.fetchN k).pc = M.pc := by
    intro k
    induction k with
    | zero => exact ⟨hp, ha, rfl, rfl⟩
    | succ k ih =>
      obtain ⟨i1, i2, i3, i4⟩ := ih
      refine ⟨?_, ?_, i3, i4⟩
      · show (M.fetchN k).par ++ [((M.fetchN k).ahead, numAt (M.fetchN k).mem (M.fetchN k).ahead 2)] = _
        rw [i1, i2, i3, ← Nat.add_assoc, parsAt_succ]
      · show ((M.fetchN k).ahead + 2) % 4294967296 = _
        rw [i2]; push_cast; omega
  obtain ⟨g1, _, _, _, g4, g5, g6, g7⟩ := fetch_ok M h.ok
  refine ⟨g1.regs, g1.mem, g1.line, by rw [g4]; exact h.pc0, by rw [g4]; exact h.pc1, by rw [g4]; exact h.even, ?_⟩
  by_cases hl : M.par.length + M.left ≤ 48
  · have e : M.fetch = M.fetchN M.left := by unfold Mc.fetch; rw [if_pos hl]
    obtain ⟨i1, i2, i3, i4⟩ := hN M.left
    rw [hp, parsAt_len] at hl
    exact ⟨n + M.left, hl, by rw [e, i1, i3, i4], by rw [e, i2, i4]⟩
  · have e : M.fetch = M := by unfold Mc.fetch; rw [if_neg hl]
    rw [e]; exact ⟨n, hn, hp, ha⟩
theorem fet_good {M : Mc} (f : Bool) (h : Good M) : Good (M.fet f) := by
  cases f with
  | false => exact fetch_good h
  | true => exact h
end Go.Proofs.YtdcmdjeooklmjaaDoor
