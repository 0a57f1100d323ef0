/-
  NW in one text.
-/
import Derived.Test.YtdcmdjeooklmjabDoorVL
import Derived.Test.YtdcmdjeooklmjabDoorGF
set_option linter.unusedVariables false
set_option linter.unusedSimpArgs false
/-
  Of any legal instruction: its lowest bits; alone of shifts and comparisons.
-/
namespace Hm
theorem or_low (a b : Int) (ha : 0 ≤ a) (hb : 0 ≤ b) (h : b % 128 = 0) : orI a b % 128 = a % 128 := by
  obtain ⟨n, rfl⟩ := Int.eq_ofNat_of_zero_le ha
  obtain ⟨m, rfl⟩ := Int.eq_ofNat_of_zero_le hb
  unfold orI
  have hm : m % 2 ^ 7 = 0 := by omega
  have : (n ||| m) % 2 ^ 7 = n % 2 ^ 7 := by rw [Nat.or_mod_two_pow, hm, Nat.or_zero]
  have e : (2 : Nat) ^ 7 = 128 := rfl
  rw [e] at this
  simp only [Int.toNat_natCast]
  omega
theorem putC_low {f c a x : Int} (h : c = 0 ∨ 7 ≤ a) (ha : 0 ≤ a) : putC f c a x % 128 = 0 := by
  unfold putC
  rcases h with rfl | h
  · have : x / pw f.toNat % pw (0 : Int).toNat = 0 := by show _ % pw 0 = 0; rw [show pw 0 = 1 from rfl]; omega
    rw [this]; simp
  · obtain ⟨k, hk⟩ : ∃ k : Nat, a.toNat = k + 7 := ⟨a.toNat - 7, by omega⟩
    rw [hk, pw_add, show pw 7 = 128 from rfl]
    generalize x / pw f.toNat % pw c.toNat = z
    rw [← Int.mul_assoc]
    generalize z * pw k = y
    omega
structure LayLow (L : Lay) : Prop where
  p0 : L.c0 = 0 ∨ 7 ≤ L.a0
  p1 : L.c1 = 0 ∨ 7 ≤ L.a1
  p2 : L.c2 = 0 ∨ 7 ≤ L.a2
  p3 : L.c3 = 0 ∨ 7 ≤ L.a3
theorem lay_low (f : Int) : LayLow (lay f) := by
  unfold lay
  repeat' split
  all_goals constructor <;> decide
theorem enc_low {op rd rs1 rs2 imm : Int} (hl : legalC op rd rs1 rs2 imm = true) : encC op rd rs1 rs2 imm % 128 = bitOf op % 128 := by
  have hb := legal_bd hl
  have hL := lay_ok (fmtOf op)
  have hW := lay_low (fmtOf op)
  have hB := bit_bd op
  unfold encC
  rw [if_pos hl]
  generalize lay (fmtOf op) = L at *
  simp only [encA, enc0]
  have n1 : ∀ a b : Int, 0 ≤ orI a b := fun a b => by unfold orI; omega
  have q0 := putC_u32 L.f0 L.c0 L.a0 (imm % 4294967296)
  have q1 := putC_u32 L.f1 L.c1 L.a1 (imm % 4294967296)
  have q2 := putC_u32 L.f2 L.c2 L.a2 (imm % 4294967296)
  have q3 := putC_u32 L.f3 L.c3 L.a3 (imm % 4294967296)
  rw [or_low _ _ (n1 _ _) q3.1 (putC_low hW.p3 hL.a3.1), or_low _ _ (n1 _ _) q2.1 (putC_low hW.p2 hL.a2.1), or_low _ _ (n1 _ _) q1.1 (putC_low hW.p1 hL.a1.1), or_low _ _ (n1 _ _) q0.1 (putC_low hW.p0 hL.a0.1),
    or_low _ _ (n1 _ _) (by have := hb.t; omega) (by omega), or_low _ _ (n1 _ _) (by have := hb.r; omega) (by omega), or_low _ _ hB.1 (by have := hb.d; omega) (by omega)]
theorem bit_low (op : Int) (h0 : 1 ≤ op) (h1 : op ≤ 48) : bitOf op % 4 = 3 ∧ bitOf op % 32 ≠ 31 := by
  have : ∀ j : Fin 49, j.val = 0 ∨ (bitT j % 4 = 3 ∧ bitT j % 32 ≠ 31) := by decide +kernel
  unfold bitOf
  rw [if_pos ⟨h0, h1⟩]
  rcases this ⟨op.toNat, by omega⟩ with h | h
  · simp at h; omega
  · exact h
theorem enc_wide {op rd rs1 rs2 imm : Int} (hl : legalC op rd rs1 rs2 imm = true) : encC op rd rs1 rs2 imm % 4 = 3 ∧ encC op rd rs1 rs2 imm % 32 ≠ 31 := by
  have h := enc_low hl
  have ho := legal_op hl
  have := bit_low op ho.1 ho.2
  omega
end Hm
namespace Go.Proofs.YtdcmdjeooklmjabDoor
open Go.RowKit Go.PageMap Go.Maps
set_option maxRecDepth 100000
theorem ok_legal {op imm : Int} (hc : IsComp op) (hl : Hm.legalC op 3 1 (aloneRs2 op) imm = true) : AloneOk op imm (Hm.encC op 3 1 (aloneRs2 op) imm) where
  comp := hc
  enc := rfl
  err := by unfold Hm.errC; rw [if_pos hl]
  x0 := (Hm.enc_u32 hl).1
  x1 := (Hm.enc_u32 hl).2
  wide := (Hm.enc_wide hl).1
  short := (Hm.enc_wide hl).2
  dec := Hm.round_a hl
theorem aloneRes_I (a b op imm X : Int) (hf : Hm.fmtOf op ≠ 1) : aloneRes a b op imm X = resC (aloneC op imm) a (imm % 4294967296) := by
  unfold aloneRes opdC
  have h1 : (aloneC op imm).op = op := rfl
  rw [h1, if_neg hf]; rfl
theorem aloneRes_R' (a b op imm X : Int) (h : AloneOk op imm X) (hf : Hm.fmtOf op = 1) (h28 : 28 ≤ op) : aloneRes a b op imm X = resC (aloneC op imm) a b := by
  unfold aloneRes opdC
  have h1 : (aloneC op imm).op = op := rfl
  rw [h1, if_pos hf]
  have h2 : (aloneM1 a b X).fetch.regs = zreg (aloneR a b) := by rw [alone_fetch a b X h.x0 h.x1]; rfl
  have h3 : (aloneC op imm).rs2 = 2 := by show aloneRs2 op = 2; unfold aloneRs2; rw [if_pos h28]
  rw [h2, h3]; rfl
/-- alone answers r. -/
def AloneI (op a b imm r : Int) : Prop := ∀ W, Tabs W → Calls Tryd.prog 6 #[.int .i64 op, .int .u32 a, .int .u32 b, .int .i64 imm] W fun e w' => e = .returned (.tuple #[.int .u32 r, .bool true]) ∧ Below W.heap.size W w'
theorem aloneI (op a b imm : Int) (hc : IsComp op) (hl : Hm.legalC op 3 1 (aloneRs2 op) imm = true) (hf : Hm.fmtOf op ≠ 1) (a0 : 0 ≤ a) (a1 : a < 4294967296) (b0 : 0 ≤ b) (b1 : b < 4294967296) : AloneI op a b imm (resC (aloneC op imm) a (imm % 4294967296)) := by
  intro W hW
  have := alone_any W op a b imm _ hW (ok_legal hc hl) a0 a1 b0 b1
  rw [aloneRes_I a b op imm _ hf] at this
  exact this
theorem aloneS (op a b : Int) (hc : IsComp op) (hl : Hm.legalC op 3 1 (aloneRs2 op) 0 = true) (hf : Hm.fmtOf op = 1) (h28 : 28 ≤ op) (a0 : 0 ≤ a) (a1 : a < 4294967296) (b0 : 0 ≤ b) (b1 : b < 4294967296) : AloneI op a b 0 (resC (aloneC op 0) a b) := by
  intro W hW
  have := alone_any W op a b 0 _ hW (ok_legal hc hl) a0 a1 b0 b1
  rw [aloneRes_R' a b op 0 _ (ok_legal hc hl) hf h28] at this
  exact this
theorem legal_shift (op n : Int) (h : op = 25 ∨ op = 26 ∨ op = 27) (n0 : 0 ≤ n) (n1 : n < 32) : Hm.legalC op 3 1 (aloneRs2 op) n = true := by
  rcases h with rfl | rfl | rfl
  all_goals (
    show Hm.legalC _ 3 1 0 n = true
    unfold Hm.legalC
    rw [if_neg (by decide +kernel)]
    show (true && true && true && Hm.holdsC 0 31 false n) = true
    simp [Hm.holdsC]; omega)
theorem legal_sltiu (n : Int) (n0 : -2048 ≤ n) (n1 : n ≤ 2047) : Hm.legalC 21 3 1 (aloneRs2 21) n = true := by
  show Hm.legalC _ 3 1 0 n = true
  unfold Hm.legalC
  rw [if_neg (by decide +kernel)]
  show (true && true && true && Hm.holdsC (-2048) 2047 false n) = true
  simp [Hm.holdsC]; omega
theorem as25 (a b n : Int) (n0 : 0 ≤ n) (n1 : n < 32) (a0 : 0 ≤ a) (a1 : a < 4294967296) (b0 : 0 ≤ b) (b1 : b < 4294967296) : AloneI 25 a b n (a * 2 ^ n.toNat % 4294967296) := by
  have h := aloneI 25 a b n (by unfold IsComp; omega) (legal_shift 25 n (by omega) n0 n1) (by decide +kernel) a0 a1 b0 b1
  rwa [show n % 4294967296 = n by omega, show resC (aloneC 25 n) a n = a * 2 ^ (n % 32).toNat % 4294967296 from rfl, show n % 32 = n by omega] at h
theorem as26 (a b n : Int) (n0 : 0 ≤ n) (n1 : n < 32) (a0 : 0 ≤ a) (a1 : a < 4294967296) (b0 : 0 ≤ b) (b1 : b < 4294967296) : AloneI 26 a b n (a / 2 ^ n.toNat) := by
  have h := aloneI 26 a b n (by unfold IsComp; omega) (legal_shift 26 n (by omega) n0 n1) (by decide +kernel) a0 a1 b0 b1
  rwa [show n % 4294967296 = n by omega, show resC (aloneC 26 n) a n = a / 2 ^ (n % 32).toNat from rfl, show n % 32 = n by omega] at h
theorem as27 (a b n : Int) (n0 : 0 ≤ n) (n1 : n < 32) (a0 : 0 ≤ a) (a1 : a < 4294967296) (b0 : 0 ≤ b) (b1 : b < 4294967296) : AloneI 27 a b n (wrap32 a / 2 ^ n.toNat % 4294967296) := by
  have h := aloneI 27 a b n (by unfold IsComp; omega) (legal_shift 27 n (by omega) n0 n1) (by decide +kernel) a0 a1 b0 b1
  rwa [show n % 4294967296 = n by omega, show resC (aloneC 27 n) a n = wrap32 a / 2 ^ (n % 32).toNat % 4294967296 from rfl, show n % 32 = n by omega] at h
theorem as21 (a b n : Int) (n0 : -2048 ≤ n) (n1 : n ≤ 2047) (a0 : 0 ≤ a) (a1 : a < 4294967296) (b0 : 0 ≤ b) (b1 : b < 4294967296) : AloneI 21 a b n (if a < n % 4294967296 then 1 else 0) :=
  aloneI 21 a b n (by unfold IsComp; omega) (legal_sltiu n n0 n1) (by decide +kernel) a0 a1 b0 b1
theorem as30 (a b : Int) (a0 : 0 ≤ a) (a1 : a < 4294967296) (b0 : 0 ≤ b) (b1 : b < 4294967296) : AloneI 30 a b 0 (a * 2 ^ (b % 32).toNat % 4294967296) :=
  aloneS 30 a b (by unfold IsComp; omega) (by kernel_rfl) (by kernel_rfl) (by decide) a0 a1 b0 b1
theorem as35 (a b : Int) (a0 : 0 ≤ a) (a1 : a < 4294967296) (b0 : 0 ≤ b) (b1 : b < 4294967296) : AloneI 35 a b 0 (wrap32 a / 2 ^ (b % 32).toNat % 4294967296) :=
  aloneS 35 a b (by unfold IsComp; omega) (by kernel_rfl) (by kernel_rfl) (by decide) a0 a1 b0 b1
theorem as31 (a b : Int) (a0 : 0 ≤ a) (a1 : a < 4294967296) (b0 : 0 ≤ b) (b1 : b < 4294967296) : AloneI 31 a b 0 (if wrap32 a < wrap32 b then 1 else 0) :=
  aloneS 31 a b (by unfold IsComp; omega) (by kernel_rfl) (by kernel_rfl) (by decide) a0 a1 b0 b1
theorem as32 (a b : Int) (a0 : 0 ≤ a) (a1 : a < 4294967296) (b0 : 0 ≤ b) (b1 : b < 4294967296) : AloneI 32 a b 0 (if a < b then 1 else 0) :=
  aloneS 32 a b (by unfold IsComp; omega) (by kernel_rfl) (by kernel_rfl) (by decide) a0 a1 b0 b1
end Go.Proofs.YtdcmdjeooklmjabDoor
