/-
  O7 in one text.
-/
import Derived.Test.YtdcmdjeooklmjaaDoorVK
set_option linter.unusedVariables false
set_option linter.unusedSimpArgs false
/-
  Walks: Peek.
-/
namespace Go.Proofs.YtdcmdjeooklmjaaDoor
open Go.RowKit Go.PageMap Go.Maps
set_option maxRecDepth 100000
/-- n bytes of memory. -/
def peekL (mem : Int → Int) (a : Int) (n : Nat) : List UInt8 := (List.range n).map fun (i : Nat) => UInt8.ofNat (mem ((a + (i : Int)) % 4294967296)).toNat
theorem peekL_len (mem : Int → Int) (a : Int) (n : Nat) : (peekL mem a n).length = n := by simp [peekL]
theorem peekL_get (mem : Int → Int) (a : Int) (n j : Nat) (hj : j < (peekL mem a n).length) (hm : MemOk mem) : (((peekL mem a n)[j]).toNat : Int) = mem ((a + j) % 4294967296) := by
  have h := hm ((a + j) % 4294967296)
  simp only [peekL, List.getElem_map, List.getElem_range]
  exact byteNat _ h.1 h.2
theorem made_u8 (n : Nat) : (madeCells (Value.int .u8 0).cells n).size = n ∧ ∀ i, i < n → (madeCells (Value.int .u8 0).cells n)[i]? = some (.int .u8 0) := by
  refine ⟨size_madeCells _ _, fun i hi => ?_⟩
  have e : (Value.int .u8 0).cells = #[.int .u8 0] := rfl
  rw [e, ← Array.getElem?_toList, toList_madeCells_one]
  simp [hi]
theorem make_u8 (n : Nat) (hn : n ≤ 4096) (w : World) : (Instr.makeSlice 133 (.int .i64 n) (.int .i64 n)).run Tryd.prog w = .ok (.slice (some ⟨w.heap.size, 0, none⟩) n n) (w.alloc (.cells (madeCells (Value.int .u8 0).cells n) 5)) := by
  have hb' : (Tryd.prog.info? 5).map (·.bytes) = some 1 := by kernel_rfl
  have hz' : (Tryd.prog.info? 5).map (·.zero) = some (some (.int .u8 0)) := by kernel_rfl
  have hs' : (Tryd.prog.info? 5).map (·.size) = some 1 := by kernel_rfl
  obtain ⟨i, hi⟩ : ∃ i, Tryd.prog.info? 5 = some i := by
    cases h : Tryd.prog.info? 5 with
    | none => rw [h] at hb'; cases hb'
    | some i => exact ⟨i, rfl⟩
  have hb : i.bytes = 1 := by rw [hi] at hb'; exact Option.some.inj hb'
  have hz : i.zero = some (.int .u8 0) := by rw [hi] at hz'; exact Option.some.inj hz'
  have hs : i.size = 1 := by rw [hi] at hs'; exact Option.some.inj hs'
  have := run_make (P := Tryd.prog) (w := w) 133 5 i (.int .u8 0) Tryd.underlying133 hi hz .i64 .i64 (n : Int) (n : Int) (by omega) (Int.le_refl _) (by rw [hb]; omega) (by omega)
  rw [hs, Int.toNat_natCast, Nat.mul_one] at this
  exact this
set_option maxHeartbeats 2000000 in
theorem m_Peek_any (w : World) (L : Lay) (M : Mc) (a : Int) (n : Nat) (h : At w L M) (hm : MemOk M.mem) (a0 : 0 ≤ a) (a1 : a < 4294967296) (hn : n ≤ 4096) :
    Calls Tryd.prog 58 #[.pointer (some ⟨L.b, 0, none⟩), .int .u32 a, .int .i64 n] w fun e w' => e = .returned (.tuple #[.string ⟨(peekL M.mem a n).toArray⟩, .int .i64 0]) ∧ Below w.heap.size w w' := by
  have hlt := h.cells.lt
  have HA : Hid (At w L M) := h
  have HM : Hid (MemOk M.mem) := hm
  have hmk := make_u8 n hn
  have hn0 : ((n : Int) < 0) = False := by simp
  have hn1 : (4096 < (n : Int)) = False := by simp; omega
  clear h hm
  obtain ⟨C, hC⟩ : ∃ C, C = madeCells (Value.int .u8 0).cells n := ⟨_, rfl⟩
  have HC : Hid (C.size = n ∧ ∀ i, i < n → C[i]? = some (.int .u8 0)) := by rw [Hid, hC]; exact made_u8 n
  rw [← hC] at hmk
  clear hC
  go_enter Tryd.func58, Tryd.ntmps58
  go_wp2_with fail
  generalize hW : w.alloc _ = W0
  have HB0 : Hid (Below w.heap.size w W0 ∧ W0.heap[w.heap.size]? = some (.cells C 5 (0, 0))) := by rw [Hid, ← hW]; exact ⟨(Below.refl _ _).alloc (Nat.le_refl _) _, heap_alloc_new _ _⟩
  clear hW
  refine (m_read_any W0 L M a w.heap.size n n 5 C (HA.out.below HB0.out.1 (Nat.le_refl _)) a0 a1 HB0.out.2 (fun hf => Nat.lt_irrefl _ (HA.out.foot_lt hf)) (Nat.le_refl _) (by rw [HC.out.1]; exact Nat.le_refl _) (by omega) HC.out.2).mono ?_
  rintro e w1 ⟨rfl, HR⟩
  have HB1 : Hid (Below w.heap.size w w1) := HB0.out.1.trans ⟨HR.os, HR.tape, HR.output, by rw [HR.size]; exact Nat.le_refl _, fun k hk => HR.block k (by omega)⟩
  obtain ⟨cur', q1, q2, q3, q4⟩ := HR.row
  have hcv : (convert 133 9 (.slice (some ⟨w.heap.size, 0, none⟩) n n)).run Tryd.prog w1 = .ok (.string ⟨(peekL M.mem a n).toArray⟩) w1 := by
    have := run_convert_bytes_back (P := Tryd.prog) w1 133 9 5 ⟨w.heap.size, 0, none⟩ n (peekL M.mem a n) Tryd.underlying133 Tryd.underlying5 Tryd.underlying9 (fun j hj => by
      have hjn : j < n := by rw [peekL_len] at hj; exact hj
      rw [Addr.add_lit, Nat.zero_add, peekL_get M.mem a n j hj HM.out]
      simp only [World.cell?, q1]
      exact q3 j hjn)
    rw [peekL_len] at this
    exact this
  clear HR q1 q2 q3 q4 hmk
  go_wp2
  go_ret2
  exact ⟨rfl, HB1.out⟩
theorem h_Peek_any (w : World) (p : Nat) (L : Lay) (M : Mc) (a : Int) (n : Nat) (h : HAt w p L M) (hm : MemOk M.mem) (a0 : 0 ≤ a) (a1 : a < 4294967296) (hn : n ≤ 4096) :
    Calls Tryd.prog 30 #[.pointer (some ⟨p, 0, none⟩), .int .u32 a, .int .i64 n] w fun e w' => e = .returned (.tuple #[.string ⟨(peekL M.mem a n).toArray⟩, .int .i64 0]) ∧ Below w.heap.size w w' := by
  have hc := h.cell
  have HP : Hid (Calls Tryd.prog 58 #[.pointer (some ⟨L.b, 0, none⟩), .int .u32 a, .int .i64 n] w fun e w' => e = .returned (.tuple #[.string ⟨(peekL M.mem a n).toArray⟩, .int .i64 0]) ∧ Below w.heap.size w w') := m_Peek_any w L M a n h.at' hm a0 a1 hn
  clear h hm
  generalize peekL M.mem a n = l at *
  go_enter Tryd.func30, Tryd.ntmps30
  go_wp2_with fail
  refine Calls.mono HP.out ?_
  rintro e w1 ⟨rfl, hb1⟩
  have HB1 : Hid (Below w.heap.size w w1) := hb1
  clear hb1
  go_wp2
  go_ret2
  exact ⟨rfl, HB1.out⟩
end Go.Proofs.YtdcmdjeooklmjaaDoor
