/-
  PE in one text.
-/
import Derived.Test.YtdcmdjeooklmjaaDoorGZ
import Derived.Test.YtdcmdjeooklmjaaDoorXA
import Derived.Deep.Slices
set_option linter.unusedVariables false
set_option linter.unusedSimpArgs false
/-
  From a row's arguments to what begun is handed: a Setup by value; sizes.
-/
namespace Go.Proofs.YtdcmdjeooklmjaaDoor
open Go.ChangeShapes Go.WideShapes Go.ChangeAt Go.WideMaps Go.WideElems Go.RowKit Go.Joins Go.Deep
set_option maxRecDepth 100000
theorem bulk_one {H : Type} (l : Lit) : 1 ≤ Rows.uptoBulk (DataW.lit (H := H) l) := by cases l <;> simp [Rows.uptoBulk]
/-- A part is no greater than all of it. -/
theorem bulk_in {H : Type} (l : List (DataW H)) : ∀ (i : Nat) (d : DataW H), l[i]? = some d → Rows.uptoBulk d ≤ Rows.uptoBulkAll l := by
  induction l with
  | nil => intro i d h; simp at h
  | cons x r ih =>
    intro i d h
    simp only [Rows.uptoBulkAll]
    cases i with
    | zero => simp at h; subst h; omega
    | succ i => have := ih i d (by simpa using h); omega
theorem bulk_text {H : Type} (l : List UInt8) : Rows.uptoBulk (DataW.lit (H := H) (.string l)) = l.length + 1 := by simp [Rows.uptoBulk]
theorem bulk_slice {H : Type} (l r : List (DataW H)) : Rows.uptoBulkAll l ≤ Rows.uptoBulk (.slice l r) := by simp only [Rows.uptoBulk]; omega
theorem list_five {α : Type} (l : List α) (h : l.length = 5) : ∃ a b c d e, l = [a, b, c, d, e] := by
  match l, h with
  | [a, b, c, d, e], _ => exact ⟨a, b, c, d, e, rfl⟩
theorem list_six {α : Type} (l : List α) (h : l.length = 6) : ∃ a b c d e f, l = [a, b, c, d, e, f] := by
  match l, h with
  | [a, b, c, d, e, f], _ => exact ⟨a, b, c, d, e, f, rfl⟩
section
variable {H : Type} {enc : TypeId × Value → H} {W : World} {sp : Nat → Bool} {hl : Bool}
theorem cells_raw : Tryd.prog.cellsOf 37 = 5 := by kernel_rfl
theorem cells_bool : Tryd.prog.cellsOf 4 = 1 := by kernel_rfl
theorem cells_string : Tryd.prog.cellsOf 9 = 1 := by kernel_rfl
theorem cells_u32s : Tryd.prog.cellsOf 50 = 1 := by kernel_rfl
theorem cells_raws : Tryd.prog.cellsOf 51 = 1 := by kernel_rfl
theorem cells_setup : Tryd.prog.cellsOf 53 = 6 := by kernel_rfl
/-- The five ints of a Raw. -/
theorem raw_cells {fuel : Nat} {cs : List Value} {x : DataW H × List MemPlace} (h : DataW.trod enc Tryd.prog W 0 sp hl fuel 37 cs = some x) : ∃ r : Raw5, cs = r.vs ∧ r.Ok := by
  obtain ⟨xs, n, rfl, _, hlen, hxs, hfld⟩ := DataW.trod_struct Tryd.underlying37 h
  rw [cells_raw] at hlen
  have step : ∀ i, i < 5 → ∃ a : Int, cs[i]? = some (.int .i64 a) ∧ I64 a := by
    intro i hi
    have hx : i < xs.length := by rw [hxs]; exact hi
    have key : DataW.trod enc Tryd.prog W 0 sp hl n 3 ((cs.drop i).take 1) = xs[i]? := by
      have hi' : i = 0 ∨ i = 1 ∨ i = 2 ∨ i = 3 ∨ i = 4 := by omega
      rcases hi' with rfl | rfl | rfl | rfl | rfl
      · have t : DataW.trod enc Tryd.prog W 0 sp hl n 3 ((cs.drop 0).take (Tryd.prog.cellsOf 3)) = xs[0]? := hfld 0 _ rfl
        rw [cells3] at t; exact t
      · have t : DataW.trod enc Tryd.prog W 0 sp hl n 3 ((cs.drop 1).take (Tryd.prog.cellsOf 3)) = xs[1]? := hfld 1 _ rfl
        rw [cells3] at t; exact t
      · have t : DataW.trod enc Tryd.prog W 0 sp hl n 3 ((cs.drop 2).take (Tryd.prog.cellsOf 3)) = xs[2]? := hfld 2 _ rfl
        rw [cells3] at t; exact t
      · have t : DataW.trod enc Tryd.prog W 0 sp hl n 3 ((cs.drop 3).take (Tryd.prog.cellsOf 3)) = xs[3]? := hfld 3 _ rfl
        rw [cells3] at t; exact t
      · have t : DataW.trod enc Tryd.prog W 0 sp hl n 3 ((cs.drop 4).take (Tryd.prog.cellsOf 3)) = xs[4]? := hfld 4 _ rfl
        rw [cells3] at t; exact t
    rw [List.getElem?_eq_getElem hx] at key
    obtain ⟨a, e, _, hw⟩ := DataW.trod_int Tryd.underlying3 key
    refine ⟨a, ?_, ?_⟩
    · have := congrArg (fun l : List Value => l[0]?) e
      simpa [List.getElem?_take, List.getElem?_drop] using this
    · have := bounds_i64 hw; unfold I64; omega
  obtain ⟨a0, e0, w0⟩ := step 0 (by omega)
  obtain ⟨a1, e1, w1⟩ := step 1 (by omega)
  obtain ⟨a2, e2, w2⟩ := step 2 (by omega)
  obtain ⟨a3, e3, w3⟩ := step 3 (by omega)
  obtain ⟨a4, e4, w4⟩ := step 4 (by omega)
  obtain ⟨c0, c1, c2, c3, c4, rfl⟩ := list_five cs hlen
  simp at e0 e1 e2 e3 e4
  subst e0 e1 e2 e3 e4
  exact ⟨⟨a0, a1, a2, a3, a4⟩, rfl, ⟨w0, w1, w2, w3, w4⟩⟩
theorem add_none (g o i : Nat) : (⟨g, o, none⟩ : Addr).add i = ⟨g, o + i, none⟩ := by
  unfold Addr.add
  split
  · subst_vars; rfl
  · rfl
theorem addr_none {a : Addr} {v : Value} (h : W.cell? a = some v) : a = ⟨a.block, a.off, none⟩ := by
  have := World.cell?_spot h
  obtain ⟨g, o, s⟩ := a
  simp at this; subst this; rfl
theorem lt_of_cell {g o : Nat} {v : Value} (h : W.cell? ⟨g, o, none⟩ = some v) : g < W.heap.size := World.block_lt_of_cell? W _ h
/-- A slice of uint32 that came in. -/
theorem open_u32s {fuel : Nat} {cs : List Value} {x : DataW H × List MemPlace} (h : DataW.trod enc Tryd.prog W 0 (fun _ => true) true fuel 50 cs = some x) : ∃ v rs, cs = [v] ∧ SlU W v rs := by
  rcases open_ints Tryd.underlying50 Tryd.underlying24 cells24 h with ⟨rfl, rfl⟩ | ⟨a, len, cap, zs, rfl, _, hlc, hcm, hzl, rfl, hc, hw⟩
  · exact ⟨_, [], rfl, ⟨fun i => by simp, by simp, none, 0, rfl, .inl rfl⟩⟩
  · simp only [if_true] at hzl
    have hmx : maxLen = 9223372036854775807 := by unfold maxLen; rfl
    have hrl : (zs.take len).length = len := by rw [List.length_take]; omega
    refine ⟨_, zs.take len, rfl, ⟨fun i => ?_, by rw [hrl]; omega, some a, cap, by rw [hrl], ?_⟩⟩
    · by_cases hi : i < (zs.take len).length
      · have hm : (zs.take len).getD i 0 ∈ zs := by
          rw [List.getD_eq_getElem?_getD, List.getElem?_eq_getElem hi]
          exact List.mem_of_mem_take (List.getElem_mem hi)
        have := bounds_u32 (hw _ hm)
        omega
      · rw [List.getD_eq_getElem?_getD, List.getElem?_eq_none (by omega)]; simp
    · rw [hrl]
      by_cases h0 : len = 0
      · exact .inl h0
      · right
        have c0 := hc 0 (by omega)
        have e : a.add 0 = a := rfl
        rw [e] at c0
        have ea := addr_none c0
        generalize a.block = g at *
        generalize a.off = o at *
        subst ea
        refine ⟨g, o, rfl, lt_of_cell c0, fun i hi => ?_⟩
        have := hc i (by omega)
        rw [add_none] at this
        rw [this, List.getD_eq_getElem?_getD, List.getD_eq_getElem?_getD, List.getElem?_take_of_lt hi]
/-- A slice of Raw that came in. -/
theorem open_raws {fuel : Nat} {cs : List Value} {x : DataW H × List MemPlace} (h : DataW.trod enc Tryd.prog W 0 (fun _ => true) true fuel 51 cs = some x) : ∃ v ps, cs = [v] ∧ SlR W v ps := by
  rcases open_slice Tryd.underlying51 h with ⟨rfl, rfl⟩ | ⟨a, len, cap, m, n, D, Pl, rfl, _, hlc, hcm, hmm, rfl, hc⟩
  · exact ⟨_, [], rfl, ⟨fun r hr => (by cases hr), by simp, none, 0, rfl, .inl rfl⟩⟩
  · simp only [if_true] at hmm
    subst hmm
    have hmx : maxLen = 9223372036854775807 := by unfold maxLen; rfl
    rw [cells_raw] at hc
    haveI : Inhabited Raw5 := ⟨⟨0, 0, 0, 0, 0⟩⟩
    obtain ⟨f, hf⟩ := choose_lt (α := Raw5) (n := m) (p := fun i r => W.cells? 0 (a.add (i * 5)) 5 = some r.vs ∧ r.Ok) (fun i hi => by
      obtain ⟨cs', h1, h2⟩ := hc i hi
      obtain ⟨r, rfl, hr⟩ := raw_cells h2
      exact ⟨r, h1, hr⟩)
    have hpl : ((List.range len).map f).length = len := by simp
    refine ⟨_, (List.range len).map f, rfl, ⟨fun r hr => ?_, by rw [hpl]; omega, some a, m, by rw [hpl], ?_⟩⟩
    · obtain ⟨i, hi, rfl⟩ := List.mem_map.1 hr
      exact (hf i (by have := List.mem_range.1 hi; omega)).2
    · rw [hpl]
      by_cases h0 : len = 0
      · exact .inl h0
      · right
        obtain ⟨_, _, c0⟩ := World.cells?_some (hf 0 (by omega)).1
        have c00 := c0 0 (by omega)
        have e : (a.add (0 * 5)).add 0 = a := rfl
        rw [e] at c00
        have ea := addr_none (v := .int .i64 (f 0).op) c00
        generalize a.block = g at *
        generalize a.off = o at *
        subst ea
        refine ⟨g, o, rfl, lt_of_cell (v := .int .i64 (f 0).op) c00, fun i r hr j u hj => ?_⟩
        have hi : i < len := by have := (List.getElem?_eq_some_iff.1 hr).1; simpa using this
        rw [List.getElem?_map, List.getElem?_range hi] at hr
        simp at hr
        subst hr
        obtain ⟨_, _, ci⟩ := World.cells?_some (hf i (by omega)).1
        have hj5 : j < 5 := (List.getElem?_eq_some_iff.1 hj).1
        have := ci j hj5
        rw [add_none, add_none] at this
        rw [this, hj]
/-- A Setup by value. -/
theorem open_setup {base : Nat} {v : Value} {d : DataW H} {p : List MemPlace} (hv : Value.okWide Tryd.prog W .any base 53 v) (h : DataW.Trod enc Tryd.prog W 0 (fun _ => true) true 53 v d p) (hd : Rows.uptoBulk d ≤ 1048576) :
    ∃ S rv pv, v = .agg (suCells S rv pv) ∧ SuAt W S rv pv := by
  obtain ⟨cs, rfl, hsz⟩ := okWide_struct Tryd.underlying53 hv
  obtain ⟨fuel, hf⟩ := h
  obtain ⟨xs, n, rfl, hx, hlen, hxs, hfld⟩ := DataW.trod_struct Tryd.underlying53 hf
  rw [cells_setup] at hsz
  obtain ⟨l⟩ := cs
  obtain ⟨c0, c1, c2, c3, c4, c5, rfl⟩ := list_six l hsz
  have hxl : xs.length = 6 := hxs
  have k0 : DataW.trod enc Tryd.prog W 0 (fun _ => true) true n 3 (([c0, c1, c2, c3, c4, c5].drop 0).take (Tryd.prog.cellsOf 3)) = xs[0]? := hfld 0 _ rfl
  have k1 : DataW.trod enc Tryd.prog W 0 (fun _ => true) true n 3 (([c0, c1, c2, c3, c4, c5].drop 1).take (Tryd.prog.cellsOf 3)) = xs[1]? := hfld 1 _ rfl
  have k2 : DataW.trod enc Tryd.prog W 0 (fun _ => true) true n 4 (([c0, c1, c2, c3, c4, c5].drop 2).take (Tryd.prog.cellsOf 4)) = xs[2]? := hfld 2 _ rfl
  have k3 : DataW.trod enc Tryd.prog W 0 (fun _ => true) true n 50 (([c0, c1, c2, c3, c4, c5].drop 3).take (Tryd.prog.cellsOf 50)) = xs[3]? := hfld 3 _ rfl
  have k4 : DataW.trod enc Tryd.prog W 0 (fun _ => true) true n 51 (([c0, c1, c2, c3, c4, c5].drop 4).take (Tryd.prog.cellsOf 51)) = xs[4]? := hfld 4 _ rfl
  have k5 : DataW.trod enc Tryd.prog W 0 (fun _ => true) true n 9 (([c0, c1, c2, c3, c4, c5].drop 5).take (Tryd.prog.cellsOf 9)) = xs[5]? := hfld 5 _ rfl
  rw [cells3, List.getElem?_eq_getElem (by omega)] at k0 k1
  rw [cells_bool, List.getElem?_eq_getElem (by omega)] at k2
  rw [cells_u32s, List.getElem?_eq_getElem (by omega)] at k3
  rw [cells_raws, List.getElem?_eq_getElem (by omega)] at k4
  rw [cells_string, List.getElem?_eq_getElem (by omega)] at k5
  obtain ⟨a0, e0, _, w0⟩ := DataW.trod_int Tryd.underlying3 k0
  obtain ⟨a1, e1, _, w1⟩ := DataW.trod_int Tryd.underlying3 k1
  obtain ⟨a2, e2, _⟩ := DataW.trod_bool Tryd.underlying4 k2
  obtain ⟨rv, rs, e3, hrs⟩ := open_u32s k3
  obtain ⟨pv, ps, e4, hps⟩ := open_raws k4
  obtain ⟨s, e5, hx5, _⟩ := DataW.trod_string Tryd.underlying9 k5
  simp [Value.cells] at e0 e1 e2 e3 e4 e5
  subst e0 e1 e2 e3 e4 e5
  refine ⟨⟨a0, a1, a2, rs, ps, s.data.toList⟩, c3, c4, by simp [suCells], ⟨?_, ?_, hrs, hps, ?_⟩⟩
  · have := bounds_i64 w0; show I64 a0; unfold I64; omega
  · have := bounds_i64 w1; show I64 a1; unfold I64; omega
  · show s.data.toList.length ≤ 1048576
    have e : d = .agg (xs.map (·.1)) := congrArg Prod.fst hx
    have h5 : (xs.map (·.1))[5]? = some (.lit (.string s.data.toList)) := by
      rw [List.getElem?_map, List.getElem?_eq_getElem (by omega), hx5]; rfl
    have := bulk_in _ 5 _ h5
    rw [bulk_text] at this
    rw [e] at hd
    simp only [Rows.uptoBulk] at hd
    omega
end
end Go.Proofs.YtdcmdjeooklmjaaDoor
