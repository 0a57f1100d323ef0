/-
  P0 in one text.
-/
import Derived.Test.YtdcmdjeooklmjaaDoorRows
import Derived.Test.YtdcmdjeooklmjaaDoorGN
import Derived.Test.YtdcmdjeooklmjaaDoorGJ
import Derived.ProofKit
import Derived.LaidMore
import Derived.OpenShut
import Derived.Stop.Joined
import Derived.Lib.SmallJoins
set_option linter.unusedVariables false
set_option linter.unusedSimpArgs false
/-
  From the row's conditions to what the walks ask: the table of the Ops; five ints by value.
-/
namespace Go.Proofs.YtdcmdjeooklmjaaDoor
open Go.ChangeShapes Go.WideShapes Go.ChangeAt Go.WideMaps Go.WideElems Go.RowKit Go.Joins

theorem own : ownKnob Tryd.prog.godebug = none := by kernel_rfl

theorem laidOut : laidOutB Tryd.prog = true := by kernel_rfl

theorem gRows : Tryd.prog.globalNamed "hart/code.rows" = some 1 := by kernel_rfl

theorem tRows : (Tryd.prog.globals[1]?).map (·.type) = some 155 := by kernel_rfl

theorem cells53 : Tryd.prog.cellsOf 103 = 2 := by kernel_rfl

theorem cells51 : Tryd.prog.cellsOf 101 = 1 := by kernel_rfl

theorem cells24 : Tryd.prog.cellsOf 24 = 1 := by kernel_rfl

theorem cells23 : Tryd.prog.cellsOf 23 = 5 := by kernel_rfl

theorem cells3 : Tryd.prog.cellsOf 3 = 1 := by kernel_rfl

theorem datum_eq : (Rows.laid_hart_code_rows : DataW Unit) = .agg ((List.range 49).map fun k => .agg [.lit (.int .u8 (Hm.fmtT k)), .lit (.int .u32 (Hm.bitT k))]) := by kernel_rfl

theorem tab_of_var {W : World} {cs0 : Array Value} {f0 : Nat} {d : DataW Unit} {p0 : List MemPlace} {enc : TypeId × Value → Unit} {sp : Nat → Bool} {hl : Bool}
    (hv0 : W.var? Tryd.prog "hart/code.rows" = some cs0) (hdd : d = Rows.laid_hart_code_rows) (hd0 : DataW.trod enc Tryd.prog W 0 sp hl f0 155 cs0.toList = some (d, p0)) : Tab W := by
  subst hdd
  obtain ⟨xs, m1, rfl, hx1, hlen, hn, hel⟩ := DataW.trod_array Tryd.underlying155 hd0
  rw [datum_eq] at hx1
  simp only [Prod.mk.injEq, DataW.agg.injEq] at hx1
  have hcell : ∀ k, k < 49 → W.cell? ⟨1, k * 2, none⟩ = some (.int .u8 (Hm.fmtT k)) ∧ W.cell? ⟨1, k * 2 + 1, none⟩ = some (.int .u32 (Hm.bitT k)) := by
    intro k hk
    have hk' := hel k hk
    have hxk : k < xs.length := by omega
    rw [List.getElem?_eq_getElem hxk] at hk'
    have hdat : (xs[k]).1 = .agg [.lit (.int .u8 (Hm.fmtT k)), .lit (.int .u32 (Hm.bitT k))] := by
      have h1 := congrArg (fun l : List (DataW Unit) => l[k]?) hx1.1
      simp only [List.getElem?_map, List.getElem?_range hk, List.getElem?_eq_getElem hxk, Option.map_some] at h1
      exact (Option.some.inj h1).symm
    obtain ⟨y0, y1, n, hy, hl2, e0, e1⟩ := trod_struct2 Tryd.underlying103 hk'
    rw [hy] at hdat
    simp only [DataW.agg.injEq, List.cons.injEq, and_true] at hdat
    obtain ⟨n0, a0, b0, _⟩ := DataW.trod_int Tryd.underlying101 e0
    obtain ⟨n1, a1, b1, _⟩ := DataW.trod_int Tryd.underlying24 e1
    rw [b0, b1] at hdat
    simp only [DataW.lit.injEq, Lit.int.injEq, true_and] at hdat
    obtain ⟨rfl, rfl⟩ := hdat
    rw [cells51, cells53] at a0
    rw [cells24, cells53] at a1
    have v0 := World.var?_cell gRows hv0 (k * 2)
    have v1 := World.var?_cell gRows hv0 (k * 2 + 1)
    have g0 : cs0.toList[k * 2]? = some (.int .u8 (Hm.fmtT k)) := by
      have := congrArg (fun l : List Value => l[0]?) a0
      simpa [List.getElem?_take, List.getElem?_drop] using this
    have g1 : cs0.toList[k * 2 + 1]? = some (.int .u32 (Hm.bitT k)) := by
      have := congrArg (fun l : List Value => l[0]?) a1
      simpa [List.getElem?_take, List.getElem?_drop] using this
    rw [v0, v1]
    exact ⟨by simpa using g0, by simpa using g1⟩
  refine ⟨?_, hcell⟩
  have := (hcell 0 (by omega)).1
  exact World.block_lt_of_cell? W _ this

set_option maxRecDepth 100000 in
/-- Five ints by value. -/
theorem open_five {H : Type} {enc : TypeId × Value → H} {t : TypeId} {fs : Array Field} {W : World} {base : Nat} {v : Value} {d : DataW H} {p : List MemPlace}
    (hu : Tryd.prog.underlying t = some (.struct fs)) (hc : Tryd.prog.cellsOf t = 5) (hfs : fs.toList.map (fun f => (f.type, f.offset)) = [(3, 0), (3, 1), (3, 2), (3, 3), (3, 4)])
    (hv : Value.okWide Tryd.prog W .any base t v) (h : DataW.Trod enc Tryd.prog W 0 (fun _ => true) true t v d p) :
    ∃ a0 a1 a2 a3 a4 : Int, v = .agg #[.int .i64 a0, .int .i64 a1, .int .i64 a2, .int .i64 a3, .int .i64 a4] ∧ I64 a0 ∧ I64 a1 ∧ I64 a2 ∧ I64 a3 ∧ I64 a4 := by
  obtain ⟨cs, rfl, hsz⟩ := okWide_struct hu hv
  obtain ⟨fuel, hf⟩ := h
  obtain ⟨xs, n, rfl, _, hlen, hxs, hfld⟩ := DataW.trod_struct hu hf
  rw [hc] at hsz
  have hl : fs.toList.length = 5 := by have := congrArg List.length hfs; simpa using this
  have hsz5 : fs.size = 5 := by simpa using hl
  have step : ∀ i, i < 5 → ∃ a : Int, cs.toList[i]? = some (.int .i64 a) ∧ I64 a := by
    intro i hi
    have hfi : i < fs.size := by omega
    have h1 := hfld i fs[i] (by simp [hfi])
    have hty : (fs[i].type, fs[i].offset) = (3, i) := by
      have h2 := congrArg (fun l : List (TypeId × Nat) => l[i]?) hfs
      have hi' : i = 0 ∨ i = 1 ∨ i = 2 ∨ i = 3 ∨ i = 4 := by omega
      rcases hi' with rfl | rfl | rfl | rfl | rfl <;> simpa [hfi] using h2
    simp only [Prod.mk.injEq] at hty
    rw [hty.1, hty.2, cells3] at h1
    have hxi : i < xs.length := by omega
    rw [List.getElem?_eq_getElem hxi] at h1
    obtain ⟨a, e, _, hw⟩ := DataW.trod_int Tryd.underlying3 h1
    refine ⟨a, ?_, ?_⟩
    · have := congrArg (fun l : List Value => l[0]?) e
      simpa [List.getElem?_take, List.getElem?_drop, Value.cells] using this
    · have := bounds_i64 hw
      unfold I64
      omega
  obtain ⟨a0, e0, w0⟩ := step 0 (by omega)
  obtain ⟨a1, e1, w1⟩ := step 1 (by omega)
  obtain ⟨a2, e2, w2⟩ := step 2 (by omega)
  obtain ⟨a3, e3, w3⟩ := step 3 (by omega)
  obtain ⟨a4, e4, w4⟩ := step 4 (by omega)
  obtain ⟨l⟩ := cs
  match l, hsz with
  | [c0, c1, c2, c3, c4], _ =>
    simp at e0 e1 e2 e3 e4
    subst e0 e1 e2 e3 e4
    exact ⟨a0, a1, a2, a3, a4, rfl, w0, w1, w2, w3, w4⟩
end Go.Proofs.YtdcmdjeooklmjaaDoor
