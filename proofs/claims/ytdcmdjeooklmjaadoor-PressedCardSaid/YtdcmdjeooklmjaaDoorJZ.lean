/-
  P4 in one text.
-/
import Derived.Test.YtdcmdjeooklmjaaDoorKA
import Derived.Test.YtdcmdjeooklmjaaDoorJX
import Derived.ProofKit
import Derived.LaidMore
import Derived.OpenShut
import Derived.Stop.Joined
import Derived.Lib.SmallJoins
set_option linter.unusedVariables false
set_option linter.unusedSimpArgs false
/-
  From the row's conditions to what the walks ask: both tables; five ints by value.
-/
namespace Go.Proofs.YtdcmdjeooklmjaaDoor
open Go.ChangeShapes Go.WideShapes Go.ChangeAt Go.WideMaps Go.WideElems Go.RowKit Go.Joins

theorem gShort : Tryd.prog.globalNamed "hart/code.shortRows" = some 0 := by kernel_rfl
theorem tShort : (Tryd.prog.globals[0]?).map (·.type) = some 122 := by kernel_rfl

theorem cells86 : Tryd.prog.cellsOf 121 = 8 := by kernel_rfl


def laidL2 : List (String × DataW Unit) := [("hart/code.shortRows", Rows.laid_hart_code_shortRows), ("hart/code.rows", Rows.laid_hart_code_rows)]

theorem datum2_eq : (Rows.laid_hart_code_shortRows : DataW Unit) = .agg ((List.range 26).map fun k => .agg [.lit (.int .u16 (Hm.rowC k).mask), .lit (.int .u16 (Hm.rowC k).bits), .lit (.int .u8 (Hm.rowC k).op), .lit (.int .u8 (Hm.rowC k).rd), .lit (.int .u8 (Hm.rowC k).rs1), .lit (.int .u8 (Hm.rowC k).rs2), .lit (.int .u8 (Hm.rowC k).imm), .lit (.int .u8 (Hm.rowC k).not')]) := by kernel_rfl

/-- The door's own heap meets the condition. -/
theorem door_met2 (os : Os) (args : Array Value) : laidMetH Tryd.prog laidL2 ((World.doorLaid Tryd.prog 132 os).forCall (fun _ _ => 0) ⟨#[], args, []⟩).memory :=
  laidMetH_of_parts3 (fuel := 8) (laidMet_of_run' 8 (by kernel_rfl) (by kernel_rfl)) (by kernel_rfl) (by kernel_rfl)

theorem one_cell {enc : TypeId × Value → Unit} {W : World} {b n o c : Nat} {sp : Nat → Bool} {hl : Bool} {t : TypeId} {kd : IntKind} {cs : List Value} {y : DataW Unit × List MemPlace} {v : Int}
    (hu : Tryd.prog.underlying t = some (.int kd)) (hc : Tryd.prog.cellsOf t = 1) (h : DataW.trod enc Tryd.prog W b sp hl n t ((((cs.drop c).take 8).drop o).take (Tryd.prog.cellsOf t)) = some y) (ho : o < 8) (hd : y.1 = .lit (.int kd v)) : cs[c + o]? = some (.int kd v) := by
  obtain ⟨n0, a0, b0, _⟩ := DataW.trod_int hu h
  rw [b0] at hd
  simp only [DataW.lit.injEq, Lit.int.injEq, true_and] at hd
  subst hd
  rw [hc] at a0
  have := congrArg (fun l : List Value => l[0]?) a0
  simpa [List.getElem?_take, List.getElem?_drop, ho] using this

theorem short_of_var {W : World} {cs0 : Array Value} {f0 : Nat} {d : DataW Unit} {p0 : List MemPlace} {enc : TypeId × Value → Unit} {sp : Nat → Bool} {hl : Bool}
    (hv0 : W.var? Tryd.prog "hart/code.shortRows" = some cs0) (hdd : d = Rows.laid_hart_code_shortRows) (hd0 : DataW.trod enc Tryd.prog W 0 sp hl f0 122 cs0.toList = some (d, p0)) :
    ∀ k, k < 26 → W.rangeAt 0 (k * 8) (rowRL (Hm.rowC k)).toList := by
  subst hdd
  obtain ⟨xs, m1, rfl, hx1, hlen, hn, hel⟩ := DataW.trod_array Tryd.underlying122 hd0
  rw [datum2_eq] at hx1
  simp only [Prod.mk.injEq, DataW.agg.injEq] at hx1
  intro k hk
  have hk' := hel k hk
  have hxk : k < xs.length := by omega
  rw [List.getElem?_eq_getElem hxk] at hk'
  have hdat : (xs[k]).1 = .agg [.lit (.int .u16 (Hm.rowC k).mask), .lit (.int .u16 (Hm.rowC k).bits), .lit (.int .u8 (Hm.rowC k).op), .lit (.int .u8 (Hm.rowC k).rd), .lit (.int .u8 (Hm.rowC k).rs1), .lit (.int .u8 (Hm.rowC k).rs2), .lit (.int .u8 (Hm.rowC k).imm), .lit (.int .u8 (Hm.rowC k).not')] := by
    have h1 := congrArg (fun l : List (DataW Unit) => l[k]?) hx1.1
    simp only [List.getElem?_map, List.getElem?_range hk, List.getElem?_eq_getElem hxk, Option.map_some] at h1
    exact (Option.some.inj h1).symm
  obtain ⟨ys, n, -, hy, -, hl8, hfld⟩ := DataW.trod_struct Tryd.underlying121 hk'
  rw [hy] at hdat
  simp only [DataW.agg.injEq] at hdat
  rw [cells86] at hfld
  match ys, hl8, hdat, hfld with
  | [y0, y1, y2, y3, y4, y5, y6, y7], _, hdat, hfld =>
    simp only [List.map_cons, List.map_nil, List.cons.injEq, and_true] at hdat
    obtain ⟨d0, d1, d2, d3, d4, d5, d6, d7⟩ := hdat
    have e0 := one_cell Tryd.underlying40 (by kernel_rfl) (hfld 0 _ rfl) (by decide) d0
    have e1 := one_cell Tryd.underlying40 (by kernel_rfl) (hfld 1 _ rfl) (by decide) d1
    have e2 := one_cell Tryd.underlying5 (by kernel_rfl) (hfld 2 _ rfl) (by decide) d2
    have e3 := one_cell Tryd.underlying117 (by kernel_rfl) (hfld 3 _ rfl) (by decide) d3
    have e4 := one_cell Tryd.underlying117 (by kernel_rfl) (hfld 4 _ rfl) (by decide) d4
    have e5 := one_cell Tryd.underlying117 (by kernel_rfl) (hfld 5 _ rfl) (by decide) d5
    have e6 := one_cell Tryd.underlying118 (by kernel_rfl) (hfld 6 _ rfl) (by decide) d6
    have e7 := one_cell Tryd.underlying119 (by kernel_rfl) (hfld 7 _ rfl) (by decide) d7
    intro j v hj
    rw [World.var?_cell gShort hv0, ← Array.getElem?_toList]
    have hj8 : j < 8 := by
      have := List.getElem?_eq_some_iff.1 hj
      obtain ⟨h, _⟩ := this
      simpa [rowRL] using h
    have hj' : j = 0 ∨ j = 1 ∨ j = 2 ∨ j = 3 ∨ j = 4 ∨ j = 5 ∨ j = 6 ∨ j = 7 := by omega
    rcases hj' with rfl | rfl | rfl | rfl | rfl | rfl | rfl | rfl <;> simp [rowRL] at hj <;> subst hj <;> assumption

set_option maxRecDepth 100000 in
theorem tabs_of_laid {W : World} (h : laidMetH Tryd.prog laidL2 W) : Tabs W := by
  rw [MakeChecks.laidMetH_plain _ _ _ (by kernel_rfl)] at h
  obtain ⟨ps, ⟨g0, t0, cs0, f0, p0, q0, hg0, ht0, hv0, hd0, ⟨g1, t1, cs1, f1, p1, q1, hg1, ht1, hv1, hd1, _, _⟩, _⟩, _, _⟩ := h
  obtain rfl := Option.some.inj (gShort.symm.trans hg0)
  obtain rfl := Option.some.inj (tShort.symm.trans ht0)
  obtain rfl := Option.some.inj (gRows.symm.trans hg1)
  obtain rfl := Option.some.inj (tRows.symm.trans ht1)
  have hr := short_of_var hv0 rfl hd0
  refine ⟨tab_of_var hv1 rfl hd1, ?_, hr⟩
  exact World.block_lt_of_cell? W _ (hr 0 (by decide) 0 _ rfl)

end Go.Proofs.YtdcmdjeooklmjaaDoor
