/-
  PG in one text.
-/
import Derived.Test.YtdcmdjeooklmjaaDoorXP
import Derived.Test.YtdcmdjeooklmjaaDoorXE
import Derived.Test.YtdcmdjeooklmjaaDoorCards
import Derived.Test.YtdcmdjeooklmjaaDoorTie
import Derived.ChangeMaps5
import Derived.Deep.DeepHandedRow
import Derived.Deep.DeepWitnessRowRef
set_option linter.unusedVariables false
set_option linter.unusedSimpArgs false
/-
  The row of the law Alike (its second form), and its tied card.
-/
namespace Go.Proofs.YtdcmdjeooklmjaaDoor
open Go.ChangeShapes Go.WideShapes Go.ChangeAt Go.WideMaps Go.WideElems Go.RowKit Go.Joins
/-- No machine, no program. -/
def noSetup3 : Value := .agg #[.int .i64 0, .int .i64 0, .bool false, .slice none 0 0, .slice none 0 0, .string ⟨#[]⟩]
set_option maxRecDepth 100000 in
theorem cells_slice {W : World} {base : Nat} {v u : Value} (hv : Value.okWide Tryd.prog W .any base 50 v) (h : v.cells.toList = [u]) : v = u := by
  obtain ⟨a, len, cap, rfl⟩ := okWide_slice Tryd.underlying50 hv
  simp only [Value.cells, List.cons.injEq, and_true] at h
  exact h
set_option maxRecDepth 100000 in
theorem alike_contract (H : Type) (enc : TypeId × Value → H) (W : World) (base : Nat) (args : Array Value) (ds gs : List (DataW H)) (before : List MemPlace)
    (hval : ∀ (j : Nat) t v, Tryd.f8.params[j]? = some t → args[j]? = some v → Value.okWide Tryd.prog W .any base t v)
    (hW : DataW.Whole enc Tryd.prog Tryd.f8.params.toList Rows.alikeSpec.vars false W args.toList ds gs before) (hL : laidMetH Tryd.prog laidL2 W) (hk : Rows.uptoBulkAll (ds ++ gs) ≤ 1048576) :
    Calls Tryd.prog 8 args W fun e W' => ∃ v, e = .returned v ∧ Rows.alikeSpec.post enc Tryd.prog Tryd.f8 false true false false W args v W' := by
  have hW' := hW
  obtain ⟨p, q, hA0, hV, rfl, hfz, hnd⟩ := hW
  have hA : DataW.TrodAll enc Tryd.prog W 0 (fun _ => true) true Tryd.f8.params.toList args.toList ds p := hA0
  rw [Tryd.params8] at hA hval
  obtain ⟨v0, v1, v2, d0, d1, d2, p0, p1, p2, rfl, rfl, rfl, h0, h1, h2⟩ := trodAll_three hA
  obtain ⟨rfl, rfl⟩ := trodVars_none hV
  simp only [List.append_nil, Rows.uptoBulkAll] at hk
  obtain ⟨S, rv, pv, rfl, hS⟩ := open_setup (hval 0 53 v0 rfl rfl) h0 (by omega)
  obtain ⟨s, rfl, rfl, rfl, _⟩ := Go.ChangeMaps.open_string Tryd.underlying9 (hval 1 9 v1 rfl rfl) h1
  rw [bulk_text] at hk
  obtain ⟨⟨T⟩⟩ := s
  have hT : T.length ≤ 1048576 := by
    have e : (⟨⟨T⟩⟩ : ByteArray).data.toList = T := rfl
    rw [e] at hk; omega
  obtain ⟨n2, hn2⟩ := h2
  obtain ⟨av, xs, hav, hxs⟩ := open_u32s hn2
  obtain rfl : v2 = av := cells_slice (hval 2 50 v2 rfl rfl) hav
  have h2 : DataW.Trod enc Tryd.prog W 0 (fun _ => true) true 50 v2 d2 p2 := ⟨n2, hn2⟩
  refine (alike_walk S rv pv v2 T xs W (tabs_of_laid hL) hS hT hxs).mono fun e W' ⟨he, bel⟩ => ?_
  subst he
  have hlt : ∀ x ∈ p0 ++ [] ++ p2 ++ [], x.block < W.heap.size := fun x hx => hW'.lt x hx
  refine ⟨_, rfl, _, _, _, [], _, [], hW', trodAll_mk1 (shut_bool Tryd.underlying4 _), (trodAll_cons_mk (Trod_stays laidOut (by kernel_rfl) (of_decide_eq_true (by kernel_rfl)) h0 (fun x hx => ?_) (fun x hx => ?_)) (trodAll_cons_mk (Trod_stays laidOut (by kernel_rfl) (of_decide_eq_true (by kernel_rfl)) h1 (fun x hx => by cases hx) (fun x hx => by cases hx)) (trodAll_cons_mk (Trod_stays laidOut (by kernel_rfl) (of_decide_eq_true (by kernel_rfl)) h2 (fun x hx => ?_) (fun x hx => ?_)) trodAll_mk0))), rfl, bel.frame _, fun h => by cases h⟩
  · exact bel.same (hlt x (by simp [hx]))
  · simpa using hlt x (by simp [hx])
  · exact bel.same (hlt x (by simp [hx]))
  · simpa using hlt x (by simp [hx])
set_option maxRecDepth 100000 in
theorem alike_lifted (os : Os) (started : os.Started) (H : Type) (enc : TypeId × Value → H) (F : Stop.Interp) :
    ReturnsInHanded {} Tryd.checked os 8 .any ((Rows.OpenSpec.upto Rows.alikeSpec).preRow enc Tryd.prog Tryd.f8 Rows.alikeUptoRow.domain false Rows.alikeUptoRow.laid) (((Rows.OpenSpec.upto Rows.alikeSpec).at F).post enc Tryd.prog Tryd.f8 false true false false) := by
  refine returnsInHanded_of_row (C := Tryd.checked) (s := Rows.OpenSpec.upto Rows.alikeSpec) own started (by kernel_rfl) Tryd.func8
    (witness_row_atRef (enc := enc) (C := Tryd.checked) false (World.doorLaid Tryd.prog 132 os) #[noSetup3, .string ⟨#[]⟩, .slice none 0 0] rfl (by kernel_rfl) (by kernel_rfl) (by kernel_rfl)
      (OpenSpec.preRow_of_cond 8 (x := ([.agg [.lit (.int .i64 0), .lit (.int .i64 0), .lit (.bool false), .nil, .nil, .lit (.string [])], .lit (.string []), .nil], [], [])) (by kernel_rfl) (by kernel_rfl) (fun k hk => by cases hk; kernel_rfl) (by kernel_rfl) (door_met2 os _))) ?_
  intro W base args ds gs before hval hW _ hcond _ hL _ _
  exact alike_contract H enc W base args ds gs before hval hW hL (of_decide_eq_true (hcond _ rfl))
theorem alike_row_holds : Rows.AlikeUptoSaid :=
  OpenClaim.holds_of_cond 8 Tryd.f8 rfl rfl rfl rfl rfl rfl rfl ⟨rfl, rfl, rfl, rfl, rfl⟩ rfl rfl rfl rfl rfl (by kernel_rfl) Tryd.func8 (by kernel_rfl)
    (of_decide_eq_true (by kernel_rfl)) (by unfold Func.isWrapper; first | (rw [if_pos (by decide +kernel)]; kernel_rfl) | (rw [if_neg (by decide +kernel)]; exact ⟨rfl, rfl⟩))
    (fun os started H enc _ F => by rw [OpenClaim.pre_eq_preRow]; exact alike_lifted os started H enc F)
theorem alike_holds : Rows.AlikeUptoCardSaid :=
  Claim7.holds_tied_plain_at .later [] _ _ _ _ alike_row_holds (fun _ h => by cases h) (by kernel_rfl) (fun _ h => by cases h) alikeUpto_row_tie rfl ⟨rfl, rfl⟩ (by kernel_rfl) rfl
    (fun f fn hf hfn => by
      obtain rfl : f = 8 := Option.some.inj ((show Tryd.prog.funcNamed "hart/hartkeep.Alike" = some 8 by kernel_rfl).symm.trans hf) |>.symm
      obtain rfl : fn = Tryd.f8 := (Option.some.inj (Tryd.func8.symm.trans hfn)).symm
      exact ⟨by kernel_rfl, fun j t ht => by
        rw [Tryd.params8] at ht
        have hm : t ∈ [53, 9, 50] := by simpa using Array.mem_of_getElem? ht
        have hall : ([53, 9, 50].all fun u => !Tryd.prog.wantsStandIn u) = true := by kernel_rfl
        exact (show Tryd.prog.wantsStandIn t = false by simpa using List.all_eq_true.1 hall t hm)⟩)
    (by kernel_rfl)
#print axioms alike_holds
end Go.Proofs.YtdcmdjeooklmjaaDoor
