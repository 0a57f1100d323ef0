/-
  OK PC in one text.
-/
import Derived.Test.YtdcmdjeooklmjabDoorWK
import Derived.Test.YtdcmdjeooklmjabDoorWR
import Derived.Test.YtdcmdjeooklmjabDoorWS
import Derived.Test.YtdcmdjeooklmjabDoorGZ
import Derived.Test.YtdcmdjeooklmjabDoorCards
import Derived.Test.YtdcmdjeooklmjabDoorTie
set_option linter.unusedVariables false
set_option linter.unusedSimpArgs false
/-
  Walks: the law Kept (made by gen_OK2.py).
-/
namespace Go.Proofs.YtdcmdjeooklmjabDoor
open Go.RowKit Go.PageMap Go.Maps
set_option maxRecDepth 100000
set_option maxHeartbeats 40000000 in
theorem kept_walk (addr v fill : Int) (w : World) (ht : Tabs w) (a0 : 0 ≤ addr) (a1 : addr < 4294967296) (v0 : 0 ≤ v) (v1 : v < 4294967296) (f0 : 0 ≤ fill) (f1 : fill < 256) :
    Calls Tryd.prog 4 #[.int .u32 addr, .int .u32 v, .int .u8 fill] w fun e w' => e = .returned (.bool true) ∧ Below w.heap.size w w' := by
  have HT : Hid (Tabs w) := ht
  have HA : Hid ((0 ≤ addr ∧ addr < 4294967296) ∧ (0 ≤ v ∧ v < 4294967296) ∧ 0 ≤ fill ∧ fill < 256) := ⟨⟨a0, a1⟩, ⟨v0, v1⟩, f0, f1⟩
  clear ht
  go_enter Tryd.func4, Tryd.ntmps4
  go_wp2_with (with_reducible refine' stop_build (t := 30) ?_)
  refine go_on ?_
  have HBU : Hid (Tryd.prog.built 30 [(1, .int .i64 16)] = some (cfgCells 0 16 false (fun _ => 0))) := by unfold Hid; kernel_rfl
  have hC0 : (cfgCells 0 16 false (fun _ => 0)).size = 35 := by kernel_rfl
  have hC1 : (cfgCells 0 16 false (fun _ => 0)).all (·.oneCell') = true := by kernel_rfl
  have HC4 : Hid ((cfgCells 0 16 false (fun _ => 0))[4]? = some (.int .u32 0) ∧ (cfgCells 0 16 false (fun _ => 0))[5]? = some (.int .u32 0)) := ⟨by kernel_rfl, by kernel_rfl⟩
  have HCS : Hid (((cfgCells 0 16 false (fun _ => 0)).setIfInBounds 4 (.int .u32 addr)).setIfInBounds 5 (.int .u32 v) = cfgCells 0 16 false (aloneR addr v)) := by unfold Hid; kernel_rfl
  generalize cfgCells 0 16 false (fun _ => 0) = C at *
  refine wl_build (cells := C) ((congrArg (Tryd.prog.built 30) (by simp [Act.eval])).trans HBU.out) ?_
  go_wp2_with (with_reducible refine' stop_store (t := 30) ?_)
  refine go_on ?_
  generalize hW : w.alloc _ = W2
  have HF2 : Hid (Below w.heap.size w W2 ∧ W2.heap.size = w.heap.size + 1 ∧ ∃ Z : Array Value, W2.heap[w.heap.size]? = some (.cells Z 30 (0, 0)) ∧ Z.size = 35) := by
    rw [Hid, ← hW]; exact ⟨(Below.refl _ _).alloc (Nat.le_refl _) _, by simp, _, heap_alloc_new _ _, rfl⟩
  clear hW
  obtain ⟨Z, hz1, hz2⟩ := HF2.out.2.2
  refine wl_store_row (cells := C) (g := w.heap.size) (old := Z) (t' := 30) rfl rfl hz1 (by rw [hC0]; kernel_rfl) (by rw [hC0]; exact hz2) hC1 (fun W3 hW3 => ?_)
  have HF3 : Hid (Below w.heap.size w W3 ∧ W3.heap.size = w.heap.size + 1 ∧ W3.heap[w.heap.size]? = some (.cells C 30 (0, 0))) := by
    rw [Hid, hW3.out]
    exact ⟨HF2.out.1.trans ⟨rfl, rfl, rfl, by simp, fun k hk => setRow_other _ _ _ _ (by omega)⟩, (by simp [HF2.out.2.1]), setRow_heap _ _ _ _ _ _ hz1⟩
  clear hW3 hz1 hz2 HF2 HBU
  have g4 : W3.cell? ⟨w.heap.size, 4, none⟩ = some (.int .u32 0) := by simp only [World.cell?, HF3.out.2.2]; exact HC4.out.1
  have g5 : W3.cell? ⟨w.heap.size, 5, none⟩ = some (.int .u32 0) := by simp only [World.cell?, HF3.out.2.2]; exact HC4.out.2
  have f4 : W3.frozen? ⟨w.heap.size, 4, none⟩ = false := by simp [World.frozen?, HF3.out.2.2]
  have f5 : W3.frozen? ⟨w.heap.size, 5, none⟩ = false := by simp [World.frozen?, HF3.out.2.2]
  go_wp2_with fail
  rw [HF3.out.2.1]
  have HKW : Hid (KW w 0 addr v w.heap.size ((((W3.setCell ⟨w.heap.size, 4, none⟩ (.int .u32 addr)).setCell ⟨w.heap.size, 5, none⟩ (.int .u32 v)).alloc (.cells #[.int .i64 18, .int .i64 17, .int .i64 16] 3)).alloc (.cells #[.int .i64 4, .int .i64 2, .int .i64 1] 3))) := by
    refine KW.start ((HF3.out.1.setCell (Nat.le_refl _) _).setCell (Nat.le_refl _) _) (by simp [World.setCell, HF3.out.2.1]) ?_
    rw [← HCS.out]
    exact heap_setCell_same _ _ _ _ _ _ (heap_setCell_same _ _ _ _ _ _ HF3.out.2.2)
  generalize (((W3.setCell ⟨w.heap.size, 4, none⟩ (.int .u32 addr)).setCell ⟨w.heap.size, 5, none⟩ (.int .u32 v)).alloc (.cells #[.int .i64 18, .int .i64 17, .int .i64 16] 3)).alloc (.cells #[.int .i64 4, .int .i64 2, .int .i64 1] 3) = WL at *
  clear g4 g5 f4 f5 HF3 HC4 HCS hC0 hC1
  obtain ⟨b, hbb⟩ : ∃ b, b = w.heap.size := ⟨_, rfl⟩
  have HBB : Hid (b = w.heap.size) := hbb
  rw [← hbb] at HKW ⊢
  clear hbb
  go_loopg [11] 3 (fun g kv wr => ∃ (k : Nat) (q : Int), k + g = 3 ∧ kv = .int .i64 k ∧ Hid (KW w q addr v b wr))
  case atStart => exact ⟨0, 0, rfl, rfl, HKW⟩
  case round =>
    obtain ⟨k, q, hk, rfl, hrel⟩ := hrel
    clear HKW
    by_cases hk3 : k < 3
    · have hk' : k = 0 ∨ k = 1 ∨ k = 2 := by omega
      rcases hk' with rfl | rfl | rfl
      · refine kept_round0 addr v fill w wr b q _ _ _ _ _ _ _ _ _ _ _ _ _ _ _ _ _ _ _ _ _ _ _ _ _ _ _ _ _ _ _ _ _ _ _ _ _ _ _ _ _ _ _ _ _ _ _ _ _ _ _ _ _ _ _ _ _ _ _ _ _ _ _ _ _ _ _ _ _ _ _ _ _ _ _ _ _ _ _ _ _ _ _ _ _ _ _ _ _ _ _ _ _ _ _ _ _ _ _ _ _ _ _ _ _ _ _ _ _ _ _ _ _ _ _ _ _ _ _ _ _ _ _ _ _ _ _ _ _ _ _ _ _ _ _ _ _ _ _ _ _ _ _ _ _ _ _ _ _ _ _ _ _ _ _ _ _ _ _ _ _ _ _ _ _ _ _ _ _ _ _ _ _ _ _ _ _ _ _ _ _ _ _ _ HT a0 a1 v0 v1 f0 f1 hrel ?_
        intro u6 u12 u13 u14 u15 u16 u17 u18 u19 u20 u21 u22 u23 u24 u36 u37 u38 u39 u40 u41 u42 u43 u44 u45 u46 u47 u48 u49 u50 u51 u52 u53 u54 u55 u56 u57 u58 u59 u60 u61 u62 u63 u64 u65 u66 u67 u68 u69 u70 u71 u72 u73 u74 u75 u76 u77 u78 u79 u80 u81 u82 u83 u84 u85 u86 u87 u88 u89 u90 u91 u92 u93 u94 u95 u96 u97 u98 u99 u100 u101 u102 u103 u104 u105 u106 u107 u108 u109 u110 u111 u112 u113 u114 u115 u116 u117 u118 u119 u120 u121 u122 u123 u124 u125 u126 u127 u128 u129 u130 u131 u132 u133 u134 u135 u136 u137 u138 u139 u140 u141 u142 u143 u144 u145 u146 u147 u148 u149 u150 u151 u152 u153 u154 u155 u156 u157 u158 u159 u160 u161 u162 u163 u164 u165 u166 u167 u168 u169 u170 u171 u172 u173 u174 u175 u176 u177 u178 u179 u180 u181 u182 u183 u184 u185 u186 u187 u188 u189 u190 u191 u192 u193 u194 u195 u196 u197 u198 u199 u200 u201 u202 w' q' hq'
        go_wp2_with fail
        go_roundg 2
        case measure => omega
        case rel => exact ⟨1, q', by omega, rfl, hq'⟩
      · refine kept_round1 addr v fill w wr b q _ _ _ _ _ _ _ _ _ _ _ _ _ _ _ _ _ _ _ _ _ _ _ _ _ _ _ _ _ _ _ _ _ _ _ _ _ _ _ _ _ _ _ _ _ _ _ _ _ _ _ _ _ _ _ _ _ _ _ _ _ _ _ _ _ _ _ _ _ _ _ _ _ _ _ _ _ _ _ _ _ _ _ _ _ _ _ _ _ _ _ _ _ _ _ _ _ _ _ _ _ _ _ _ _ _ _ _ _ _ _ _ _ _ _ _ _ _ _ _ _ _ _ _ _ _ _ _ _ _ _ _ _ _ _ _ _ _ _ _ _ _ _ _ _ _ _ _ _ _ _ _ _ _ _ _ _ _ _ _ _ _ _ _ _ _ _ _ _ _ _ _ _ _ _ _ _ _ _ _ _ _ _ _ HT a0 a1 v0 v1 f0 f1 hrel ?_
        intro u6 u12 u13 u14 u15 u16 u17 u18 u19 u20 u21 u22 u23 u24 u36 u37 u38 u39 u40 u41 u42 u43 u44 u45 u46 u47 u48 u49 u50 u51 u52 u53 u54 u55 u56 u57 u58 u59 u60 u61 u62 u63 u64 u65 u66 u67 u68 u69 u70 u71 u72 u73 u74 u75 u76 u77 u78 u79 u80 u81 u82 u83 u84 u85 u86 u87 u88 u89 u90 u91 u92 u93 u94 u95 u96 u97 u98 u99 u100 u101 u102 u103 u104 u105 u106 u107 u108 u109 u110 u111 u112 u113 u114 u115 u116 u117 u118 u119 u120 u121 u122 u123 u124 u125 u126 u127 u128 u129 u130 u131 u132 u133 u134 u135 u136 u137 u138 u139 u140 u141 u142 u143 u144 u145 u146 u147 u148 u149 u150 u151 u152 u153 u154 u155 u156 u157 u158 u159 u160 u161 u162 u163 u164 u165 u166 u167 u168 u169 u170 u171 u172 u173 u174 u175 u176 u177 u178 u179 u180 u181 u182 u183 u184 u185 u186 u187 u188 u189 u190 u191 u192 u193 u194 u195 u196 u197 u198 u199 u200 u201 u202 w' q' hq'
        go_wp2_with fail
        go_roundg 1
        case measure => omega
        case rel => exact ⟨2, q', by omega, rfl, hq'⟩
      · refine kept_round2 addr v fill w wr b q _ _ _ _ _ _ _ _ _ _ _ _ _ _ _ _ _ _ _ _ _ _ _ _ _ _ _ _ _ _ _ _ _ _ _ _ _ _ _ _ _ _ _ _ _ _ _ _ _ _ _ _ _ _ _ _ _ _ _ _ _ _ _ _ _ _ _ _ _ _ _ _ _ _ _ _ _ _ _ _ _ _ _ _ _ _ _ _ _ _ _ _ _ _ _ _ _ _ _ _ _ _ _ _ _ _ _ _ _ _ _ _ _ _ _ _ _ _ _ _ _ _ _ _ _ _ _ _ _ _ _ _ _ _ _ _ _ _ _ _ _ _ _ _ _ _ _ _ _ _ _ _ _ _ _ _ _ _ _ _ _ _ _ _ _ _ _ _ _ _ _ _ _ _ _ _ _ _ _ _ _ _ _ _ HT a0 a1 v0 v1 f0 f1 hrel ?_
        intro u6 u12 u13 u14 u15 u16 u17 u18 u19 u20 u21 u22 u23 u24 u36 u37 u38 u39 u40 u41 u42 u43 u44 u45 u46 u47 u48 u49 u50 u51 u52 u53 u54 u55 u56 u57 u58 u59 u60 u61 u62 u63 u64 u65 u66 u67 u68 u69 u70 u71 u72 u73 u74 u75 u76 u77 u78 u79 u80 u81 u82 u83 u84 u85 u86 u87 u88 u89 u90 u91 u92 u93 u94 u95 u96 u97 u98 u99 u100 u101 u102 u103 u104 u105 u106 u107 u108 u109 u110 u111 u112 u113 u114 u115 u116 u117 u118 u119 u120 u121 u122 u123 u124 u125 u126 u127 u128 u129 u130 u131 u132 u133 u134 u135 u136 u137 u138 u139 u140 u141 u142 u143 u144 u145 u146 u147 u148 u149 u150 u151 u152 u153 u154 u155 u156 u157 u158 u159 u160 u161 u162 u163 u164 u165 u166 u167 u168 u169 u170 u171 u172 u173 u174 u175 u176 u177 u178 u179 u180 u181 u182 u183 u184 u185 u186 u187 u188 u189 u190 u191 u192 u193 u194 u195 u196 u197 u198 u199 u200 u201 u202 w' q' hq'
        go_wp2_with fail
        go_roundg 0
        case measure => omega
        case rel => exact ⟨3, q', by omega, rfl, hq'⟩
    · obtain rfl : k = 3 := by omega
      go_wp2
      go_ret
      exact ⟨rfl, hrel.out.below⟩
end Go.Proofs.YtdcmdjeooklmjabDoor

/-
  The row of the law Kept.
-/
namespace Go.Proofs.YtdcmdjeooklmjabDoor
open Go.ChangeShapes Go.WideShapes Go.ChangeAt Go.WideMaps Go.WideElems Go.RowKit Go.Joins

set_option maxRecDepth 100000 in
theorem kept_lifted (os : Os) (started : os.Started) (H : Type) (enc : TypeId × Value → H) :
    ReturnsInHanded {} Tryd.checked os 4 .any (fun w args => (Rows.keptSpec.pre enc Tryd.prog Tryd.f4 [] false w args ∧ laidMetH Tryd.prog laidL2 w) ∧ sizedMet enc Tryd.prog Tryd.f4 (OpenSpec.ofChange Rows.keptSpec) false w args)
      (Rows.keptSpec.post enc Tryd.prog Tryd.f4 false true false false) := by
  refine returnsInHanded_of_change_and (C := Tryd.checked) (X := fun w _ => laidMetH Tryd.prog laidL2 w) (fun _ _ _ hh h => h.of_heap hh) own started (by kernel_rfl) Tryd.func4
    (ChangeSpec.witness_shaped (enc := enc) (C := Tryd.checked) (os := os) (X := fun w _ => laidMetH Tryd.prog laidL2 w) false (World.doorLaid Tryd.prog 93 os) #[.int .u32 0, .int .u32 0, .int .u8 0] 8 rfl (World.shaped_of_RefB (by kernel_rfl) (by kernel_rfl)) (by kernel_rfl) (by kernel_rfl) (by kernel_rfl) (door_met2 os _)) ?_
  intro W base args ds gs before hval0 hW _ _ hL _
  have hval : ∀ (j : Nat) t v, Tryd.f4.params[j]? = some t → args[j]? = some v → Value.okWide Tryd.prog W .any base t v := hval0
  have hW' := hW
  obtain ⟨p, q, hA0, hV, rfl, hfz, hnd⟩ := hW
  have hA : DataW.TrodAll enc Tryd.prog W 0 (fun _ => true) true Tryd.f4.params.toList args.toList ds p := hA0
  rw [Tryd.params4] at hA hval
  obtain ⟨v0, v1, v2, d0, d1, d2, p0, p1, p2, rfl, rfl, rfl, h0, h1, h2⟩ := trodAll_three hA
  obtain ⟨rfl, rfl⟩ := trodVars_none hV
  obtain ⟨x, rfl, rfl, rfl, wx⟩ := open_int Tryd.underlying22 (hval 0 22 v0 rfl rfl) h0
  obtain ⟨y, rfl, rfl, rfl, wy⟩ := open_int Tryd.underlying22 (hval 1 22 v1 rfl rfl) h1
  obtain ⟨z, rfl, rfl, rfl, wz⟩ := open_int Tryd.underlying5 (hval 2 5 v2 rfl rfl) h2
  have bx := bounds_u32 wx
  have by_ := bounds_u32 wy
  have bz := bounds_u8 wz
  clear hA0 hval0
  refine (kept_walk x y z W (tabs_of_laid hL) bx.1 (by omega) by_.1 (by omega) bz.1 (by omega)).mono fun e W' ⟨he, bel⟩ => ?_
  subst he
  exact ⟨_, rfl, _, _, _, [], _, [], hW', trodAll_mk1 (shut_bool Tryd.underlying4 _), (trodAll_cons_mk (shut_int Tryd.underlying22 wx) (trodAll_cons_mk (shut_int Tryd.underlying22 wy) (trodAll_cons_mk (shut_int Tryd.underlying5 wz) trodAll_mk0))), rfl, bel.frame _, fun h => by cases h⟩

theorem kept_row_holds : Rows.KeptSaid :=
  OpenClaim.holds_of_wide 4 Tryd.f4 rfl rfl rfl rfl rfl rfl rfl ⟨rfl, rfl, rfl, rfl, rfl⟩ rfl rfl rfl rfl rfl (by kernel_rfl) Tryd.func4 (by kernel_rfl)
    (of_decide_eq_true (by kernel_rfl)) (by unfold Func.isWrapper; first | (rw [if_pos (by decide +kernel)]; kernel_rfl) | (rw [if_neg (by decide +kernel)]; exact ⟨rfl, rfl⟩))
    (fun os started H enc _ => kept_lifted os started H enc)

end Go.Proofs.YtdcmdjeooklmjabDoor
