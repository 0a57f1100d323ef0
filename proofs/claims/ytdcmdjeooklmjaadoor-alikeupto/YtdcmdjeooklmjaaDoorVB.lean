/-
  N2 N3 in one text.
-/
import Derived.Test.YtdcmdjeooklmjaaDoorVA
import Derived.Lib.SliceRun
set_option linter.unusedVariables false
set_option linter.unusedSimpArgs false
/-
  Walks: slices.Delete(s, 0, j) at rows of two cells (made by gen_N2.py).
-/
namespace Go.Proofs.YtdcmdjeooklmjaaDoor
open Go.RowKit Go.PageMap Go.Maps

theorem setRow_at {w : World} {g : Nat} {cur R : Array Value} {e : TypeId} {f : Nat × Nat} (h : w.heap[g]? = some (.cells cur e f)) : (w.setRow g R).heap[g]? = some (.cells R e f) := setRow_heap w g cur R e f h
/-- append where there is room, onto a row whose cells are known, as one step of a region that draws. -/
theorem step_append_row {P : Program} {ops : Array Oper} {o : Oper} {a : Act} {w : World} {K : Act → World → Prop} {Q : Exit → Act → World → Prop} {E : Prop}
    (hgd : o.guard = none) (s x : Operand) (t : TypeId) (hop : o.op = Op.call { callee := Callee.builtin Builtin.append, args := #[s, x], argTypes := #[t, t] })
    (e : TypeId) (i : TypeInfo) (ht : P.underlying t = some (.slice e)) (hi : P.info? e = some i)
    (g sLen sCap : Nat) (cur : Array Value) (hs : a.eval s = .slice (some ⟨g, 0, none⟩) sLen sCap) (hg : w.heap[g]? = some (.cells cur e (0, 0)))
    (ad : Addr) (m c : Nat) (news : List Value) (hx : a.eval x = .slice (some ad) m c) (hl : news.length = m * i.size) (hnews : ∀ j u, news[j]? = some u → w.cell? (ad.add j) = some u) (h1 : ∀ u ∈ news, u.oneCell' = true)
    (hroom : sLen + m ≤ sCap) (hfit : sLen * i.size + news.length ≤ cur.size)
    (hK : ∀ W1, Hid (W1 = w.setRow g (cur.toList.take (sLen * i.size) ++ news ++ cur.toList.drop (sLen * i.size + news.length)).toArray) → K (a.put o.dst (.slice (some ⟨g, 0, none⟩) (sLen + m) sCap)) W1) :
    if Region.wanted o (yielded ops a.tmps) = true then Oper.wp P o a w K Q else E := by
  have hw : Region.wanted o (yielded ops a.tmps) = true := by simp [Region.wanted, hgd]
  rw [if_pos hw]
  have hrun := run_append_room (P := P) w t o.type e i ht hi g sLen sCap cur hg ad m c news hl hnews h1 hroom hfit
  generalize hW : w.setRow g (cur.toList.take (sLen * i.size) ++ news ++ cur.toList.drop (sLen * i.size + news.length)).toArray = W1 at hrun
  unfold Oper.wp
  simp [execOp, hop, resolve, invoke, builtin, hs, hx, hrun, Result.andThen]
  exact hK W1 hW.symm
theorem run_clear_row {P : Program} (w : World) (t ty e : TypeId) (z : Value) (ht : P.underlying t = some (.slice e)) (hz : ∀ w, (zeroValue e).run P w = .ok z w) (g o j c : Nat) (cur : Array Value) (hg : w.heap[g]? = some (.cells cur e (0, 0))) (hj : 0 < j)
    (h1 : ∀ u ∈ (Builtin.zeroCells z.cells j).toList, u.oneCell' = true) (hfit : o + (Builtin.zeroCells z.cells j).size ≤ cur.size) :
    ∃ R : Array Value, R.size = cur.size ∧ R.toList.take o = cur.toList.take o ∧ (Builtin.clear_ #[t] ty #[.slice (some ⟨g, o, none⟩) j c]).run P w = .ok (.tuple #[]) (w.setRow g R) := by
  have hst := run_storeCells_at P g o e (Builtin.zeroCells z.cells j).toList 0 cur w hg (by simpa using hfit) h1
  simp only [Nat.add_zero] at hst
  refine ⟨(cur.toList.take o ++ (Builtin.zeroCells z.cells j).toList ++ cur.toList.drop (o + (Builtin.zeroCells z.cells j).toList.length)).toArray, ?_, ?_, ?_⟩
  rotate_right
  · generalize hW : w.setRow g (cur.toList.take o ++ (Builtin.zeroCells z.cells j).toList ++ cur.toList.drop (o + (Builtin.zeroCells z.cells j).toList.length)).toArray = W1 at hst ⊢
    obtain ⟨j', rfl⟩ : ∃ j', j = j' + 1 := ⟨j - 1, by omega⟩
    simp [Builtin.clear_, run_underlying ht, hz, Addr.add_lit]
    first | (rw [hst]; rfl) | exact hst | (simp [hst]; rfl)
  · simp only [List.size_toArray, List.length_append, List.length_take, List.length_drop, Array.length_toList]
    omega
  · have ho : o ≤ cur.size := by omega
    show List.take o (List.take o cur.toList ++ _ ++ _) = _
    rw [List.append_assoc, List.take_append_of_le_length (by simp [ho]), List.take_take, Nat.min_self]
theorem zeros_two (a b : Value) (n : Nat) (ha : a.oneCell' = true) (hb : b.oneCell' = true) : ∀ u ∈ (Builtin.zeroCells #[a, b] n).toList, u.oneCell' = true := by
  intro u hu
  simp only [Builtin.zeroCells, Array.toList_map, List.mem_map] at hu
  obtain ⟨i, _, rfl⟩ := hu
  have : i % 2 = 0 ∨ i % 2 = 1 := by omega
  rcases this with h | h
  · show (#[a, b][i % 2]!).oneCell' = true
    rw [h]; exact ha
  · show (#[a, b][i % 2]!).oneCell' = true
    rw [h]; exact hb

theorem Tryd.zero_parcel (w : World) : (zeroValue 212).run Tryd.prog w = .ok (.agg #[.int .u32 0, .int .u16 0]) w := by kernel_rfl
theorem Tryd.info_parcel : (Tryd.prog.info? 212).map (fun i => (i.zero, i.size, i.bytes)) = some (some (.agg #[.int .u32 0, .int .u16 0]), 2, 8) := by kernel_rfl
set_option maxRecDepth 100000 in
set_option maxHeartbeats 2000000 in
theorem delete_parcel (w : World) (g n cap j : Nat) (cur : Array Value) (hg : w.heap[g]? = some (.cells cur 212 (0, 0))) (hcur : ∀ u ∈ cur.toList.take (n * 2), u.oneCell' = true) (hc : cur.size = cap * 2) (hn : n ≤ cap) (hcap : cap ≤ maxLen) (hj : 0 < j) (hjn : j ≤ n) :
    Calls Tryd.prog 137 #[.slice (some ⟨g, 0, none⟩) n cap, .int .i64 0, .int .i64 j] w fun e w' => e = .returned (.slice (some ⟨g, 0, none⟩) (n - j) cap) ∧
      ∃ cur' : Array Value, cur'.size = cap * 2 ∧ cur'.toList.take ((n - j) * 2) = (cur.toList.take (n * 2)).drop (j * 2) ∧ w'.heap[g]? = some (.cells cur' 212 (0, 0)) ∧ w.grownBy w' (some g) := by
  obtain ⟨i0, hi, hz0, hz1, hz2⟩ := info_parts Tryd.info_parcel
  have hcap' : cap ≤ 9223372036854775807 := by unfold maxLen at hcap; omega
  obtain ⟨news, hnews⟩ : ∃ news, news = (cur.toList.take (n * 2)).drop (j * 2) := ⟨_, rfl⟩
  have hlen : news.length = (n - j) * 2 := by rw [hnews]; simp; omega
  obtain ⟨A, hA, hsrc⟩ : ∃ A : Addr, (if cap = j then some (⟨g, 0, none⟩ : Addr) else some ⟨g, j * 2, none⟩) = some A ∧ Hid (∀ t u, news[t]? = some u → w.drew.cell? (A.add t) = some u) := by
    by_cases h : cap = j
    · refine ⟨⟨g, 0, none⟩, by simp [h], fun t u hu => ?_⟩
      have h0 : news.length = 0 := by rw [hlen]; omega
      rw [List.length_eq_zero_iff.1 h0] at hu
      simp at hu
    · refine ⟨⟨g, j * 2, none⟩, by simp [h], fun t u hu => ?_⟩
      rw [hnews, List.getElem?_drop, List.getElem?_take] at hu
      split at hu
      · rw [Addr.add_lit]
        show w.cell? _ = _
        simp only [World.cell?, hg]
        rw [Array.getElem?_toList] at hu
        simpa using hu
      · cases hu
  have s1 : Hid (news.length = (n - j) * i0.size) := by rw [Hid, hz1]; exact hlen
  have s2 : Hid (∀ u ∈ news, u.oneCell' = true) := by intro u hu; rw [hnews] at hu; exact hcur u (List.mem_of_mem_drop hu)
  have s3 : Hid (0 * i0.size + news.length ≤ cur.size) := by rw [Hid, hlen]; omega
  have s4 : Hid (w.drew.heap[g]? = some (.cells cur 212 (0, 0))) := hg
  have HN : Hid (news = (cur.toList.take (n * 2)).drop (j * 2)) := hnews
  have HL : Hid (news.length = (n - j) * 2) := hlen
  have HG : Hid (w.heap[g]? = some (.cells cur 212 (0, 0))) := hg
  have hj0 : ((0 : Int) == (j : Int)) = false := by simp; omega
  have hjn' : j ≤ cap := by omega
  clear hg hcur hnews hlen
  go_enter Tryd.func137, Tryd.ntmps137
  go_wp2_with fail
  go_region_law (refine step_append_row rfl (.tmp 22) (.tmp 25) 145 rfl 212 i0 Tryd.underlying145 hi g 0 cap cur (by simp [Act.eval, Act.put]) s4.out A (n - j) (cap - j) news (by simp [Act.eval, Act.put]) s1.out hsrc.out s2.out (by omega) s3.out ?_; intro W1 hW1)
  -- (one goal for each order that the draw allows)
  all_goals (
    have hW := hW1.out
    rw [hz1, Nat.zero_mul, List.take_zero, List.nil_append, Nat.zero_add] at hW
    have hg1 : W1.heap[g]? = some (.cells (news ++ cur.toList.drop news.length).toArray 212 (0, 0)) := by rw [hW]; exact setRow_at HG.out
    have hnl := HL.out
    obtain ⟨R, hR1, hR2, hcl⟩ := run_clear_row (P := Tryd.prog) W1 145 0 212 _ Tryd.underlying145 Tryd.zero_parcel g ((n - j) * 2) (n - (n - j)) (cap - (n - j)) _ hg1 (by omega) (zeros_two _ _ _ rfl rfl) (by simp [Builtin.zeroCells, Value.cells]; omega)
    have HR : Hid (R.size = cap * 2 ∧ R.toList.take ((n - j) * 2) = (cur.toList.take (n * 2)).drop (j * 2) ∧ (W1.setRow g R).heap[g]? = some (.cells R 212 (0, 0)) ∧ w.grownBy (W1.setRow g R) (some g)) := by
      refine ⟨?_, ?_, setRow_at hg1, ?_⟩
      · rw [hR1]; simp; omega
      · rw [hR2, List.toList_toArray, ← hnl, List.take_left, HN.out]
      · rw [hW]
        refine ⟨rfl, rfl, rfl, by simp, fun k hk hne => ?_⟩
        rw [setRow_other _ _ _ _ (fun e => hne (congrArg some e)), setRow_other _ _ _ _ (fun e => hne (congrArg some e))]; rfl
    generalize W1.setRow g R = W2 at hcl HR
    clear hg1 hR1 hR2 hW hnl
    go_wp2)
  all_goals go_ret
  all_goals exact ⟨rfl, _, HR.out⟩

theorem Tryd.zero_group (w : World) : (zeroValue 189).run Tryd.prog w = .ok (.agg #[.int .u32 0, .int .i64 0]) w := by kernel_rfl
theorem Tryd.info_group : (Tryd.prog.info? 189).map (fun i => (i.zero, i.size, i.bytes)) = some (some (.agg #[.int .u32 0, .int .i64 0]), 2, 16) := by kernel_rfl
set_option maxRecDepth 100000 in
set_option maxHeartbeats 2000000 in
theorem delete_group (w : World) (g n cap j : Nat) (cur : Array Value) (hg : w.heap[g]? = some (.cells cur 189 (0, 0))) (hcur : ∀ u ∈ cur.toList.take (n * 2), u.oneCell' = true) (hc : cur.size = cap * 2) (hn : n ≤ cap) (hcap : cap ≤ maxLen) (hj : 0 < j) (hjn : j ≤ n) :
    Calls Tryd.prog 128 #[.slice (some ⟨g, 0, none⟩) n cap, .int .i64 0, .int .i64 j] w fun e w' => e = .returned (.slice (some ⟨g, 0, none⟩) (n - j) cap) ∧
      ∃ cur' : Array Value, cur'.size = cap * 2 ∧ cur'.toList.take ((n - j) * 2) = (cur.toList.take (n * 2)).drop (j * 2) ∧ w'.heap[g]? = some (.cells cur' 189 (0, 0)) ∧ w.grownBy w' (some g) := by
  obtain ⟨i0, hi, hz0, hz1, hz2⟩ := info_parts Tryd.info_group
  have hcap' : cap ≤ 9223372036854775807 := by unfold maxLen at hcap; omega
  obtain ⟨news, hnews⟩ : ∃ news, news = (cur.toList.take (n * 2)).drop (j * 2) := ⟨_, rfl⟩
  have hlen : news.length = (n - j) * 2 := by rw [hnews]; simp; omega
  obtain ⟨A, hA, hsrc⟩ : ∃ A : Addr, (if cap = j then some (⟨g, 0, none⟩ : Addr) else some ⟨g, j * 2, none⟩) = some A ∧ Hid (∀ t u, news[t]? = some u → w.drew.cell? (A.add t) = some u) := by
    by_cases h : cap = j
    · refine ⟨⟨g, 0, none⟩, by simp [h], fun t u hu => ?_⟩
      have h0 : news.length = 0 := by rw [hlen]; omega
      rw [List.length_eq_zero_iff.1 h0] at hu
      simp at hu
    · refine ⟨⟨g, j * 2, none⟩, by simp [h], fun t u hu => ?_⟩
      rw [hnews, List.getElem?_drop, List.getElem?_take] at hu
      split at hu
      · rw [Addr.add_lit]
        show w.cell? _ = _
        simp only [World.cell?, hg]
        rw [Array.getElem?_toList] at hu
        simpa using hu
      · cases hu
  have s1 : Hid (news.length = (n - j) * i0.size) := by rw [Hid, hz1]; exact hlen
  have s2 : Hid (∀ u ∈ news, u.oneCell' = true) := by intro u hu; rw [hnews] at hu; exact hcur u (List.mem_of_mem_drop hu)
  have s3 : Hid (0 * i0.size + news.length ≤ cur.size) := by rw [Hid, hlen]; omega
  have s4 : Hid (w.drew.heap[g]? = some (.cells cur 189 (0, 0))) := hg
  have HN : Hid (news = (cur.toList.take (n * 2)).drop (j * 2)) := hnews
  have HL : Hid (news.length = (n - j) * 2) := hlen
  have HG : Hid (w.heap[g]? = some (.cells cur 189 (0, 0))) := hg
  have hj0 : ((0 : Int) == (j : Int)) = false := by simp; omega
  have hjn' : j ≤ cap := by omega
  clear hg hcur hnews hlen
  go_enter Tryd.func128, Tryd.ntmps128
  go_wp2_with fail
  go_region_law (refine step_append_row rfl (.tmp 22) (.tmp 25) 148 rfl 189 i0 Tryd.underlying148 hi g 0 cap cur (by simp [Act.eval, Act.put]) s4.out A (n - j) (cap - j) news (by simp [Act.eval, Act.put]) s1.out hsrc.out s2.out (by omega) s3.out ?_; intro W1 hW1)
  -- (one goal for each order that the draw allows)
  all_goals (
    have hW := hW1.out
    rw [hz1, Nat.zero_mul, List.take_zero, List.nil_append, Nat.zero_add] at hW
    have hg1 : W1.heap[g]? = some (.cells (news ++ cur.toList.drop news.length).toArray 189 (0, 0)) := by rw [hW]; exact setRow_at HG.out
    have hnl := HL.out
    obtain ⟨R, hR1, hR2, hcl⟩ := run_clear_row (P := Tryd.prog) W1 148 0 189 _ Tryd.underlying148 Tryd.zero_group g ((n - j) * 2) (n - (n - j)) (cap - (n - j)) _ hg1 (by omega) (zeros_two _ _ _ rfl rfl) (by simp [Builtin.zeroCells, Value.cells]; omega)
    have HR : Hid (R.size = cap * 2 ∧ R.toList.take ((n - j) * 2) = (cur.toList.take (n * 2)).drop (j * 2) ∧ (W1.setRow g R).heap[g]? = some (.cells R 189 (0, 0)) ∧ w.grownBy (W1.setRow g R) (some g)) := by
      refine ⟨?_, ?_, setRow_at hg1, ?_⟩
      · rw [hR1]; simp; omega
      · rw [hR2, List.toList_toArray, ← hnl, List.take_left, HN.out]
      · rw [hW]
        refine ⟨rfl, rfl, rfl, by simp, fun k hk hne => ?_⟩
        rw [setRow_other _ _ _ _ (fun e => hne (congrArg some e)), setRow_other _ _ _ _ (fun e => hne (congrArg some e))]; rfl
    generalize W1.setRow g R = W2 at hcl HR
    clear hg1 hR1 hR2 hW hnl
    go_wp2)
  all_goals go_ret
  all_goals exact ⟨rfl, _, HR.out⟩
end Go.Proofs.YtdcmdjeooklmjaaDoor

/-
  Walks: the buffer's take, the history's note.
-/
namespace Go.Proofs.YtdcmdjeooklmjaaDoor
open Go.RowKit Go.PageMap Go.Maps
section
variable {W W' : World} {L : Lay} {M : Mc}
/-- The groups' slice behind an append that may have made a new row. -/
theorem At.grownGrp (h : At W L M) (hz : 1 < W.heap.size ∧ 0 < W.heap.size) {v : Value} {n' : Nat} {xs' : List Value} (hn' : n' ≤ 16) (h1c' : ∀ u ∈ xs', u.oneCell' = true) (hv : W'.ownsRow 0 189 2 v n' xs') (hg : W.grownBy W' L.gv.ownBlock)
    (hb : ∀ g, v.ownBlock = some g → L.gv.ownBlock = some g ∨ W.heap.size ≤ g) :
    At (W'.setCell ⟨L.b, 36, none⟩ v) { L with gv := v } M ∧ Steps L W { L with gv := v } (W'.setCell ⟨L.b, 36, none⟩ v) ∧
      W'.cell? ⟨L.b, 36, none⟩ = some L.gv ∧ W'.frozen? ⟨L.b, 36, none⟩ = false := by
  have hsame : ∀ (k : Nat) (T : TypeId) (cur : Array Value) (f : Nat × Nat), W.heap[k]? = some (Obj.cells cur T f) → T ≠ 189 → W'.heap[k]? = W.heap[k]? := by
    intro k T cur f hk hT
    refine hg.block k (Array.getElem?_eq_some_iff.1 hk).1 fun e => ?_
    obtain ⟨_, _, _, _, hgg⟩ := h.grp
    obtain ⟨c, hc⟩ := ownsRow_blk hgg e.symm
    rw [hk] at hc; injection hc with e; injection e with _ e; exact hT e
  have hb0 : W'.heap[L.b]? = W.heap[L.b]? := by obtain ⟨cur, hc, _⟩ := h.cells; exact hsame _ _ _ _ hc (by decide)
  have hbm : W'.heap[L.bm]? = W.heap[L.bm]? := by
    obtain ⟨D, ⟨es, cl, h1, _⟩, _⟩ := h.mem.map
    refine hg.block _ h.mem.map.lt fun e => ?_
    obtain ⟨_, _, _, _, hgg⟩ := h.grp
    obtain ⟨c, hc⟩ := ownsRow_blk hgg e.symm
    rw [h1] at hc; cases hc
  have hpv : ∀ k, v.ownBlock = some k → 1 < k ∧ 0 < k := by
    intro k hk
    rcases hb k hk with h1 | h1
    · exact h.high k (.inr (.inr (.inr (.inr h1))))
    · omega
  have hgr' := ownsRow_block (W' := W') h.par fun k hk => by
    obtain ⟨c, hc⟩ := ownsRow_blk h.par hk
    exact hsame _ _ _ _ hc (by decide)
  have hmem := h.mem.blocks (W' := W') hbm (fun k b hp => by
    obtain ⟨_, cur, hc, _⟩ := h.mem.page k b hp
    exact hsame _ _ _ _ hc (by decide))
  -- a machine whose slice is already the new one
  have hA : At (W'.setCell ⟨L.b, 36, none⟩ v) { L with gv := v } M := by
    have hne : ∀ (k : Nat) (T : TypeId) (cur : Array Value) (f : Nat × Nat), W'.heap[k]? = some (Obj.cells cur T f) → T ≠ 152 → k ≠ L.b := by
      rintro k T cur f hk hT rfl
      obtain ⟨c, hc, _⟩ := h.cells
      rw [hb0, hc] at hk; injection hk with e; injection e with _ e; exact hT e.symm
    refine ⟨?_, ?_, ?_, ⟨n', xs', hn', h1c', ?_⟩, ?_⟩
    · refine ((h.cells.block hb0).set 36 v).congr fun j hj => ?_
      by_cases e : j = 36 <;> simp [mval, e]
    · refine hmem.setCell ?_ ?_ _
      · rintro (e : L.bm = L.b)
        obtain ⟨c, hc, _⟩ := h.cells
        obtain ⟨D, ⟨es, cl, h1, _⟩, _⟩ := h.mem.map
        rw [e, hc] at h1; cases h1
      · intro k b hp
        obtain ⟨_, cur, hc, _⟩ := hmem.page k b hp
        exact hne _ _ _ _ hc (by decide)
    · refine ownsRow_block hgr' fun k hk => heap_setCell_other _ _ _ _ ?_
      obtain ⟨c, hc⟩ := ownsRow_blk hgr' hk
      exact hne _ _ _ _ hc (by decide)
    · refine ownsRow_block hv fun k hk => heap_setCell_other _ _ _ _ ?_
      obtain ⟨c, hc⟩ := ownsRow_blk hv hk
      exact hne _ _ _ _ hc (by decide)
    · rintro k (h1 | h1 | h1 | h1 | h1)
      · exact h.high k (.inl h1)
      · exact h.high k (.inr (.inl h1))
      · exact h.high k (.inr (.inr (.inl h1)))
      · exact h.high k (.inr (.inr (.inr (.inl h1))))
      · exact hpv k h1
  refine ⟨hA, ⟨rfl, hg.os, hg.tape, hg.output, by simp [World.setCell]; exact hg.size, ?_, ?_⟩, ?_, ?_⟩
  · intro k hk hf
    rw [heap_setCell_other _ _ _ _ (fun e => hf (.inl e)), hg.block k hk (fun e => hf (.inr (.inr (.inr (.inr e.symm)))))]
  · rintro k (h1 | h1 | h1 | h1 | h1)
    · exact .inl (.inl h1)
    · exact .inl (.inr (.inl h1))
    · exact .inl (.inr (.inr (.inl h1)))
    · exact .inl (.inr (.inr (.inr (.inl h1))))
    · rcases hb k h1 with h2 | h2
      · exact .inl (.inr (.inr (.inr (.inr h2))))
      · exact .inr h2
  · rw [World.cell?_of_block (w := W) hb0]; exact h.groups
  · rw [World.frozen?_of_block (w := W) hb0]; exact h.free 36

end

theorem parCells_one (l : List (Int × Int)) : ∀ u ∈ parCells l, u.oneCell' = true := by
  intro u hu
  simp only [parCells, List.mem_flatMap] at hu
  obtain ⟨p, _, hp⟩ := hu
  simp at hp
  rcases hp with rfl | rfl <;> rfl
theorem parCells_drop (l : List (Int × Int)) (j : Nat) : (parCells l).drop (j * 2) = parCells (l.drop j) := by
  induction j generalizing l with
  | zero => simp
  | succ j ih =>
    cases l with
    | nil => simp [parCells]
    | cons a l =>
      rw [List.drop_succ_cons, ← ih]
      show List.drop ((j + 1) * 2) (_ :: _ :: parCells l) = _
      rw [show (j + 1) * 2 = j * 2 + 1 + 1 by omega]; rfl

set_option maxRecDepth 100000
set_option maxHeartbeats 1000000 in
theorem m_take_any (w : World) (L : Lay) (M : Mc) (j : Nat) (h : At w L M) (hz : 1 < w.heap.size ∧ 0 < w.heap.size) (hj : 0 < j) (hjn : j ≤ M.par.length) :
    Calls Tryd.prog 130 #[.pointer (some ⟨L.b, 34, none⟩), .int .i64 j] w fun e w' => e = .returned (.tuple #[]) ∧ ∃ L', At w' L' { M with par := M.par.drop j } ∧ Steps L w L' w' := by
  have hr := h.parcels
  rcases h.par.2 with ⟨h1, h2⟩ | ⟨g, cap, cur, h1, _, h3, h4, h5, h6, h7⟩
  · omega
  · have hone : ∀ u ∈ cur.toList.take (M.par.length * 2), u.oneCell' = true := by rw [h7]; exact parCells_one _
    have HD : Hid (w.heap[g]? = some (.cells cur 212 (0, 0)) ∧ (∀ u ∈ cur.toList.take (M.par.length * 2), u.oneCell' = true) ∧ cur.size = cap * 2) := ⟨h3, hone, h6⟩
    have HA : Hid (At w L M) := h
    have HP : Hid (L.pv = .slice (some ⟨g, 0, none⟩) M.par.length cap) := h1
    have HT : Hid (cur.toList.take (M.par.length * 2) = parCells M.par) := h7
    have H4 : Hid (M.par.length ≤ cap ∧ cap ≤ maxLen) := ⟨h4, h5⟩
    rw [h1] at hr
    clear h h1 h3 hone h7 h6 h4 h5
    go_enter Tryd.func130, Tryd.ntmps130
    go_wp2_with fail
    refine (delete_parcel w g M.par.length cap j cur HD.out.1 HD.out.2.1 HD.out.2.2 H4.out.1 H4.out.2 hj hjn).mono ?_
    rintro e w1 ⟨rfl, cur', q1, q2, q3, q4⟩
    have hv : w1.ownsRow 0 212 2 (.slice (some ⟨g, 0, none⟩) (M.par.length - j) cap) (M.par.drop j).length (parCells (M.par.drop j)) := by
      refine ⟨parCells_length _, .inr ⟨g, cap, cur', by rw [List.length_drop], Nat.zero_le _, q3, by have := H4.out.1; rw [List.length_drop]; omega, H4.out.2, q1, ?_⟩⟩
      rw [List.length_drop, q2, HT.out, parCells_drop]
    obtain ⟨hA, hS, hc, hf⟩ := HA.out.grownPar hz (v := .slice (some ⟨g, 0, none⟩) (M.par.length - j) cap) (p := M.par.drop j) hv (by rw [HP.out]; exact q4) (fun k hk => .inl (by rw [HP.out]; exact hk))
    have HA' : Hid _ := hA
    have HS' : Hid _ := hS
    clear hA hS hv q1 q2 q3 q4
    go_wp2
    go_end0
    exact ⟨rfl, _, HA'.out, HS'.out⟩

theorem note_facts {W W' : World} {L : Lay} {M : Mc} {p c : Int} {cs : Array Value} {v' : Value} {n : Nat} {xs : List Value} (h : At W L M) (hz : 1 < W.heap.size ∧ 0 < W.heap.size) (hn : n + 1 ≤ 16)
    (h1 : ∀ u ∈ xs ++ [.int .u32 p, .int .i64 c], u.oneCell' = true)
    (hv : W'.ownsRow 0 189 2 v' (n + 1) (xs ++ [.int .u32 p, .int .i64 c])) (hg : (W.drew.alloc (.cells cs 189)).grownBy W' L.gv.ownBlock)
    (hb : ∀ g, v'.ownBlock = some g → L.gv.ownBlock = some g ∨ (W.drew.alloc (.cells cs 189)).heap.size ≤ g) :
    Hid (At (W'.setCell ⟨L.b, 36, none⟩ v') { L with gv := v' } M) ∧ Hid (Steps L W { L with gv := v' } (W'.setCell ⟨L.b, 36, none⟩ v')) ∧ W'.cell? ⟨L.b, 36, none⟩ = some L.gv ∧ W'.frozen? ⟨L.b, 36, none⟩ = false := by
  have h1' : At (W.drew.alloc (.cells cs 189)) L M := h.drew.alloc _
  obtain ⟨h2, h3, h4, h5⟩ := h1'.grownGrp (by simp; omega) hn h1 hv hg hb
  exact ⟨h2, ((Steps.drew L W).trans (Steps.alloc L _ _)).trans h3, h4, h5⟩
set_option maxHeartbeats 1000000 in
theorem m_note_any (w : World) (L : Lay) (M : Mc) (p c : Int) (h : At w L M) (hz : 1 < w.heap.size ∧ 0 < w.heap.size) :
    Calls Tryd.prog 110 #[.pointer (some ⟨L.b, 36, none⟩), .agg #[.int .u32 p, .int .i64 c]] w fun e w' => e = .returned (.tuple #[]) ∧ ∃ L', At w' L' M ∧ Steps L w L' w' := by
  obtain ⟨i0, hi, hz0, hz1, hz2⟩ := info_parts Tryd.info_group
  obtain ⟨n, xs, hn, h1c, hgr⟩ := h.grp
  have hr := h.groups
  have hf := h.free 36
  have hlt : L.b < w.heap.size := h.cells.lt
  have HA : Hid (At w L M) := h
  have HZ : Hid (1 < w.heap.size ∧ 0 < w.heap.size) := hz
  clear h hz
  by_cases h16 : n = 16
  · subst h16
    rcases hgr.2 with ⟨_, h2⟩ | ⟨g, cap, cur, h1, _, h3, h4, h5, h6, h7⟩
    · omega
    · have H4 : Hid (16 ≤ cap ∧ cap ≤ maxLen) := ⟨h4, h5⟩
      have hone : ∀ u ∈ cur.toList.take (16 * 2), u.oneCell' = true := by rw [h7]; exact h1c
      have HD : Hid (w.heap[g]? = some (.cells cur 189 (0, 0)) ∧ (∀ u ∈ cur.toList.take (16 * 2), u.oneCell' = true) ∧ cur.size = cap * 2) := ⟨h3, hone, h6⟩
      have HP : Hid (L.gv = .slice (some ⟨g, 0, none⟩) 16 cap) := h1
      have HX : Hid (cur.toList.take (16 * 2) = xs) := h7
      have HX1 : Hid (∀ u ∈ xs, u.oneCell' = true) := h1c
      rw [h1] at hr
      have hlg : g < w.heap.size := (Array.getElem?_eq_some_iff.1 h3).1
      clear h1 h3 hone h6 h7 h4 h5 h1c hgr
      go_enter Tryd.func110, Tryd.ntmps110
      go_wp2_with fail
      generalize hW0 : w.alloc (.cells #[.int .u32 p, .int .i64 c] 189) = W0
      have HA0 : Hid (At W0 L M) := by rw [← hW0]; exact HA.out.alloc _
      have HD0 : Hid (W0.heap[g]? = some (.cells cur 189 (0, 0))) := by rw [Hid, ← hW0, Below.heap_alloc _ _ _ hlg]; exact HD.out.1
      have HZ0 : Hid (1 < W0.heap.size ∧ 0 < W0.heap.size) := by rw [Hid, ← hW0]; have := HZ.out; simp; omega
      have HS0 : Hid (Steps L w L W0) := by rw [Hid, ← hW0]; exact Steps.alloc _ _ _
      have HB0 : Hid (W0.heap[w.heap.size]? = some (.cells #[.int .u32 p, .int .i64 c] 189 (0, 0)) ∧ w.heap.size < W0.heap.size) := by rw [Hid, ← hW0]; exact ⟨heap_alloc_new _ _, by simp⟩
      clear hW0
      refine (delete_group W0 g 16 cap 1 cur HD0.out HD.out.2.1 HD.out.2.2 H4.out.1 H4.out.2 (by decide) (by decide)).mono ?_
      rintro e w1 ⟨rfl, cur', q1, q2, q3, q4⟩
      have hv : w1.ownsRow 0 189 2 (.slice (some ⟨g, 0, none⟩) 15 cap) 15 (xs.drop 2) := by
        refine ⟨?_, .inr ⟨g, cap, cur', rfl, Nat.zero_le _, q3, by have := H4.out.1; omega, H4.out.2, q1, ?_⟩⟩
        · have := congrArg List.length HX.out
          have := HD.out.2.2
          have := H4.out.1
          simp at *; omega
        · rw [q2, HX.out]
      have h1x : ∀ u ∈ xs.drop 2, u.oneCell' = true := fun u hu => HX1.out u (List.mem_of_mem_drop hu)
      obtain ⟨hA, hS, hc, hf⟩ := HA0.out.grownGrp HZ0.out (v := .slice (some ⟨g, 0, none⟩) 15 cap) (by decide) h1x hv (by rw [HP.out]; exact q4) (fun k hk => .inl (by rw [HP.out]; exact hk))
      have hwg : w.heap.size ≠ g := by omega
      have HB1 : Hid (w1.heap[w.heap.size]? = some (.cells #[.int .u32 p, .int .i64 c] 189 (0, 0))) := by rw [Hid, q4.block _ HB0.out.2 (fun e => hwg (Option.some.inj e))]; exact HB0.out.1
      have HZ1 : Hid (1 < w1.heap.size ∧ 0 < w1.heap.size) := by have := q4.size; have := HZ0.out; rw [Hid]; omega
      have HA1 : Hid (At (w1.setCell ⟨L.b, 36, none⟩ (.slice (some ⟨g, 0, none⟩) 15 cap)) { L with gv := .slice (some ⟨g, 0, none⟩) 15 cap } M) := hA
      have HS1 : Hid (Steps L w { L with gv := .slice (some ⟨g, 0, none⟩) 15 cap } (w1.setCell ⟨L.b, 36, none⟩ (.slice (some ⟨g, 0, none⟩) 15 cap))) := HS0.out.trans hS
      have HG1 : Hid ((w1.setCell ⟨L.b, 36, none⟩ (.slice (some ⟨g, 0, none⟩) 15 cap)).ownsRow 0 189 2 (.slice (some ⟨g, 0, none⟩) 15 cap) 15 (xs.drop 2)) := by
        refine ownsRow_block hv fun k hk => heap_setCell_other _ _ _ _ ?_
        rintro (rfl : k = L.b)
        obtain ⟨c1, h1⟩ := ownsRow_blk hv hk
        obtain ⟨c2, h2, _⟩ := HA1.out.cells
        have h2' : (w1.setCell ⟨L.b, 36, none⟩ (.slice (some ⟨g, 0, none⟩) 15 cap)).heap[L.b]? = _ := heap_setCell_same _ _ _ _ _ _ h1
        rw [h2'] at h2; injection h2 with e; injection e with _ e; revert e; decide
      have hbL : w.heap.size ≠ L.b := by omega
      have H1 : Hid (∀ u ∈ xs.drop 2 ++ [.int .u32 p, .int .i64 c], u.oneCell' = true) := by
        intro u hu
        rw [List.mem_append] at hu
        rcases hu with hu | hu
        · exact h1x u hu
        · simp at hu; rcases hu with rfl | rfl <;> rfl
      clear hA hS hv q1 q2 q3 q4 h1x
      go_wp2_with fail
      have HB2 : (w1.setCell ⟨L.b, 36, none⟩ (.slice (some ⟨g, 0, none⟩) 15 cap)).heap[w.heap.size]? = some (.cells #[.int .u32 p, .int .i64 c] 189 (0, 0)) := by rw [heap_setCell_other _ _ _ _ hbL]; exact HB1.out
      have HZ : Hid (1 < (w1.setCell ⟨L.b, 36, none⟩ (.slice (some ⟨g, 0, none⟩) 15 cap)).heap.size ∧ 0 < (w1.setCell ⟨L.b, 36, none⟩ (.slice (some ⟨g, 0, none⟩) 15 cap)).heap.size) := by have := HZ1.out; simp [Hid, World.setCell]; omega
      clear HA
      generalize w1.setCell ⟨L.b, 36, none⟩ (.slice (some ⟨g, 0, none⟩) 15 cap) = W at *
      obtain ⟨L1, hL1⟩ : ∃ L1 : Lay, L1 = { L with gv := .slice (some ⟨g, 0, none⟩) 15 cap } := ⟨_, rfl⟩
      have HA : Hid (At W L1 M) := by rw [hL1]; exact HA1.out
      have HS : Hid (Steps L w L1 W) := by rw [hL1]; exact HS1.out
      have hLb : L.b = L1.b := by rw [hL1]
      have HV : Hid (L1.gv = .slice (some ⟨g, 0, none⟩) 15 cap) := by rw [hL1]; rfl
      have HG : Hid (W.ownsRow 0 189 2 L1.gv 15 (xs.drop 2)) := by rw [hL1]; exact HG1.out
      have hr' : W.cell? ⟨L1.b, 36, none⟩ = some (.slice (some ⟨g, 0, none⟩) 15 cap) := by rw [← HV.out]; exact HA.out.groups
      have hlt' : L1.b < W.heap.size := HA.out.cells.lt
      have hb0 : W.cell? ⟨w.heap.size, 0, none⟩ = some (.int .u32 p) := by simp [World.cell?, HB2]
      have hb1 : W.cell? ⟨w.heap.size, 1, none⟩ = some (.int .i64 c) := by simp [World.cell?, HB2]
      have hbl : w.heap.size < W.heap.size := (Array.getElem?_eq_some_iff.1 HB2).1
      rw [hLb]
      clear HA1 HS1 hLb hL1 HG1 HB2 hr hlt HA0 HD0 HZ0 HS0 HB0 HB1 HD hc
      have s0 : Hid ((W.drew.alloc (.cells #[.int .u32 p, .int .i64 c] 189)).ownsRow 0 189 2 L1.gv 15 (xs.drop 2)) := ownsRow_drew HG.out |>.alloc _
      have s1 : Hid (∀ j u, ([.int .u32 p, .int .i64 c] : List Value)[j]? = some u → (W.drew.alloc (.cells #[.int .u32 p, .int .i64 c] 189)).cell? ((⟨W.heap.size, 0, none⟩ : Addr).add j) = some u) := two_cells W.drew _ _ _
      have s2 : Hid (∀ u ∈ ([.int .u32 p, .int .i64 c] : List Value), u.oneCell' = true) := by intro u hu; simp at hu; rcases hu with rfl | rfl <;> rfl
      go_region_law (refine step_append_fp rfl (.tmp 22) (.tmp 24) 148 rfl 189 i0 (.agg #[.int .u32 0, .int .i64 0]) 2 16 Tryd.underlying148 hi hz0 hz1 hz2 rfl (by decide) L1.gv 15 (xs.drop 2) (by simp [Act.eval, Act.put, HV.out]) s0.out ⟨W.heap.size, 0, none⟩ 1 1 [.int .u32 p, .int .i64 c] (by simp [Act.eval, Act.put]) (by decide) rfl s1.out s2.out (by unfold maxLen; omega) (by omega) ?_; intro v' w' hv hg hb; obtain ⟨a', c', rfl⟩ := ownsRow_slice hv; obtain ⟨hA', hS', hc4, hf4⟩ := note_facts HA.out HZ.out (by omega) H1.out hv hg hb; clear hv hg hb)
      all_goals go_wp2
      all_goals go_end0
      all_goals exact ⟨rfl, _, hA'.out, HS.out.trans hS'.out⟩
  · obtain ⟨a, cap, hgv⟩ := ownsRow_slice hgr
    have hne : ((n : Int) == 16) = false := by simp; omega
    have H1 : Hid (∀ u ∈ xs ++ [.int .u32 p, .int .i64 c], u.oneCell' = true) := by
      intro u hu
      rw [List.mem_append] at hu
      rcases hu with hu | hu
      · exact h1c u hu
      · simp at hu; rcases hu with rfl | rfl <;> rfl
    have HV : Hid (L.gv = .slice a n cap) := hgv
    rw [hgv] at hr
    have HG0 : Hid (w.ownsRow 0 189 2 L.gv n xs) := hgr
    have HA0 : Hid (At w L M) := HA.out
    have HZ1 : Hid (1 < w.heap.size ∧ 0 < w.heap.size) := HZ.out
    clear hgr h1c hgv HA HZ
    go_enter Tryd.func110, Tryd.ntmps110
    go_wp2_with fail
    have HG : Hid ((w.alloc (.cells #[.int .u32 p, .int .i64 c] 189)).ownsRow 0 189 2 L.gv n xs) := HG0.out.alloc _
    have HA : Hid (At (w.alloc (.cells #[.int .u32 p, .int .i64 c] 189)) L M) := HA0.out.alloc _
    have HZ : Hid (1 < (w.alloc (.cells #[.int .u32 p, .int .i64 c] 189)).heap.size ∧ 0 < (w.alloc (.cells #[.int .u32 p, .int .i64 c] 189)).heap.size) := by have := HZ1.out; simp [Hid]; omega
    have HS : Hid (Steps L w L (w.alloc (.cells #[.int .u32 p, .int .i64 c] 189))) := Steps.alloc _ _ _
    have hr' : (w.alloc (.cells #[.int .u32 p, .int .i64 c] 189)).cell? ⟨L.b, 36, none⟩ = some (.slice a n cap) := by rw [World.cell?_alloc_past _ _ _ hlt]; exact hr
    have hlt' : L.b < (w.alloc (.cells #[.int .u32 p, .int .i64 c] 189)).heap.size := by simp; omega
    have hb0 : (w.alloc (.cells #[.int .u32 p, .int .i64 c] 189)).cell? ⟨w.heap.size, 0, none⟩ = some (.int .u32 p) := by simp
    have hb1 : (w.alloc (.cells #[.int .u32 p, .int .i64 c] 189)).cell? ⟨w.heap.size, 1, none⟩ = some (.int .i64 c) := by simp
    have hbl : w.heap.size < (w.alloc (.cells #[.int .u32 p, .int .i64 c] 189)).heap.size := by simp
    generalize w.alloc (.cells #[.int .u32 p, .int .i64 c] 189) = W at *
    have s0 : Hid ((W.drew.alloc (.cells #[.int .u32 p, .int .i64 c] 189)).ownsRow 0 189 2 L.gv n xs) := ownsRow_drew HG.out |>.alloc _
    have s1 : Hid (∀ j u, ([.int .u32 p, .int .i64 c] : List Value)[j]? = some u → (W.drew.alloc (.cells #[.int .u32 p, .int .i64 c] 189)).cell? ((⟨W.heap.size, 0, none⟩ : Addr).add j) = some u) := two_cells W.drew _ _ _
    have s2 : Hid (∀ u ∈ ([.int .u32 p, .int .i64 c] : List Value), u.oneCell' = true) := by intro u hu; simp at hu; rcases hu with rfl | rfl <;> rfl
    go_region_law (refine step_append_fp rfl (.tmp 22) (.tmp 24) 148 rfl 189 i0 (.agg #[.int .u32 0, .int .i64 0]) 2 16 Tryd.underlying148 hi hz0 hz1 hz2 rfl (by decide) L.gv n xs (by simp [Act.eval, Act.put, HV.out]) s0.out ⟨W.heap.size, 0, none⟩ 1 1 [.int .u32 p, .int .i64 c] (by simp [Act.eval, Act.put]) (by decide) rfl s1.out s2.out (by unfold maxLen; omega) (by omega) ?_; intro v' w' hv hg hb; obtain ⟨a', c', rfl⟩ := ownsRow_slice hv; obtain ⟨hA', hS', hc4, hf4⟩ := note_facts HA.out HZ.out (by omega) H1.out hv hg hb; clear hv hg hb)
    all_goals go_wp2
    all_goals go_end0
    all_goals exact ⟨rfl, _, hA'.out, HS.out.trans hS'.out⟩
end Go.Proofs.YtdcmdjeooklmjaaDoor
