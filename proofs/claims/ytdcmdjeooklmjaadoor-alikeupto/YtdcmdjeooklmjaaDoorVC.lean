/-
  N4 N5 N6 N7 in one text.
-/
import Derived.Test.YtdcmdjeooklmjaaDoorVB
import Derived.Laws.CopyRow
set_option linter.unusedVariables false
set_option linter.unusedSimpArgs false
/-
  Walks: the memory's pageToWrite. A map of numbers of 32 bits has at most 2^32 entries.
-/
namespace Go.PageMap
open Go.Maps

theorem length_le_of_nodup : ∀ (n : Nat) (l : List Nat), l.Nodup → (∀ x ∈ l, x < n) → l.length ≤ n
  | 0, l, _, h => by
    cases l with
    | nil => simp
    | cons a l => exact absurd (h a (by simp)) (by omega)
  | n + 1, l, hn, h => by
    have h1 : (l.erase n).length ≤ n := length_le_of_nodup n (l.erase n) (hn.erase n) fun x hx => by
      have hx' := (List.Nodup.mem_erase_iff hn).1 hx
      have := h x hx'.2
      have := hx'.1
      omega
    have h2 := List.length_erase (a := n) (l := l)
    split at h2 <;> omega

theorem keyed_size {P : Program} {K : TypeId} {R : Value → Option (DataW Unit × List MemPlace)} {es : Array MapEntry} {clock : Nat} (hk : P.underlying K = some (.int .u32)) (F : WideElems.Fit P K R es clock) : es.size ≤ 4294967296 := by
  have hkey : ∀ x ∈ es.toList, ∃ n : Nat, n < 4294967296 ∧ x.key = .int .u32 n := by
    intro x hx
    obtain ⟨y, hy⟩ := F.reads x hx
    have h1 := WideElems.rd_key hy
    rw [keyOf_int hk] at h1
    unfold mapKey at h1
    rw [hk] at h1
    generalize hv : x.key = v at h1
    cases v with
    | int q' n =>
      simp only [Option.ite_none_right_eq_some] at h1
      obtain ⟨⟨rfl, hw⟩, _⟩ := h1
      simp only [Lit.wf, Bool.and_eq_true, decide_eq_true_eq] at hw
      have hmin : IntKind.u32.min = 0 := rfl
      have hmax : IntKind.u32.max = 4294967295 := rfl
      exact ⟨n.toNat, by omega, by rw [Int.toNat_of_nonneg (by omega)]⟩
    | _ => cases h1
  have h2 : ((es.toList.map (·.key)).map fun v => match v with | .int _ n => n.toNat | _ => 0).Nodup := by
    unfold List.Nodup
    rw [List.pairwise_map]
    refine List.Pairwise.imp_of_mem ?_ F.stamped.2.2
    intro a b ha hb hab
    obtain ⟨x, hx, rfl⟩ := List.mem_map.1 ha
    obtain ⟨y, hy, rfl⟩ := List.mem_map.1 hb
    obtain ⟨m, _, e1⟩ := hkey x hx
    obtain ⟨n, _, e2⟩ := hkey y hy
    rw [e1, e2] at hab ⊢
    intro e
    simp at e
    exact hab (by rw [e])
  have h3 := length_le_of_nodup 4294967296 _ h2 ?_
  · simpa using h3
  · intro x hx
    simp only [List.mem_map] at hx
    obtain ⟨_, ⟨y, hy, rfl⟩, rfl⟩ := hx
    obtain ⟨n, hn, e⟩ := hkey y hy
    rw [e]; simpa using hn
theorem MapIs.bound {P : Program} {K : TypeId} {W : World} {bm n : Nat} {pg : Int → Option Nat} (hk : P.underlying K = some (.int .u32)) (h : MapIs P K .u32 W bm n pg) : MapIs P K .u32 W bm 4294967296 pg := by
  obtain ⟨D, ⟨es, clock, h1, h2, _, h4⟩, hd⟩ := h
  exact ⟨D, ⟨es, clock, h1, h2, keyed_size hk h2, h4⟩, hd⟩
end Go.PageMap
namespace Go.Proofs.YtdcmdjeooklmjaaDoor
open Go.RowKit Go.PageMap Go.Maps
theorem Tryd.zero_pageptr (w : World) : (zeroValue 195).run Tryd.prog w = .ok (.pointer none) w := by kernel_rfl

theorem Tryd.zeroPage : Tryd.zeroCells226.size = 256 ∧ ∀ i, i < 256 → Tryd.zeroCells226[i]? = some (.int .u8 0) := by
  have h : Tryd.zeroCells226 = Array.replicate 256 (.int .u8 0) := by kernel_rfl
  rw [h]
  exact ⟨by simp, fun i hi => by simp [hi]⟩
/-- A machine with other parts in the same blocks, or new ones. -/
theorem page_facts {W W1 : World} {L : Lay} {M : Mc} {k : Int} {n : Nat} (h : At W L M) (hz : 1 < W.heap.size ∧ 0 < W.heap.size) (hk : L.pg k = none)
    (hm : MapIs Tryd.prog 24 .u32 W1 L.bm n (fun j => if j = k then some W.heap.size else L.pg j)) (ht : (W.alloc (.cells Tryd.zeroCells226 226)).mapTurned W1 L.bm) :
    At W1 { L with pg := fun j => if j = k then some W.heap.size else L.pg j } M ∧ Steps L W { L with pg := fun j => if j = k then some W.heap.size else L.pg j } W1 := by
  have hg := ht.grown
  have hsz := hg.size
  simp at hsz
  have hsame : ∀ b, b < W.heap.size → b ≠ L.bm → W1.heap[b]? = W.heap[b]? := by
    intro b hb hne
    rw [hg.block b (by simp; omega) (fun e => hne (Option.some.inj e)), Below.heap_alloc _ _ _ hb]
  have hmem := h.mem.newPage hk (Nat.le_refl _) (W' := W1) (n' := 4294967296)
    ⟨Tryd.zeroCells226, by rw [hg.block _ (by simp) (fun e => by have := Option.some.inj e; have := h.mem.map.lt; omega)]; exact heap_alloc_new _ _, Tryd.zeroPage.1, Tryd.zeroPage.2⟩ (hm.bound Tryd.underlying24) hsame
  refine ⟨h.setMem hmem (fun b hb hne _ => hsame b hb hne) hz ?_, ⟨rfl, hg.os, hg.tape, hg.output, by omega, fun b hb hf => hsame b hb (fun e => hf (.inr (.inl e))), ?_⟩⟩
  · intro p b hb
    (try dsimp only at hb)
    split at hb
    · exact .inr (by injection hb with hb; omega)
    · exact .inl ⟨p, hb⟩
  · rintro b (h1 | h1 | ⟨p, h1⟩ | h1 | h1)
    · exact .inl (.inl h1)
    · exact .inl (.inr (.inl h1))
    · (try dsimp only at h1)
      split at h1
      · exact .inr (by injection h1 with h1; omega)
      · exact .inl (.inr (.inr (.inl ⟨p, h1⟩)))
    · exact .inl (.inr (.inr (.inr (.inl h1))))
    · exact .inl (.inr (.inr (.inr (.inr h1))))
theorem page_factsA {W W1 : World} {L : Lay} {M : Mc} {k : Int} {n : Nat} (h : At W L M) (hz : 1 < W.heap.size ∧ 0 < W.heap.size) (hk : L.pg k = none)
    (hm : MapIs Tryd.prog 24 .u32 W1 L.bm n (fun j => if j = k then some W.heap.size else L.pg j)) (ht : (W.alloc (.cells Tryd.zeroCells226 226)).mapTurned W1 L.bm) :
    Hid (At W1 { L with pg := fun j => if j = k then some W.heap.size else L.pg j } M) := (page_facts h hz hk hm ht).1
theorem page_factsB {W W1 : World} {L : Lay} {M : Mc} {k : Int} {n : Nat} (h : At W L M) (hz : 1 < W.heap.size ∧ 0 < W.heap.size) (hk : L.pg k = none)
    (hm : MapIs Tryd.prog 24 .u32 W1 L.bm n (fun j => if j = k then some W.heap.size else L.pg j)) (ht : (W.alloc (.cells Tryd.zeroCells226 226)).mapTurned W1 L.bm) :
    Hid (Steps L W { L with pg := fun j => if j = k then some W.heap.size else L.pg j } W1) := (page_facts h hz hk hm ht).2
set_option maxRecDepth 100000
set_option maxHeartbeats 1000000 in
theorem m_pageToWrite_any (w : World) (L : Lay) (M : Mc) (a : Int) (h : At w L M) (hz : 1 < w.heap.size ∧ 0 < w.heap.size) (a0 : 0 ≤ a) (a1 : a < 4294967296) :
    Calls Tryd.prog 127 #[.pointer (some ⟨L.b, 33, none⟩), .int .u32 a] w fun e w' => ∃ p L', e = .returned (.pointer (some ⟨p, 0, none⟩)) ∧ At w' L' M ∧ Steps L w L' w' ∧ L'.pg (a / 256) = some p := by
  have hc := h.pages
  have hlt := h.cells.lt
  have hq : a.tdiv 256 = a / 256 := Int.tdiv_eq_ediv_of_nonneg a0
  have hq0 : 0 ≤ a / 256 := by omega
  have hq1 : a / 256 < 4294967296 := by omega
  have HM : Hid (MapIs Tryd.prog 24 .u32 w L.bm 4294967296 L.pg) := h.mem.map
  have HA : Hid (At w L M) := h
  have HZ : Hid (1 < w.heap.size ∧ 0 < w.heap.size) := hz
  clear h
  have hwf : (Lit.int .u32 (a / 256)).wf = true := by
    have hmin : IntKind.u32.min = 0 := rfl
    have hmax : IntKind.u32.max = 4294967295 := rfl
    simp only [Lit.wf, Bool.and_eq_true, decide_eq_true_eq]; omega
  cases hpg : L.pg (a / 256) with
  | some p =>
    have HP : Hid (L.pg (a / 256) = some p) := hpg
    have hpo : ptrOf (L.pg (a / 256)) = .pointer (some ⟨p, 0, none⟩) := by rw [hpg]; rfl
    clear hpg
    go_enter Tryd.func127, Tryd.ntmps127
    go_wp2_with (first
      | (at_lookup; refine wpList_look _ rfl _ _ 142 rfl 24 195 .u32 Tryd.underlying24 Tryd.underlying142 (Tryd.zero_pageptr _) L.bm 4294967296 L.pg rfl HM.out (a / 256) rfl hwf ?_; rw [hpo])
      | go_in)
    go_ret
    exact ⟨p, L, rfl, HA.out, Steps.refl _ _, HP.out⟩
  | none =>
    have HP : Hid (L.pg (a / 256) = none) := hpg
    have hpo : ptrOf (L.pg (a / 256)) = .pointer none := by rw [hpg]; rfl
    clear hpg
    go_enter Tryd.func127, Tryd.ntmps127
    go_wp2_with (first
      | (at_lookup; refine wpList_look _ rfl _ _ 142 rfl 24 195 .u32 Tryd.underlying24 Tryd.underlying142 (Tryd.zero_pageptr _) L.bm 4294967296 L.pg rfl HM.out (a / 256) rfl hwf ?_; rw [hpo])
      | (at_mapUpdate; refine wpList_store _ rfl _ _ _ 142 rfl 24 195 .u32 Tryd.underlying24 Tryd.underlying142 L.bm 4294967296 L.pg rfl (HM.out.alloc _) (by decide) (a / 256) rfl hwf trivial w.heap.size rfl ?_; intro w1 hm1 ht1; have HA1 := page_factsA HA.out HZ.out HP.out hm1 ht1; have HS1 := page_factsB HA.out HZ.out HP.out hm1 ht1; clear hm1 ht1)
      | go_in)
    go_ret
    exact ⟨_, _, rfl, HA1.out, HS1.out, by simp⟩
end Go.Proofs.YtdcmdjeooklmjaaDoor

/-
  Walks: the memory's write. Bytes laid into a memory (wrL).
-/
namespace Go.PageMap
open Go.Maps Go.RowKit
/-- Bytes from an address on, around the end of memory. -/
def wrL (mem : Int → Int) (a : Int) : List UInt8 → (Int → Int)
  | [] => mem
  | b :: l => wrL (fun x => if x = a then (b.toNat : Int) else mem x) ((a + 1) % 4294967296) l
theorem wrL_append (l k : List UInt8) : ∀ (mem : Int → Int) (a : Int), 0 ≤ a → a < 4294967296 → wrL mem a (l ++ k) = wrL (wrL mem a l) ((a + l.length) % 4294967296) k := by
  induction l with
  | nil => intro mem a h0 h1; simp only [List.nil_append, wrL, List.length_nil]; congr 1; omega
  | cons b l ih =>
    intro mem a h0 h1
    simp only [List.cons_append, wrL, List.length_cons]
    rw [ih _ _ (by omega) (by omega)]
    congr 1
    push_cast
    omega
theorem wrL_at (l : List UInt8) : ∀ (mem : Int → Int) (a : Int), 0 ≤ a → a + l.length ≤ 4294967296 → ∀ x : Int, wrL mem a l x = if a ≤ x ∧ x < a + l.length then ((l.getD (x - a).toNat 0).toNat : Int) else mem x := by
  induction l with
  | nil => intro mem a h0 h1 x; rw [if_neg (by simp only [List.length_nil]; omega)]; rfl
  | cons b l ih =>
    intro mem a h0 h1 x
    simp only [List.length_cons] at h1
    cases l with
    | nil =>
      simp only [wrL, List.length_cons, List.length_nil]
      by_cases e : x = a
      · subst e; rw [if_pos rfl, if_pos (by omega)]; simp
      · rw [if_neg e, if_neg (by omega)]
    | cons c l' =>
      have h2 : (a + 1) % 4294967296 = a + 1 := by simp only [List.length_cons] at h1; omega
      rw [wrL, h2, ih _ _ (by omega) (by push_cast at h1 ⊢; omega) x]
      by_cases e : x = a
      · subst e
        rw [if_neg (by omega), if_pos rfl, if_pos (by simp only [List.length_cons]; push_cast; omega)]; simp
      · by_cases e1 : a + 1 ≤ x ∧ x < a + 1 + (c :: l').length
        · rw [if_pos e1, if_pos (by push_cast at e1 ⊢; simp only [List.length_cons] at e1 ⊢; push_cast at e1 ⊢; omega)]
          have : (x - a).toNat = (x - (a + 1)).toNat + 1 := by omega
          rw [this]; rfl
        · rw [if_neg e1, if_neg e, if_neg (by simp only [List.length_cons] at e1 ⊢; push_cast at e1 ⊢; omega)]
variable {P : Program} {K : TypeId} {q : IntKind} {T : TypeId} {S : Nat} {W : World} {bm n : Nat} {pg : Int → Option Nat} {mem : Int → Int}
/-- A page's row is laid anew. -/
theorem MemAt.writeRow (h : MemAt P K q T S W bm n pg mem) {k : Int} {b : Nat} (hb : pg k = some b) {mem' : Int → Int} {cur' : Array Value} (hs : cur'.size = S) (hc : ∀ i : Nat, i < S → cur'[i]? = some (.int .u8 (mem' (k * S + i))))
    (ho : ∀ x, (∀ i : Nat, i < S → x ≠ k * S + i) → mem' x = mem x) : MemAt P K q T S (W.setRow b cur') bm n pg mem' where
  map := h.map.block (setRow_other _ _ _ _ (fun e => (h.page k b hb).1 e.symm))
  page := fun k' b' hb' => by
    obtain ⟨h1, cur, h2, h3, h4⟩ := h.page k' b' hb'
    refine ⟨h1, ?_⟩
    by_cases e : b' = b
    · subst e
      obtain rfl := h.apart k k' b' hb hb'
      exact ⟨cur', setRow_heap _ _ _ _ _ _ h2, hs, hc⟩
    · refine ⟨cur, by rw [setRow_other _ _ _ _ e]; exact h2, h3, fun j hj => ?_⟩
      rw [h4 j hj, ho]
      intro i hi e'
      obtain ⟨rfl, _⟩ := place_inj hj hi e'
      rw [hb] at hb'
      exact e (Option.some.inj hb').symm
  apart := h.apart
  bare := fun k' hk' j hj => by
    rw [ho, h.bare k' hk' j hj]
    intro i hi e'
    obtain ⟨rfl, _⟩ := place_inj hj hi e'
    rw [hb] at hk'; cases hk'

def u8cells (l : List UInt8) : List Value := l.map fun b => .int .u8 (b.toNat : Int)
theorem u8cells_one (l : List UInt8) : ∀ v ∈ u8cells l, v.oneCell' = true := by
  intro v hv
  simp only [u8cells, List.mem_map] at hv
  obtain ⟨b, _, rfl⟩ := hv
  rfl
/-- copy out of a text. -/
theorem run_copy_str (w : World) (dT sT ty elem : TypeId) (g o dLen dCap : Nat) (s : ByteArray) (cur : Array Value) (t : TypeId) (n : Nat) (hn : n = min s.size dLen)
    (hu : P.underlying dT = some (.slice elem)) (hs : (P.info? elem).map (·.size) = some 1) (hg : w.heap[g]? = some (.cells cur t (0, 0))) (hfit : o + n ≤ cur.size) :
    (Builtin.copy_ #[dT, sT] ty #[.slice (some ⟨g, o, none⟩) dLen dCap, .string s]).run P w =
      .ok (goInt n) (w.setRow g (cur.toList.take o ++ u8cells (s.data.toList.take n) ++ cur.toList.drop (o + n)).toArray) := by
  subst hn
  have hsz : s.size = s.data.toList.length := by rw [Array.length_toList]; rfl
  have hlen : (u8cells (s.data.toList.take (min s.size dLen))).length = min s.size dLen := by rw [u8cells, List.length_map, List.length_take, ← hsz]; omega
  have hst := run_storeCells_at P g o t (u8cells (s.data.toList.take (min s.size dLen))) 0 cur w hg (by rw [hlen, Nat.add_zero]; exact hfit) (u8cells_one _)
  have htk : List.take (min s.size dLen) (List.map (fun b : UInt8 => Value.int IntKind.u8 (b.toNat : Int)) s.data.toList) = u8cells (s.data.toList.take (min s.size dLen)) := by
    rw [u8cells, List.map_take]
  rw [hlen] at hst
  simp only [Nat.add_zero] at hst
  cases hq : P.info? elem with
  | none => simp [hq] at hs
  | some i =>
    generalize hW : w.setRow g (cur.toList.take o ++ u8cells (s.data.toList.take (min s.size dLen)) ++ cur.toList.drop (o + min s.size dLen)).toArray = W1 at hst ⊢
    have hmin : Nat.min s.size dLen = min s.size dLen := rfl
    simp only [Builtin.copy_, Builtin.lenOf, Builtin.firstCells]
    simp [run_underlying hu, sizeOf, typeInfo, hq, hmin]
    rw [htk, hst]
    simp [Result.andThen]
theorem wpList_copy_str {w : World} {ops : Array Oper} {rest : List Oper} {o : Oper} {a : Act} {Q : Exit → Act → World → Prop} (hgd : o.guard = none) (d s : Operand) (dT sT : TypeId)
    (ho : o.op = .call { callee := .builtin .copy, args := #[d, s], argTypes := #[dT, sT] }) (elem : TypeId) (hu : P.underlying dT = some (.slice elem)) (hsz : (P.info? elem).map (·.size) = some 1)
    (g off dLen dCap : Nat) (x : ByteArray) (hd : a.eval d = .slice (some ⟨g, off, none⟩) dLen dCap) (hs : a.eval s = .string x)
    (cur : Array Value) (t : TypeId) (hg : w.heap[g]? = some (.cells cur t (0, 0))) (n : Nat) (hn : n = min x.size dLen) (hfit : off + n ≤ cur.size)
    (h : ∀ W1, Hid (W1 = w.setRow g (cur.toList.take off ++ u8cells (x.data.toList.take n) ++ cur.toList.drop (off + n)).toArray) → wpList P ops Q rest (a.put o.dst (.int .i64 n)) W1) : wpList P ops Q (o :: rest) a w := by
  refine wpList_plain hgd fun K hK => ?_
  have hrun := run_copy_str (P := P) w dT sT o.type elem g off dLen dCap x cur t n hn hu hsz hg hfit
  generalize hW : w.setRow g (cur.toList.take off ++ u8cells (x.data.toList.take n) ++ cur.toList.drop (off + n)).toArray = W1 at hrun
  unfold Oper.wp
  simp [execOp, ho, resolve, invoke, builtin, hd, hs, hrun, Result.andThen]
  exact hK _ _ (h W1 hW.symm)
/-- A row with bytes laid into it, cell by cell. -/
theorem laid_at (cur : Array Value) (o n : Nat) (l : List UInt8) (hl : l.length = n) (hfit : o + n ≤ cur.size) (i : Nat) : (cur.toList.take o ++ u8cells l ++ cur.toList.drop (o + n)).toArray[i]? = if o ≤ i ∧ i < o + n then some (.int .u8 ((l.getD (i - o) 0).toNat : Int)) else cur[i]? := by
  rw [List.getElem?_toArray]
  have h1 : (cur.toList.take o).length = o := by simp; omega
  have h2 : (u8cells l).length = n := by rw [u8cells, List.length_map, hl]
  by_cases c1 : i < o
  · rw [if_neg (by omega), List.append_assoc, List.getElem?_append_left (by omega), List.getElem?_take, if_pos c1, Array.getElem?_toList]
  · by_cases c2 : i < o + n
    · rw [if_pos (by omega), List.append_assoc, List.getElem?_append_right (by omega), h1, List.getElem?_append_left (by omega), u8cells, List.getElem?_map]
      rw [List.getElem?_eq_getElem (by omega)]
      simp [List.getD, List.getElem?_eq_getElem (show i - o < l.length by omega)]
    · rw [if_neg (by omega), List.getElem?_append_right (by simp only [List.length_append]; omega)]
      simp only [List.length_append, h1, h2, List.getElem?_drop, Array.getElem?_toList]
      congr 1; omega
end Go.PageMap
namespace Go.Proofs.YtdcmdjeooklmjaaDoor
open Go.RowKit Go.PageMap Go.Maps
def strSize : Value → Nat | .string s => s.size | _ => 0
theorem Tryd.sizeByte : (Tryd.prog.info? 5).map (·.size) = some 1 := by kernel_rfl
theorem page_tail (w : World) (p o : Nat) (ho : o < 256) (k : IntKind) : (Instr.sliceAt 226 (.pointer (some ⟨p, 0, none⟩)) (some (.int k o)) none none).run Tryd.prog w = .ok (.slice (some ⟨p, o, none⟩) (256 - o) (256 - o)) w := by
  have hl : Tryd.prog.arrayLen 226 = 256 := by kernel_rfl
  have hs : (sizeOf (Tryd.prog.elem 226)).run Tryd.prog w = .ok 1 w := by kernel_rfl
  rw [run_sliceAt_array_l (P := Tryd.prog) w 226 ⟨p, 0, none⟩ (by kernel_rfl) k (o : Int) (by omega) (by rw [hl]; omega), hs]
  simp only [Result.andThen, slicedAt, hl, Int.toNat_natCast, Nat.mul_one]
  rw [if_neg (by omega), Addr.add_lit, Nat.zero_add]
theorem ext_drop (s : ByteArray) (k : Nat) : (s.extract k s.size).data.toList = s.data.toList.drop k := by
  rw [ByteArray.data_extract]
  have h : s.size = s.data.size := rfl
  rw [h, Array.toList_extract, List.extract_eq_take_drop, List.take_of_length_le]
  simp
theorem ext_ext (s : ByteArray) (k n : Nat) : (s.extract k s.size).extract n (s.extract k s.size).size = s.extract (k + n) s.size := by
  apply ByteArray.ext
  apply Array.toList_inj.1
  rw [ext_drop, ext_drop, ext_drop, List.drop_drop]
theorem measure_lt {x y : ByteArray} (h : y.size < x.size) : strSize (.string y) < strSize (.string x) := h
/-- Bytes are laid into the page that is there. -/
theorem write_facts {W W1 : World} {L : Lay} {M : Mc} {a : Int} {p n : Nat} {cur : Array Value} {l : List UInt8} (h : At W L M) (hz : 1 < W.heap.size ∧ 0 < W.heap.size) (a0 : 0 ≤ a) (a1 : a < 4294967296) (hp : L.pg (a / 256) = some p)
    (hcur : W.heap[p]? = some (.cells cur 226 (0, 0))) (hl : l.length = n) (hn : (a % 256).toNat + n ≤ 256)
    (hW : W1 = W.setRow p (cur.toList.take (a % 256).toNat ++ u8cells l ++ cur.toList.drop ((a % 256).toNat + n)).toArray) : At W1 L { M with mem := wrL M.mem a l } ∧ Steps L W L W1 := by
  obtain ⟨hne, cur2, hc2, hs2, hv2⟩ := h.mem.page _ _ hp
  rw [hcur] at hc2; injection hc2 with e; injection e with e; subst e
  have hoth : ∀ k, k ≠ p → W1.heap[k]? = W.heap[k]? := fun k hk => by rw [hW]; exact setRow_other _ _ _ _ hk
  have hmem : MemAt Tryd.prog 24 .u32 226 256 W1 L.bm 4294967296 L.pg (wrL M.mem a l) := by
    rw [hW]
    refine h.mem.writeRow hp ?_ ?_ ?_
    · simp only [List.size_toArray, List.length_append, List.length_take, List.length_drop, Array.length_toList, u8cells, List.length_map]; omega
    · intro i hi
      rw [laid_at cur _ n l hl (by omega) i, wrL_at l M.mem a a0 (by omega)]
      by_cases c : (a % 256).toNat ≤ i ∧ i < (a % 256).toNat + n
      · rw [if_pos c, if_pos (by omega)]
        congr 5
        omega
      · rw [if_neg c, if_neg (by omega)]
        exact hv2 i hi
    · intro x hx
      rw [wrL_at l M.mem a a0 (by omega), if_neg]
      intro c
      refine hx (x - a / 256 * 256).toNat (by omega) ?_
      omega
  refine ⟨h.setMem hmem (fun k _ _ hk => hoth k (fun e => hk _ (by rw [hp, e]))) hz (fun q k hk => .inl ⟨q, hk⟩), ⟨rfl, by rw [hW]; rfl, by rw [hW]; rfl, by rw [hW]; rfl, by rw [hW]; simp, fun k _ hk => hoth k (fun e => hk (.inr (.inr (.inl ⟨_, by rw [hp, e]⟩)))), fun k hk => .inl hk⟩⟩

set_option maxRecDepth 100000
set_option maxHeartbeats 1000000 in
theorem m_write_any (w : World) (L : Lay) (M : Mc) (a : Int) (s : ByteArray) (h : At w L M) (hz : 1 < w.heap.size ∧ 0 < w.heap.size) (a0 : 0 ≤ a) (a1 : a < 4294967296) :
    Calls Tryd.prog 105 #[.pointer (some ⟨L.b, 33, none⟩), .int .u32 a, .string s] w fun e w' => e = .returned (.tuple #[]) ∧ ∃ L', At w' L' { M with mem := wrL M.mem a s.data.toList } ∧ Steps L w L' w' := by
  have HA : Hid (At w L M) := h
  have HZ : Hid (1 < w.heap.size ∧ 0 < w.heap.size) := hz
  clear h hz
  go_enter Tryd.func105, Tryd.ntmps105
  go_wp2_with fail
  go_loopw [1, 2] (fun av sv wr => ∃ k L', k ≤ s.size ∧ av = .int .u32 ((a + k) % 4294967296) ∧ sv = .string (s.extract k s.size) ∧ Hid (At wr L' { M with mem := wrL M.mem a (s.data.toList.take k) } ∧ Steps L w L' wr)) (fun _ sv _ => strSize sv)
  case atStart => exact ⟨0, L, Nat.zero_le _, by simp; omega, by simp, HA.out, Steps.refl _ _⟩
  case round =>
    obtain ⟨k, L', hk, rfl, rfl, hrel⟩ := hrel
    obtain ⟨x, hx⟩ : ∃ x, x = s.extract k s.size := ⟨_, rfl⟩
    obtain ⟨A, hA⟩ : ∃ A : Int, A = (a + k) % 4294967296 := ⟨_, rfl⟩
    have hxs : x.size = s.size - k := by rw [hx, ByteArray.size_extract]; omega
    rw [← hx, ← hA]
    have A0 : 0 ≤ A := by omega
    have A1 : A < 4294967296 := by omega
    have HX : Hid (x = s.extract k s.size) := hx
    have HAA : Hid (A = (a + k) % 4294967296) := hA
    have HXS : Hid (x.size = s.size - k) := hxs
    have HR : Hid (At wr L' { M with mem := wrL M.mem a (s.data.toList.take k) }) := hrel.out.1
    have HS : Hid (Steps L w L' wr) := hrel.out.2
    have HB : Hid (L.b = L'.b) := hrel.out.2.b.symm
    clear hrel hx hA hxs
    by_cases hlt : k < s.size
    · have hpos : (0 : Int) < x.size := by have := HXS.out; omega
      obtain ⟨o, ho⟩ : ∃ o : Nat, o = (A % 256).toNat := ⟨_, rfl⟩
      have hom : A.tmod 256 = (o : Int) := by rw [Int.tmod_eq_emod_of_nonneg A0]; omega
      have ho1 : o < 256 := by omega
      have HO : Hid (o = (A % 256).toNat) := ho
      clear ho
      have HZr : Hid (1 < wr.heap.size ∧ 0 < wr.heap.size) := by have := HS.out.size; have := HZ.out; rw [Hid]; omega
      go_wp2_with fail
      have hcall := m_pageToWrite_any wr L' _ A HR.out HZr.out A0 A1
      rw [← HB.out] at hcall
      refine hcall.mono ?_
      clear hcall
      rintro e w1 ⟨p, L1, rfl, hA1, hS1, hp1⟩
      obtain ⟨_, cur, hcur, hcs, _⟩ := hA1.mem.page _ _ hp1
      have HA1 : Hid (At w1 L1 { M with mem := wrL M.mem a (s.data.toList.take k) }) := hA1
      have HS1 : Hid (Steps L' wr L1 w1) := hS1
      have HP1 : Hid (L1.pg (A / 256) = some p) := hp1
      have HC : Hid (w1.heap[p]? = some (.cells cur 226 (0, 0)) ∧ cur.size = 256) := ⟨hcur, hcs⟩
      have HZ1 : Hid (1 < w1.heap.size ∧ 0 < w1.heap.size) := by have := hS1.size; have := HZr.out; rw [Hid]; omega
      obtain ⟨n, hn⟩ : ∃ n, n = min x.size (256 - o) := ⟨_, rfl⟩
      have hfit : o + n ≤ cur.size := by omega
      have hpt := page_tail w1 p o ho1 .u32
      clear hA1 hS1 hp1 hcur hcs
      have hcp : (Builtin.copy_ #[133, 9] 3 #[.slice (some ⟨p, o, none⟩) (256 - o) (256 - o), .string x]).run Tryd.prog w1 = .ok (.int .i64 n) (w1.setRow p (cur.toList.take o ++ u8cells (x.data.toList.take n) ++ cur.toList.drop (o + n)).toArray) := run_copy_str w1 _ _ _ 5 p o (256 - o) (256 - o) x cur 226 n hn Tryd.underlying133 Tryd.sizeByte HC.out.1 hfit
      obtain ⟨W2, hW2⟩ : ∃ W2, W2 = w1.setRow p (cur.toList.take o ++ u8cells (x.data.toList.take n) ++ cur.toList.drop (o + n)).toArray := ⟨_, rfl⟩
      rw [← hW2] at hcp
      have HW2 : Hid (W2 = w1.setRow p (cur.toList.take o ++ u8cells (x.data.toList.take n) ++ cur.toList.drop (o + n)).toArray) := hW2
      have hnx : n ≤ x.size := by omega
      have HN : Hid (n = min x.size (256 - o)) := hn
      have hn0 : 0 < n := by have := hpos; omega
      clear hW2 hn hfit
      go_wp2
      go_roundw
      case rel =>
        have hf := write_facts (W1 := W2) HA1.out HZ1.out A0 A1 HP1.out HC.out.1 (l := x.data.toList.take n) (n := n) (by rw [List.length_take, Array.length_toList]; exact Nat.min_eq_left hnx) (by rw [← HO.out]; have := HN.out; omega) (by rw [← HO.out]; exact HW2.out)
        have hkn : k + n ≤ s.size := by have := HXS.out; omega
        have e1 : x.data.toList.take n = (s.data.toList.drop k).take n := by rw [HX.out, ext_drop]
        refine ⟨k + n, L1, hkn, ?_, ?_, ?_⟩
        · rw [HAA.out]; push_cast; congr 1; omega
        · rw [HX.out, ext_ext]
        · refine ⟨?_, HS.out.trans (HS1.out.trans hf.2)⟩
          have := hf.1
          have e2 : wrL (wrL M.mem a (s.data.toList.take k)) A (x.data.toList.take n) = wrL M.mem a (s.data.toList.take (k + n)) := by
            rw [e1, List.take_add, wrL_append _ _ _ _ a0 a1]
            congr 1
            rw [HAA.out, List.length_take, Array.length_toList, Nat.min_eq_left (show k ≤ s.data.size from hk)]
          dsimp only at this
          rw [e2] at this
          exact this
      case measure => exact measure_lt (by rw [ByteArray.size_extract]; omega)
    · have hpos : ¬ (0 : Int) < x.size := by have := HXS.out; omega
      go_wp2
      go_end0
      refine ⟨rfl, L', ?_, HS.out⟩
      have e : s.data.toList.take k = s.data.toList := List.take_of_length_le (by rw [Array.length_toList]; show s.size ≤ k; omega)
      have := HR.out
      rw [e] at this
      exact this
end Go.Proofs.YtdcmdjeooklmjaaDoor

/-
  Walks: the memory's read.
-/
namespace Go.Proofs.YtdcmdjeooklmjaaDoor
open Go.RowKit Go.PageMap Go.Maps
/-- copy of cells into a row that is known, as one step of a region that draws. -/
theorem step_copy_row {P : Program} {ops : Array Oper} {o : Oper} {a : Act} {w : World} {K : Act → World → Prop} {Q : Exit → Act → World → Prop} {E : Prop} (hgd : o.guard = none) (d s : Operand) (dT sT : TypeId)
    (ho : o.op = .call { callee := .builtin .copy, args := #[d, s], argTypes := #[dT, sT] }) (elem : TypeId) (hu : P.underlying dT = some (.slice elem)) (hsz : (P.info? elem).map (·.size) = some 1)
    (g off dLen dCap : Nat) (ad : Addr) (sLen sCap : Nat) (hd : a.eval d = .slice (some ⟨g, off, none⟩) dLen dCap) (hs : a.eval s = .slice (some ad) sLen sCap)
    (cur : Array Value) (t : TypeId) (hg : w.heap[g]? = some (.cells cur t (0, 0))) (cs : List Value) (hn : cs.length = Nat.min sLen dLen)
    (hsrc : ∀ j v, cs[j]? = some v → w.cell? (ad.add j) = some v) (hfit : off + cs.length ≤ cur.size) (h1 : ∀ v ∈ cs, v.oneCell' = true)
    (h : ∀ W1, Hid (W1 = w.setRow g (cur.toList.take off ++ cs ++ cur.toList.drop (off + cs.length)).toArray) → K (a.put o.dst (.int .i64 cs.length)) W1) :
    if Region.wanted o (yielded ops a.tmps) = true then Oper.wp P o a w K Q else E := by
  have hw : Region.wanted o (yielded ops a.tmps) = true := by simp [Region.wanted, hgd]
  rw [if_pos hw]
  have hrun := run_copy_row (P := P) w dT sT o.type elem g off dLen dCap ad sLen sCap cur t cs hu hsz hg hn hsrc hfit h1
  generalize hW : w.setRow g (cur.toList.take off ++ cs ++ cur.toList.drop (off + cs.length)).toArray = W1 at hrun
  unfold Oper.wp
  simp [execOp, ho, resolve, invoke, builtin, hd, hs, hrun, Result.andThen]
  exact h W1 hW.symm
/-- A row with cells laid into it, cell by cell. -/
theorem laid_cells (cur : Array Value) (o : Nat) (cs : List Value) (hfit : o + cs.length ≤ cur.size) (i : Nat) : (cur.toList.take o ++ cs ++ cur.toList.drop (o + cs.length)).toArray[i]? = if o ≤ i ∧ i < o + cs.length then cs[i - o]? else cur[i]? := by
  rw [List.getElem?_toArray]
  have h1 : (cur.toList.take o).length = o := by simp; omega
  by_cases c1 : i < o
  · rw [if_neg (by omega), List.append_assoc, List.getElem?_append_left (by omega), List.getElem?_take, if_pos c1, Array.getElem?_toList]
  · by_cases c2 : i < o + cs.length
    · rw [if_pos (by omega), List.append_assoc, List.getElem?_append_right (by omega), h1, List.getElem?_append_left (by omega)]
    · rw [if_neg (by omega), List.getElem?_append_right (by simp only [List.length_append]; omega)]
      simp only [List.length_append, h1, List.getElem?_drop, Array.getElem?_toList]
      congr 1; omega

/-- What the read has done so far: the first k cells of the row are memory's bytes. -/
structure MReadAt (w wr : World) (d : Nat) (T : TypeId) (cur : Array Value) (mem : Int → Int) (a : Int) (k : Nat) : Prop where
  row : ∃ cur' : Array Value, wr.heap[d]? = some (.cells cur' T (0, 0)) ∧ cur'.size = cur.size ∧ (∀ i, i < k → cur'[i]? = some (.int .u8 (mem ((a + i) % 4294967296)))) ∧ (∀ i, k ≤ i → cur'[i]? = cur[i]?)
  os : wr.os = w.os
  tape : wr.tape = w.tape
  output : wr.output = w.output
  size : wr.heap.size = w.heap.size
  block : ∀ j, j ≠ d → wr.heap[j]? = w.heap[j]?
theorem MReadAt.start (w : World) (d : Nat) (T : TypeId) (cur : Array Value) (mem : Int → Int) (a : Int) (h : w.heap[d]? = some (.cells cur T (0, 0))) : MReadAt w w d T cur mem a 0 :=
  ⟨⟨cur, h, rfl, fun i hi => by omega, fun i _ => rfl⟩, rfl, rfl, rfl, rfl, fun _ _ => rfl⟩
/-- The page is not there: its bytes are 0, as the row's are. -/
theorem MReadAt.bare {w wr : World} {d : Nat} {T : TypeId} {cur : Array Value} {mem : Int → Int} {a : Int} {k n : Nat} (h : MReadAt w wr d T cur mem a k) (h0 : ∀ i, k ≤ i → i < k + n → cur[i]? = some (.int .u8 0)) (hm : ∀ i, k ≤ i → i < k + n → mem ((a + i) % 4294967296) = 0) :
    MReadAt w wr d T cur mem a (k + n) := by
  obtain ⟨⟨cur', h1, h2, h3, h4⟩, h5, h6, h7, h8, h9⟩ := h
  refine ⟨⟨cur', h1, h2, fun i hi => ?_, fun i hi => h4 i (by omega)⟩, h5, h6, h7, h8, h9⟩
  by_cases c : i < k
  · exact h3 i c
  · rw [h4 i (by omega), h0 i (by omega) hi, hm i (by omega) hi]
theorem MReadAt.laid {w wr W1 : World} {d : Nat} {T : TypeId} {cur cur1 : Array Value} {mem : Int → Int} {a : Int} {k n : Nat} {cs : List Value} (h : MReadAt w wr d T cur mem a k) (hc : wr.heap[d]? = some (.cells cur1 T (0, 0))) (hl : cs.length = n) (hfit : k + n ≤ cur1.size)
    (hcs : ∀ i, i < n → cs[i]? = some (.int .u8 (mem ((a + (k + i : Nat)) % 4294967296)))) (hW : W1 = wr.setRow d (cur1.toList.take k ++ cs ++ cur1.toList.drop (k + cs.length)).toArray) :
    MReadAt w W1 d T cur mem a (k + n) := by
  obtain ⟨⟨cur', h1, h2, h3, h4⟩, h5, h6, h7, h8, h9⟩ := h
  rw [hc] at h1; injection h1 with e; injection e with e; subst e
  have hfit' : k + cs.length ≤ cur1.size := by omega
  refine ⟨⟨_, by rw [hW]; exact setRow_heap _ _ _ _ _ _ hc, ?_, fun i hi => ?_, fun i hi => ?_⟩, by rw [hW]; exact h5, by rw [hW]; exact h6, by rw [hW]; exact h7, by rw [hW]; simpa using h8, fun j hj => by rw [hW, setRow_other _ _ _ _ hj]; exact h9 j hj⟩
  · rw [← h2]
    simp only [List.size_toArray, List.length_append, List.length_take, List.length_drop, Array.length_toList]; omega
  · rw [laid_cells cur1 k cs hfit' i]
    by_cases c : i < k
    · rw [if_neg (by omega)]; exact h3 i c
    · rw [if_pos (by omega), hcs (i - k) (by omega), show k + (i - k) = i by omega]
  · rw [laid_cells cur1 k cs hfit' i, if_neg (by omega)]
    exact h4 i (by omega)
def sliceLen : Value → Nat | .slice _ n _ => n | _ => 0

set_option maxRecDepth 100000
set_option maxHeartbeats 2000000 in
theorem m_read_any (w : World) (L : Lay) (M : Mc) (a : Int) (d len cap : Nat) (T : TypeId) (cur : Array Value) (h : At w L M) (a0 : 0 ≤ a) (a1 : a < 4294967296) (hd : w.heap[d]? = some (.cells cur T (0, 0))) (hnf : ¬ L.foot d) (hlc : len ≤ cap) (hcap : cap ≤ cur.size) (hm : cap ≤ 9223372036854775807)
    (hzero : ∀ i, i < len → cur[i]? = some (.int .u8 0)) :
    Calls Tryd.prog 84 #[.pointer (some ⟨L.b, 33, none⟩), .int .u32 a, .slice (some ⟨d, 0, none⟩) len cap] w fun e w' => e = .returned (.tuple #[]) ∧ MReadAt w w' d T cur M.mem a len := by
  have HA : Hid (At w L M) := h
  have HD : Hid (w.heap[d]? = some (.cells cur T (0, 0)) ∧ ¬ L.foot d ∧ ∀ i, i < len → cur[i]? = some (.int .u8 0)) := ⟨hd, hnf, hzero⟩
  clear h hd hnf hzero
  go_enter Tryd.func84, Tryd.ntmps84
  go_wp2_with fail
  go_loopw [1, 2] (fun av sv wr => ∃ (k : Nat) (X : Addr), k ≤ len ∧ av = .int .u32 ((a + k) % 4294967296) ∧ sv = .slice (some X) (len - k) (cap - k) ∧ Hid (k < len → X = ⟨d, k, none⟩) ∧ Hid (MReadAt w wr d T cur M.mem a k)) (fun _ sv _ => sliceLen sv)
  case atStart => exact ⟨0, ⟨d, 0, none⟩, Nat.zero_le _, by simp; omega, by simp, fun _ => rfl, MReadAt.start w d T cur M.mem a HD.out.1⟩
  case round =>
    obtain ⟨k, X, hk, rfl, rfl, HX, HR⟩ := hrel
    obtain ⟨A, hA⟩ : ∃ A : Int, A = (a + k) % 4294967296 := ⟨_, rfl⟩
    rw [← hA]
    have A0 : 0 ≤ A := by omega
    have A1 : A < 4294967296 := by omega
    have HAA : Hid (A = (a + k) % 4294967296) := hA
    clear hA
    have HAr : Hid (At wr L M) := HA.out.blocks fun j hj => HR.out.block j (fun e => HD.out.2.1 (e ▸ hj))
    have hpages := HAr.out.pages
    by_cases hlt : k < len
    · obtain rfl := HX.out hlt
      have hpos : (0 : Int) < ((len - k : Nat) : Int) := by omega
      obtain ⟨o, ho⟩ : ∃ o : Nat, o = (A % 256).toNat := ⟨_, rfl⟩
      have hom : A.tmod 256 = (o : Int) := by rw [Int.tmod_eq_emod_of_nonneg A0]; omega
      have ho1 : o < 256 := by omega
      have HO : Hid (o = (A % 256).toNat) := ho
      clear ho
      have hq : A.tdiv 256 = A / 256 := Int.tdiv_eq_ediv_of_nonneg A0
      have hwf : (Lit.int .u32 (A / 256)).wf = true := by
        have hmin : IntKind.u32.min = 0 := rfl
        have hmax : IntKind.u32.max = 4294967295 := rfl
        simp only [Lit.wf, Bool.and_eq_true, decide_eq_true_eq]; omega
      have HM : Hid (MapIs Tryd.prog 24 .u32 wr L.bm 4294967296 L.pg) := HAr.out.mem.map
      obtain ⟨n, hn⟩ : ∃ n : Nat, n = min (len - k) (256 - o) := ⟨_, rfl⟩
      have hmin : (if (256 : Int) - (o : Int) < ((len - k : Nat) : Int) then (256 : Int) - (o : Int) else ((len - k : Nat) : Int)) = (n : Int) := by split <;> omega
      have hn1 : n ≤ len - k := by omega
      have hn2 : n ≤ cap - k := by omega
      have hn0 : 0 < n := by omega
      have HN : Hid (n = min (len - k) (256 - o)) := hn
      have hfin : ∀ W1, MReadAt w W1 d T cur M.mem a (k + n) → (∃ (k_1 : Nat) (X : Addr), k_1 ≤ len ∧ Value.int .u32 ((A + (n : Int) % 4294967296) % 4294967296) = .int .u32 ((a + k_1) % 4294967296) ∧ Value.slice (if cap - k = n then some ⟨d, k, none⟩ else some ⟨d, k + n, none⟩) (len - k - n) (cap - k - n) = .slice (some X) (len - k_1) (cap - k_1) ∧ Hid (k_1 < len → X = ⟨d, k_1, none⟩) ∧ Hid (MReadAt w W1 d T cur M.mem a k_1)) := by
        intro W1 h1
        refine ⟨k + n, if cap - k = n then ⟨d, k, none⟩ else ⟨d, k + n, none⟩, by omega, ?_, ?_, ?_, h1⟩
        · rw [HAA.out]; push_cast; congr 1; omega
        · congr 1
          · split <;> rfl
          · omega
          · omega
        · intro h2
          rw [if_neg (by omega)]
      have HF : Hid _ := hfin
      have hbyte : ∀ i, i < n → M.mem ((a + (k + i : Nat)) % 4294967296) = M.mem (A / 256 * (256 : Nat) + (o + i : Nat)) := by
        intro i hi
        congr 1
        have := HAA.out
        have := HO.out
        push_cast
        omega
      have HBY : Hid _ := hbyte
      clear hn hfin hbyte
      cases hpg : L.pg (A / 256) with
      | none =>
        have hpo : ptrOf (L.pg (A / 256)) = .pointer none := by rw [hpg]; rfl
        have HP : Hid (L.pg (A / 256) = none) := hpg
        clear hpg
        go_wp2_with (first
          | (at_lookup; refine wpList_look _ rfl _ _ 142 rfl 24 195 .u32 Tryd.underlying24 Tryd.underlying142 (Tryd.zero_pageptr _) L.bm 4294967296 L.pg rfl HM.out (A / 256) rfl hwf ?_; rw [hpo])
          | go_in)
        refine ⟨?_, ?_⟩
        · have e : (n : Int) % 4294967296 = n := by omega
          have := HF.out wr (HR.out.bare (n := n) (fun i h1 h2 => HD.out.2.2 i (by omega)) (fun i h1 h2 => by
            have e1 := HBY.out (i - k) (by omega)
            rw [show k + (i - k) = i by omega] at e1
            rw [e1]
            exact HAr.out.mem.bare _ HP.out _ (by have := HN.out; omega)))
          rw [e] at this
          exact this
        · show len - k - n < len - k
          omega
      | some p =>
        have hpo : ptrOf (L.pg (A / 256)) = .pointer (some ⟨p, 0, none⟩) := by rw [hpg]; rfl
        have HP : Hid (L.pg (A / 256) = some p) := hpg
        have hpt := page_tail wr.drew p o ho1 .i64
        clear hpg
        obtain ⟨cur1, q1, q2, q3, q4⟩ := HR.out.row
        obtain ⟨_, pc, p1, p2, p3⟩ := HAr.out.mem.page _ _ HP.out
        obtain ⟨cs, hcs⟩ : ∃ cs : List Value, cs = (pc.toList.drop o).take n := ⟨_, rfl⟩
        have hcl : cs.length = n := by rw [hcs]; simp; have := HN.out; omega
        have hcv : ∀ i, i < n → cs[i]? = some (.int .u8 (M.mem ((a + (k + i : Nat)) % 4294967296))) := by
          intro i hi
          rw [hcs, List.getElem?_take, if_pos hi, List.getElem?_drop, Array.getElem?_toList, p3 (o + i) (by have := HN.out; omega), HBY.out i hi]
        have s1 : Hid (wr.drew.heap[d]? = some (.cells cur1 T (0, 0))) := q1
        have s2 : Hid (cs.length = Nat.min (256 - o) n) := by rw [Hid, hcl]; have := HN.out; exact (Nat.min_eq_right (by omega)).symm
        have s3 : Hid (∀ j v, cs[j]? = some v → wr.drew.cell? ((⟨p, o, none⟩ : Addr).add j) = some v) := by
          intro j v hv
          rw [hcs, List.getElem?_take] at hv
          split at hv
          · rw [List.getElem?_drop, Array.getElem?_toList] at hv
            rw [Addr.add_lit]
            show wr.cell? _ = _
            simp only [World.cell?, p1]
            simpa using hv
          · cases hv
        have s4 : Hid (k + cs.length ≤ cur1.size) := by rw [Hid, hcl, q2]; omega
        have s5 : Hid (∀ v ∈ cs, v.oneCell' = true) := by
          intro v hv
          obtain ⟨i, hi⟩ := List.mem_iff_getElem?.1 hv
          have := (List.getElem?_eq_some_iff.1 hi).1
          rw [hcv i (by omega)] at hi
          injection hi with hi; rw [← hi]; rfl
        have HL : Hid (∀ W1, W1 = wr.drew.setRow d (cur1.toList.take k ++ cs ++ cur1.toList.drop (k + cs.length)).toArray → MReadAt w W1 d T cur M.mem a (k + n)) := fun W1 hW => MReadAt.laid (wr := wr.drew) (n := n) (cs := cs) ⟨HR.out.row, HR.out.os, HR.out.tape, HR.out.output, HR.out.size, HR.out.block⟩ q1 hcl (by have := s4.out; omega) hcv hW
        have HCL : Hid (cs.length = n) := hcl
        clear q1 q2 q3 q4 p1 p2 p3 hcs hcl hcv
        go_wp2_with (first
          | (at_lookup; refine wpList_look _ rfl _ _ 142 rfl 24 195 .u32 Tryd.underlying24 Tryd.underlying142 (Tryd.zero_pageptr _) L.bm 4294967296 L.pg rfl HM.out (A / 256) rfl hwf ?_; rw [hpo])
          | go_in)
        go_region_law (refine step_copy_row rfl (.tmp 31) (.tmp 35) 133 133 rfl 5 Tryd.underlying133 Tryd.sizeByte d k n (cap - k) ⟨p, o, none⟩ (256 - o) (256 - o) (by simp [Act.eval, Act.put]) (by simp [Act.eval, Act.put]) cur1 T s1.out cs s2.out s3.out s4.out s5.out ?_; intro W1 hW1)
        all_goals (have HR1 : Hid (MReadAt w W1 d T cur M.mem a (k + n)) := HL.out W1 hW1.out)
        all_goals clear hW1
        all_goals go_wp2
        all_goals refine ⟨?_, show len - k - n < len - k by omega⟩
        all_goals (have e : (n : Int) % 4294967296 = n := by omega)
        all_goals (have := HF.out W1 HR1.out; rw [e] at this; exact this)
    · have hpos : ¬ (0 : Int) < ((len - k : Nat) : Int) := by omega
      obtain rfl : k = len := by omega
      go_wp2
      go_end0
      exact ⟨rfl, HR.out⟩
end Go.Proofs.YtdcmdjeooklmjaaDoor

/-
  Walks: the memory's number and putNumber.
-/
namespace Go.Proofs.YtdcmdjeooklmjaaDoor
open Go.RowKit Go.PageMap Go.Maps
/-- The number of so many bytes at an address. -/
def numAt (mem : Int → Int) (a : Int) : Nat → Int
  | 0 => 0
  | n + 1 => numAt mem a n + mem ((a + n) % 4294967296) * 2 ^ (8 * n)
/-- Bytes in memory. -/
def MemOk (mem : Int → Int) : Prop := ∀ x, 0 ≤ mem x ∧ mem x < 256
theorem or_sum (x b : Int) (i : Nat) (hi : i ≤ 24) (hx : 0 ≤ x) (hx1 : x < 2 ^ i) (hb : 0 ≤ b) (hb1 : b < 256) : bits .or .u32 x (b * 2 ^ i) = x + b * 2 ^ i := by
  have h2 : (2 : Int) ^ i ≤ 2 ^ 24 := by exact_mod_cast Nat.pow_le_pow_right (by decide) hi
  have h3 : (2 : Int) ^ 24 = 16777216 := rfl
  have h4 : b * 2 ^ i ≤ 255 * 2 ^ i := Int.mul_le_mul_of_nonneg_right (by omega) (Int.pow_nonneg (by decide))
  have h5 : 0 ≤ b * 2 ^ i := Int.mul_nonneg hb (Int.pow_nonneg (by decide))
  rw [u32_or _ _ hx (by omega) h5 (by omega)]
  obtain ⟨y, rfl⟩ := Int.eq_ofNat_of_zero_le hx
  obtain ⟨c, rfl⟩ := Int.eq_ofNat_of_zero_le hb
  have e : ((c : Int) * 2 ^ i).toNat = c <<< i := by rw [Nat.shiftLeft_eq]; exact_mod_cast Int.toNat_natCast _
  rw [e, Int.toNat_natCast, Nat.or_comm, ← Nat.shiftLeft_add_eq_or_of_lt (by exact_mod_cast hx1), Nat.shiftLeft_eq]
  push_cast
  omega

theorem idxb (a b c d : Int) (w : World) : (Instr.index 213 (.agg #[.int .u8 a, .int .u8 b, .int .u8 c, .int .u8 d]) (.int .i64 0)).run Tryd.prog w = .ok (.int .u8 a) w ∧ (Instr.index 213 (.agg #[.int .u8 a, .int .u8 b, .int .u8 c, .int .u8 d]) (.int .i64 1)).run Tryd.prog w = .ok (.int .u8 b) w ∧
    (Instr.index 213 (.agg #[.int .u8 a, .int .u8 b, .int .u8 c, .int .u8 d]) (.int .i64 2)).run Tryd.prog w = .ok (.int .u8 c) w ∧ (Instr.index 213 (.agg #[.int .u8 a, .int .u8 b, .int .u8 c, .int .u8 d]) (.int .i64 3)).run Tryd.prog w = .ok (.int .u8 d) w := ⟨by kernel_rfl, by kernel_rfl, by kernel_rfl, by kernel_rfl⟩
set_option maxRecDepth 100000
set_option maxHeartbeats 2000000 in
theorem m_number_any (w : World) (L : Lay) (M : Mc) (a : Int) (n : Nat) (h : At w L M) (a0 : 0 ≤ a) (a1 : a < 4294967296) (hn : n = 1 ∨ n = 2 ∨ n = 4) (hmo : MemOk M.mem) :
    Calls Tryd.prog 109 #[.pointer (some ⟨L.b, 33, none⟩), .int .u32 a, .int .i64 n] w fun e w' => e = .returned (.int .u32 (numAt M.mem a n)) ∧ Below w.heap.size w w' := by
  have hn4 : n ≤ 4 := by omega
  obtain ⟨B, hB⟩ : ∃ B : Nat → Int, B = fun i => if i < n then M.mem ((a + i) % 4294967296) else 0 := ⟨_, rfl⟩
  have hBb : ∀ i, 0 ≤ B i ∧ B i < 256 := by intro i; rw [hB]; dsimp only; split; exact hmo _; omega
  have hsum : numAt M.mem a n = B 0 + B 1 * 256 + B 2 * 65536 + B 3 * 16777216 := by
    rw [hB]
    rcases hn with rfl | rfl | rfl <;> simp [numAt]
  obtain ⟨b0, hb0⟩ : ∃ b, b = B 0 := ⟨_, rfl⟩
  obtain ⟨b1, hb1⟩ : ∃ b, b = B 1 := ⟨_, rfl⟩
  obtain ⟨b2, hb2⟩ : ∃ b, b = B 2 := ⟨_, rfl⟩
  obtain ⟨b3, hb3⟩ : ∃ b, b = B 3 := ⟨_, rfl⟩
  have c0 := hBb 0
  have c1 := hBb 1
  have c2 := hBb 2
  have c3 := hBb 3
  rw [← hb0] at c0; rw [← hb1] at c1; rw [← hb2] at c2; rw [← hb3] at c3
  rw [hsum, ← hb0, ← hb1, ← hb2, ← hb3]
  obtain ⟨W0, hW0⟩ : ∃ W0, W0 = w.alloc (.cells #[.int .u8 0, .int .u8 0, .int .u8 0, .int .u8 0] 213) := ⟨_, rfl⟩
  have hsl : ∀ W0, (Instr.sliceAt 213 (.pointer (some ⟨w.heap.size, 0, none⟩)) none (some (.int .i64 n)) none).run Tryd.prog W0 = .ok (.slice (some ⟨w.heap.size, 0, none⟩) n 4) W0 := by
    intro W0
    have hl : Tryd.prog.arrayLen 213 = 4 := by kernel_rfl
    have hs : (sizeOf (Tryd.prog.elem 213)).run Tryd.prog W0 = .ok 1 W0 := by kernel_rfl
    rw [run_sliceAt_array_h (P := Tryd.prog) W0 213 ⟨w.heap.size, 0, none⟩ (by kernel_rfl) .i64 (n : Int) (by omega) (by rw [hl]; omega), hs]
    simp only [Result.andThen, slicedAt, hl, Int.toNat_natCast, Nat.mul_one]
    rw [if_neg (by omega), Addr.add_lit, Nat.zero_add, Nat.sub_zero, Nat.sub_zero]
  have hnf : ¬ L.foot w.heap.size := fun hf => Nat.lt_irrefl _ (h.foot_lt hf)
  have HA : Hid (At W0 L M) := by rw [Hid, hW0]; exact h.alloc _
  have HB : Hid (Below w.heap.size w W0) := by rw [Hid, hW0]; exact (Below.refl _ _).alloc (Nat.le_refl _) _
  have HW : Hid (W0.heap[w.heap.size]? = some (.cells #[.int .u8 0, .int .u8 0, .int .u8 0, .int .u8 0] 213 (0, 0))) := by rw [Hid, hW0]; exact heap_alloc_new _ _
  have HBB : Hid (b0 = B 0 ∧ b1 = B 1 ∧ b2 = B 2 ∧ b3 = B 3 ∧ B = fun i => if i < n then M.mem ((a + i) % 4294967296) else 0) := ⟨hb0, hb1, hb2, hb3, hB⟩
  have HE : Hid (w.alloc (.cells #[.int .u8 0, .int .u8 0, .int .u8 0, .int .u8 0] 213) = W0) := hW0.symm
  clear h hmo hn hBb hb0 hb1 hb2 hb3 hB hW0
  go_enter Tryd.func109, Tryd.ntmps109
  go_wp2_with fail
  rw [HE.out]
  have hz : ∀ i, i < n → (#[.int .u8 0, .int .u8 0, .int .u8 0, .int .u8 0] : Array Value)[i]? = some (.int .u8 0) := by
    intro i hi
    have : i = 0 ∨ i = 1 ∨ i = 2 ∨ i = 3 := by omega
    rcases this with rfl | rfl | rfl | rfl <;> rfl
  refine (m_read_any W0 L M a w.heap.size n 4 _ _ HA.out a0 a1 HW.out hnf hn4 (by simp) (by decide) hz).mono ?_
  rintro e w1 ⟨rfl, HR⟩
  have HB1 : Hid (Below w.heap.size w w1) := HB.out.trans ⟨HR.os, HR.tape, HR.output, by rw [HR.size]; exact Nat.le_refl _, fun k hk => HR.block k (by omega)⟩
  obtain ⟨cur', q1, q2, q3, q4⟩ := HR.row
  have hcur : cur' = #[.int .u8 b0, .int .u8 b1, .int .u8 b2, .int .u8 b3] := by
    obtain ⟨e0, e1, e2, e3, eB⟩ := HBB.out
    have hq : ∀ i, i < 4 → cur'[i]? = some (.int .u8 (B i)) := by
      intro i hi
      by_cases c : i < n
      · rw [q3 i c, eB]; simp [c]
      · rw [q4 i (by omega), eB]
        simp only [if_neg c]
        have : i = 0 ∨ i = 1 ∨ i = 2 ∨ i = 3 := by omega
        rcases this with rfl | rfl | rfl | rfl <;> rfl
    apply Array.ext_getElem?
    intro i
    by_cases hi : i < 4
    · rw [hq i hi, e0, e1, e2, e3]
      have : i = 0 ∨ i = 1 ∨ i = 2 ∨ i = 3 := by omega
      rcases this with rfl | rfl | rfl | rfl <;> rfl
    · rw [Array.getElem?_eq_none (by rw [q2]; simp; omega), Array.getElem?_eq_none (by simp; omega)]
  have d0 : w1.cell? ⟨w.heap.size, 0, none⟩ = some (.int .u8 b0) := by simp [World.cell?, q1, hcur]
  have d1 : w1.cell? ⟨w.heap.size, 1, none⟩ = some (.int .u8 b1) := by simp [World.cell?, q1, hcur]
  have d2 : w1.cell? ⟨w.heap.size, 2, none⟩ = some (.int .u8 b2) := by simp [World.cell?, q1, hcur]
  have d3 : w1.cell? ⟨w.heap.size, 3, none⟩ = some (.int .u8 b3) := by simp [World.cell?, q1, hcur]
  clear HR q1 q2 q3 q4 hcur hz hsl
  go_wp2_with fail
  go_loopw [8, 17] (fun nv iv wr => Hid (Below w.heap.size w wr) ∧ ∃ k : Nat, k ≤ 4 ∧ iv = .int .i64 k ∧ nv = .int .u32 (match k with | 0 => 0 | 1 => b0 | 2 => b0 + b1 * 256 | 3 => b0 + b1 * 256 + b2 * 65536 | _ => b0 + b1 * 256 + b2 * 65536 + b3 * 16777216)) (fun _ iv _ => 4 - (intOf iv).toNat)
  case atStart => exact ⟨HB1.out, 0, by omega, rfl, rfl⟩
  case round =>
    obtain ⟨HBr, k, hk, rfl, rfl⟩ := hrel
    have o1 : bits .or .u32 b0 (b1 * 256) = b0 + b1 * 256 := or_sum b0 b1 8 (by decide) c0.1 (by omega) c1.1 c1.2
    have o2 : bits .or .u32 (b0 + b1 * 256) (b2 * 65536) = b0 + b1 * 256 + b2 * 65536 := or_sum (b0 + b1 * 256) b2 16 (by decide) (by omega) (by omega) c2.1 c2.2
    have o3 : bits .or .u32 (b0 + b1 * 256 + b2 * 65536) (b3 * 16777216) = b0 + b1 * 256 + b2 * 65536 + b3 * 16777216 := or_sum (b0 + b1 * 256 + b2 * 65536) b3 24 (by decide) (by omega) (by omega) c3.1 c3.2
    have o0 : bits .or .u32 0 b0 = b0 := by have := or_sum 0 b0 0 (by decide) (by decide) (by decide) c0.1 c0.2; rw [show b0 * 2 ^ 0 = b0 by omega] at this; omega
    obtain ⟨i0, i1, i2, i3⟩ := idxb b0 b1 b2 b3 wr
    have : k = 0 ∨ k = 1 ∨ k = 2 ∨ k = 3 ∨ k = 4 := by omega
    rcases this with rfl | rfl | rfl | rfl | rfl
    · clear o1 o2 o3 i1 i2 i3
      go_wp2
      exact ⟨⟨HBr, 1, by decide, rfl, rfl⟩, by decide⟩
    · clear o0 o2 o3 i0 i2 i3
      go_wp2
      exact ⟨⟨HBr, 2, by decide, rfl, rfl⟩, by decide⟩
    · clear o0 o1 o3 i0 i1 i3
      go_wp2
      exact ⟨⟨HBr, 3, by decide, rfl, rfl⟩, by decide⟩
    · clear o0 o1 o2 i0 i1 i2
      go_wp2
      exact ⟨⟨HBr, 4, by decide, rfl, rfl⟩, by decide⟩
    · clear o0 o1 o2 o3 i0 i1 i2 i3
      go_wp2
      go_ret
      exact ⟨rfl, HBr.out⟩
/-- A number's bytes, the lowest first. -/
def leB (x : Int) : List UInt8 := [UInt8.ofNat (x % 256).toNat, UInt8.ofNat (x / 256 % 256).toNat, UInt8.ofNat (x / 65536 % 256).toNat, UInt8.ofNat (x / 16777216 % 256).toNat]
theorem byteNat (v : Int) (h0 : 0 ≤ v) (h1 : v < 256) : ((UInt8.ofNat v.toNat).toNat : Int) = v := by
  rw [UInt8.toNat_ofNat']; omega
set_option maxHeartbeats 2000000 in
theorem m_putNumber_any (w : World) (L : Lay) (M : Mc) (a x : Int) (n : Nat) (h : At w L M) (hz : 1 < w.heap.size ∧ 0 < w.heap.size) (a0 : 0 ≤ a) (a1 : a < 4294967296) (x0 : 0 ≤ x) (x1 : x < 4294967296) (hn : n = 1 ∨ n = 2 ∨ n = 4) :
    Calls Tryd.prog 170 #[.pointer (some ⟨L.b, 33, none⟩), .int .u32 a, .int .i64 n, .int .u32 x] w fun e w' => e = .returned (.tuple #[]) ∧ ∃ L', At w' L' { M with mem := wrL M.mem a ((leB x).take n) } ∧ Steps L w L' w' := by
  obtain ⟨W0, hW0⟩ : ∃ W0, W0 = w.alloc (.cells #[.int .u8 (x % 256), .int .u8 (x / 256 % 256), .int .u8 (x / 65536 % 256), .int .u8 (x / 16777216)] 213) := ⟨_, rfl⟩
  have HA : Hid (At W0 L M) := by rw [hW0]; exact h.alloc _
  have HS : Hid (Steps L w L W0) := by rw [hW0]; exact Steps.alloc _ _ _
  have HZ : Hid (1 < W0.heap.size ∧ 0 < W0.heap.size) := by have := HS.out.size; rw [Hid]; omega
  have hcv : (convert 133 9 (.slice (some ⟨w.heap.size, 0, none⟩) n 4)).run Tryd.prog W0 = .ok (.string ⟨((leB x).take n).toArray⟩) W0 := by
    have hl : ((leB x).take n).length = n := by rcases hn with rfl | rfl | rfl <;> rfl
    have hb : ∀ j (hj : j < ((leB x).take n).length), W0.cell? ((⟨w.heap.size, 0, none⟩ : Addr).add j) = some (.int .u8 (((leB x).take n)[j].toNat : Int)) := by
      intro j hj
      rw [hW0, Addr.add_lit, Nat.zero_add, World.cell?_alloc_new, List.getElem_take]
      have hj4 : j = 0 ∨ j = 1 ∨ j = 2 ∨ j = 3 := by omega
      rcases hj4 with rfl | rfl | rfl | rfl
      · simp only [leB, List.getElem_cons_zero]; rw [byteNat _ (by omega) (by omega)]; rfl
      · simp only [leB, List.getElem_cons_zero, List.getElem_cons_succ]; rw [byteNat _ (by omega) (by omega)]; rfl
      · simp only [leB, List.getElem_cons_zero, List.getElem_cons_succ]; rw [byteNat _ (by omega) (by omega)]; rfl
      · simp only [leB, List.getElem_cons_zero, List.getElem_cons_succ]; rw [byteNat _ (by omega) (by omega), show x / 16777216 % 256 = x / 16777216 by omega]; rfl
    have := run_convert_bytes_back (P := Tryd.prog) W0 133 9 5 ⟨w.heap.size, 0, none⟩ 4 ((leB x).take n) Tryd.underlying133 Tryd.underlying5 Tryd.underlying9 hb
    rw [hl] at this
    exact this
  have HE : Hid (w.alloc (.cells #[.int .u8 (x % 256), .int .u8 (x / 256 % 256), .int .u8 (x / 65536 % 256), .int .u8 (x / 16777216)] 213) = W0) := hW0.symm
  rw [hW0] at hcv
  clear h hz hW0
  rcases hn with rfl | rfl | rfl
  all_goals (
    go_enter Tryd.func170, Tryd.ntmps170
    go_wp2_with fail
    rw [HE.out]
    refine (m_write_any W0 L M a _ HA.out HZ.out a0 a1).mono ?_
    rintro e w1 ⟨rfl, L1, hA1, hS1⟩
    have HA1 : Hid (At w1 L1 _) := hA1
    have HS1 : Hid (Steps L W0 L1 w1) := hS1
    clear hA1 hS1 hcv
    go_wp2
    go_end0
    exact ⟨rfl, L1, HA1.out, HS.out.trans HS1.out⟩)
end Go.Proofs.YtdcmdjeooklmjaaDoor
