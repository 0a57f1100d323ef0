/-
  MP MQ N0 NA N1 in one text.
-/
import Derived.Maps.OwnSet
import Derived.Maps.OwnOps
import Derived.Below
import Derived.Laws.Rows
import Derived.Test.YtdcmdjeooklmjaaDoorProg
import Derived.WalkKit
import Derived.ArgAppend
import Derived.Deep.RegionLaw
set_option linter.unusedVariables false
set_option linter.unusedSimpArgs false
/-
  A map whose elements are pointers to the heads of blocks, or nil, as a function from keys to blocks. Nothing of the dump is imported (for stage 4: the memory is a map of pages).
-/
namespace Go.PageMap
open Go.Maps

/-- How an element that is a pointer to a block's head reads: by the block's number. -/
def ptrElem : Value → Option (DataW Unit × List MemPlace)
  | .pointer none => some (.nil, [])
  | .pointer (some ⟨b, 0, none⟩) => some (.lit (.int .i64 b), [])
  | _ => none
/-- The pointer that stands for a page, or for none. -/
def ptrOf : Option Nat → Value
  | none => .pointer none
  | some b => .pointer (some ⟨b, 0, none⟩)
def dOf : Option Nat → DataW Unit
  | none => .nil
  | some b => .lit (.int .i64 b)
theorem ptrElem_of (o : Option Nat) : ptrElem (ptrOf o) = some (dOf o, []) := by cases o <;> rfl
theorem ptrElem_inv {v : Value} {o : Option Nat} {ps : List MemPlace} (h : ptrElem v = some (dOf o, ps)) : v = ptrOf o := by
  unfold ptrElem at h
  split at h
  · cases o with
    | none => rfl
    | some b => simp [dOf] at h
  · rename_i b
    cases o with
    | none => simp [dOf] at h
    | some b' =>
      simp [dOf] at h
      obtain ⟨h, _⟩ := h; obtain rfl : b = b' := by omega
      rfl
  · cases h

variable {P : Program} {K : TypeId} {q : IntKind} {W : World} {bm n : Nat} {pg : Int → Option Nat}

/-- Block bm is a map of at most n entries, from numbers of kind q to pages. -/
def MapIs (P : Program) (K : TypeId) (q : IntKind) (W : World) (bm n : Nat) (pg : Int → Option Nat) : Prop :=
  ∃ D : DataW Unit, W.ownsMap P K ptrElem bm n D ∧ ∀ k, (Lit.int q k).wf = true → D.atKey (.int q k) .nil = dOf (pg k) ∧ Maps.has D (.int q k) = (pg k).isSome

theorem MapIs.made (W : World) : MapIs P K q (W.alloc (.map #[] 0)) W.heap.size 0 (fun _ => none) :=
  ⟨.map [], World.ownsMap_made W P K ptrElem, fun _ _ => ⟨rfl, rfl⟩⟩
theorem MapIs.lt (h : MapIs P K q W bm n pg) : bm < W.heap.size := by obtain ⟨D, h, _⟩ := h; exact h.lt
theorem MapIs.mono (h : MapIs P K q W bm n pg) {n' : Nat} (hn : n ≤ n') : MapIs P K q W bm n' pg := by obtain ⟨D, h, hd⟩ := h; exact ⟨D, h.mono hn, hd⟩
theorem MapIs.kept {W' : World} {row : Option Nat} (h : MapIs P K q W bm n pg) (hg : W.grownBy W' row) (hne : some bm ≠ row) : MapIs P K q W' bm n pg := by
  obtain ⟨D, h, hd⟩ := h; exact ⟨D, h.kept hg hne, hd⟩
theorem MapIs.setCell (h : MapIs P K q W bm n pg) {a : Addr} (ha : bm ≠ a.block) (u : Value) : MapIs P K q (W.setCell a u) bm n pg := by
  obtain ⟨D, h, hd⟩ := h; exact ⟨D, h.setCell ha u, hd⟩
theorem MapIs.alloc (h : MapIs P K q W bm n pg) (o : Obj) : MapIs P K q (W.alloc o) bm n pg := by obtain ⟨D, h, hd⟩ := h; exact ⟨D, h.alloc o, hd⟩
theorem MapIs.drew (h : MapIs P K q W bm n pg) : MapIs P K q W.drew bm n pg := by obtain ⟨D, h, hd⟩ := h; exact ⟨D, h.drew, hd⟩
/-- Another world in which the map's block is the same. -/
theorem MapIs.block {W' : World} (h : MapIs P K q W bm n pg) (hb : W'.heap[bm]? = W.heap[bm]?) : MapIs P K q W' bm n pg := by
  obtain ⟨D, ⟨es, clock, h1, h2, h3, h4⟩, hd⟩ := h
  exact ⟨D, ⟨es, clock, by rw [hb]; exact h1, h2, h3, h4⟩, hd⟩

theorem MapIs.put (h : MapIs P K q W bm n pg) {D : DataW Unit} {W' : World} {k : Int} {o : Option Nat} {n' : Nat} (hD : IsMap D) (hd : ∀ k, (Lit.int q k).wf = true → D.atKey (.int q k) .nil = dOf (pg k) ∧ Maps.has D (.int q k) = (pg k).isSome)
    (hk : (Lit.int q k).wf = true) (hkl : WideAt.IsKeyLit (.int q k)) (ho : o.isSome = true) (hw : W'.ownsMap P K ptrElem bm n' (D.put (.int q k) (dOf o))) : MapIs P K q W' bm n' (fun j => if j = k then o else pg j) := by
  refine ⟨_, hw, fun j hj => ?_⟩
  by_cases e : j = k
  · subst e
    dsimp only
    rw [atKey_put_same hD hkl, has_put_same hD hkl, if_pos rfl]
    exact ⟨rfl, ho.symm⟩
  · have hne : (Lit.int q j) ≠ .int q k := fun h => e (by cases h; rfl)
    dsimp only
    rw [atKey_put_other hne, has_put_other hne, if_neg e]
    exact hd j hj

section walk
variable {w : World} {ops : Array Oper} {rest : List Oper} {o : Oper} {a : Act} {Q : Exit → Act → World → Prop}

/-- 'm[k]' at the operation. -/
theorem wpList_look (w : World) {ops : Array Oper} {rest : List Oper} {o : Oper} {a : Act} {Q : Exit → Act → World → Prop}
    (hg : o.guard = none) (m x : Operand) (t : TypeId) (hop : o.op = Op.lookup t m x false)
    (K e : TypeId) (q : IntKind) (hk : P.underlying K = some (.int q)) (ht : P.underlying t = some (.map K e)) (hz : (zeroValue e).run P w = .ok (.pointer none) w) (bm n : Nat) (pg : Int → Option Nat)
    (hm : a.eval m = .map (some bm)) (hown : MapIs P K q w bm n pg) (k : Int) (hx : a.eval x = .int q k) (hwf : (Lit.int q k).wf = true)
    (hK : wpList P ops Q rest (a.put o.dst (ptrOf (pg k))) w) : wpList P ops Q (o :: rest) a w := by
  refine wpList_plain hg fun K' hK' => ?_
  obtain ⟨D, hD, hd⟩ := hown
  obtain ⟨v, ps, hrun, hv⟩ := hD.lookup (int_keyed hk) ht hz (zd := .nil) (zp := []) rfl (keyOf_int_mk hk hwf)
  rw [(hd k hwf).1] at hv
  have hvv := ptrElem_inv hv
  subst hvv
  unfold Oper.wp
  simp [execOp, hop, hm, hx, hrun, Result.andThen]
  exact hK' _ _ hK

/-- 'p, ok := m[k]' at the operation. -/
theorem wpList_look_ok (w : World) {ops : Array Oper} {rest : List Oper} {o : Oper} {a : Act} {Q : Exit → Act → World → Prop}
    (hg : o.guard = none) (m x : Operand) (t : TypeId) (hop : o.op = Op.lookup t m x true)
    (K e : TypeId) (q : IntKind) (hk : P.underlying K = some (.int q)) (ht : P.underlying t = some (.map K e)) (hz : (zeroValue e).run P w = .ok (.pointer none) w) (bm n : Nat) (pg : Int → Option Nat)
    (hm : a.eval m = .map (some bm)) (hown : MapIs P K q w bm n pg) (k : Int) (hx : a.eval x = .int q k) (hwf : (Lit.int q k).wf = true)
    (hK : wpList P ops Q rest (a.put o.dst (.tuple #[ptrOf (pg k), .bool (pg k).isSome])) w) : wpList P ops Q (o :: rest) a w := by
  refine wpList_plain hg fun K' hK' => ?_
  obtain ⟨D, hD, hd⟩ := hown
  obtain ⟨v, ps, hrun, hv⟩ := hD.look_ok (int_keyed hk) ht hz (zd := .nil) (zp := []) rfl (keyOf_int_mk hk hwf)
  rw [(hd k hwf).1] at hv
  rw [(hd k hwf).2] at hrun
  have hvv := ptrElem_inv hv
  subst hvv
  unfold Oper.wp
  simp [execOp, hop, hm, hx, hrun, Result.andThen]
  exact hK' _ _ hK

/-- 'm[k] = p' at the operation. -/
theorem wpList_store (w : World) {ops : Array Oper} {rest : List Oper} {o : Oper} {a : Act} {Q : Exit → Act → World → Prop}
    (hg : o.guard = none) (m x v : Operand) (t : TypeId) (hop : o.op = Op.mapUpdate t m x v)
    (K e : TypeId) (q : IntKind) (hk : P.underlying K = some (.int q)) (ht : P.underlying t = some (.map K e)) (bm n : Nat) (pg : Int → Option Nat)
    (hm : a.eval m = .map (some bm)) (hown : MapIs P K q w bm n pg) (hn : n < maxLen) (k : Int) (hx : a.eval x = .int q k) (hwf : (Lit.int q k).wf = true) (hkl : WideAt.IsKeyLit (.int q k)) (p : Nat) (hv : a.eval v = .pointer (some ⟨p, 0, none⟩))
    (hK : ∀ w', MapIs P K q w' bm (n + 1) (fun j => if j = k then some p else pg j) → w.mapTurned w' bm → wpList P ops Q rest (a.put o.dst undef) w') : wpList P ops Q (o :: rest) a w := by
  refine wpList_plain hg fun K' hK' => ?_
  have hown0 := hown
  obtain ⟨D, hD, hd⟩ := hown
  obtain ⟨w', hrun, r1, r2⟩ := hD.store (int_keyed hk) ht hn (keyOf_int_mk hk hwf) (ptrElem_of (some p))
  unfold Oper.wp
  simp [execOp, hop, hm, hx, hv, ptrOf] at hrun ⊢
  simp [hrun, Result.andThen]
  exact hK' _ _ (hK w' (hown0.put hD.isMap hd hwf hkl rfl r1) r2)
end walk
end Go.PageMap

/-
  A memory of bytes in pages, each in a block of its own that a map leads to: as a function from addresses to bytes. Nothing of the dump is imported (for stage 4).
-/
namespace Go.PageMap
open Go.Maps

variable {P : Program} {K : TypeId} {q : IntKind} {T : TypeId} {S : Nat} {W : World} {bm n : Nat} {pg : Int → Option Nat} {mem : Int → Int}

/-- Pages of S bytes by number: what the memory holds. -/
structure MemAt (P : Program) (K : TypeId) (q : IntKind) (T : TypeId) (S : Nat) (W : World) (bm n : Nat) (pg : Int → Option Nat) (mem : Int → Int) : Prop where
  map : MapIs P K q W bm n pg
  page : ∀ k b, pg k = some b → b ≠ bm ∧ ∃ cur, W.heap[b]? = some (.cells cur T (0, 0)) ∧ cur.size = S ∧ ∀ i : Nat, i < S → cur[i]? = some (.int .u8 (mem (k * S + i)))
  apart : ∀ k k' b, pg k = some b → pg k' = some b → k = k'
  bare : ∀ k, pg k = none → ∀ i : Nat, i < S → mem (k * S + i) = 0

theorem MemAt.lt (h : MemAt P K q T S W bm n pg mem) {k : Int} {b : Nat} (hb : pg k = some b) : b < W.heap.size := by
  obtain ⟨_, cur, hc, _⟩ := h.page k b hb
  exact (Array.getElem?_eq_some_iff.1 hc).1
theorem MemAt.cell (h : MemAt P K q T S W bm n pg mem) {k : Int} {b i : Nat} (hb : pg k = some b) (hi : i < S) : W.cell? ⟨b, i, none⟩ = some (.int .u8 (mem (k * S + i))) := by
  obtain ⟨_, cur, hc, _, hcell⟩ := h.page k b hb
  simp [World.cell?, hc, hcell i hi]
theorem MemAt.free (h : MemAt P K q T S W bm n pg mem) {k : Int} {b i : Nat} (hb : pg k = some b) : W.frozen? ⟨b, i, none⟩ = false := by
  obtain ⟨_, cur, hc, _, _⟩ := h.page k b hb
  simp [World.frozen?, hc]
theorem MemAt.made (W : World) : MemAt P K q T S (W.alloc (.map #[] 0)) W.heap.size 0 (fun _ => .none) (fun _ => 0) where
  map := MapIs.made W
  page := fun _ _ h => by cases h
  apart := fun _ _ _ h => by cases h
  bare := fun _ _ _ _ => rfl
/-- A world in which the map's block and the pages' are the same. -/
theorem MemAt.blocks {W' : World} (h : MemAt P K q T S W bm n pg mem) (hm : W'.heap[bm]? = W.heap[bm]?) (hp : ∀ k b, pg k = some b → W'.heap[b]? = W.heap[b]?) : MemAt P K q T S W' bm n pg mem where
  map := h.map.block hm
  page := fun k b hb => by
    obtain ⟨h1, cur, h2, h3⟩ := h.page k b hb
    exact ⟨h1, cur, by rw [hp k b hb]; exact h2, h3⟩
  apart := h.apart
  bare := h.bare
theorem MemAt.below {W' : World} {B : Nat} (h : MemAt P K q T S W bm n pg mem) (hb : RowKit.Below B W W') (hB : W.heap.size ≤ B) : MemAt P K q T S W' bm n pg mem :=
  h.blocks (hb.block _ (Nat.lt_of_lt_of_le h.map.lt hB)) (fun _ _ hp => hb.block _ (Nat.lt_of_lt_of_le (h.lt hp) hB))
theorem MemAt.alloc (h : MemAt P K q T S W bm n pg mem) (o : Obj) : MemAt P K q T S (W.alloc o) bm n pg mem := h.below ((RowKit.Below.refl _ _).alloc (Nat.le_refl _) o) (Nat.le_refl _)
theorem MemAt.drew (h : MemAt P K q T S W bm n pg mem) : MemAt P K q T S W.drew bm n pg mem := h.below (RowKit.Below.refl W.heap.size W).drew (Nat.le_refl _)
/-- A store beside the memory. -/
theorem MemAt.setCell (h : MemAt P K q T S W bm n pg mem) {a : Addr} (hm : bm ≠ a.block) (hp : ∀ k b, pg k = some b → b ≠ a.block) (u : Value) : MemAt P K q T S (W.setCell a u) bm n pg mem :=
  h.blocks (heap_setCell_other _ _ _ _ hm) (fun k b hb => heap_setCell_other _ _ _ _ (hp k b hb))

theorem place_inj {k k' : Int} {i i' : Nat} (hi : i < S) (hi' : i' < S) (h : k * S + i = k' * S + i') : k = k' ∧ i = i' := by
  have h1 : (k * S + i) / S = k := by
    rw [Int.mul_comm, Int.add_comm, Int.add_mul_ediv_left _ _ (by omega), Int.ediv_eq_zero_of_lt (by omega) (by omega)]; omega
  have h2 : (k' * S + i') / S = k' := by
    rw [Int.mul_comm, Int.add_comm, Int.add_mul_ediv_left _ _ (by omega), Int.ediv_eq_zero_of_lt (by omega) (by omega)]; omega
  have hk : k = k' := by rw [← h1, ← h2, h]
  subst hk
  exact ⟨rfl, by omega⟩
/-- A byte is written into a page that is there. -/
theorem MemAt.write (h : MemAt P K q T S W bm n pg mem) {k : Int} {b i : Nat} (hb : pg k = some b) (hi : i < S) (v : Int) :
    MemAt P K q T S (W.setCell ⟨b, i, .none⟩ (.int .u8 v)) bm n pg (fun x => if x = k * S + i then v else mem x) where
  map := h.map.setCell (fun e => (h.page k b hb).1 e.symm) _
  page := fun k' b' hb' => by
    obtain ⟨h1, cur, h2, h3, h4⟩ := h.page k' b' hb'
    refine ⟨h1, ?_⟩
    by_cases e : b' = b
    · subst e
      obtain rfl := h.apart k k' b' hb hb'
      refine ⟨cur.setIfInBounds i (.int .u8 v), heap_setCell_same _ _ _ _ _ _ h2, by simp [h3], fun j hj => ?_⟩
      by_cases ej : i = j
      · subst ej
        simp [h3, hi]
      · rw [Array.getElem?_setIfInBounds_ne ej, h4 j hj]
        have : ¬ (k * S + j = k * S + i) := fun e => ej (place_inj hi hj e.symm).2
        simp [this]
    · refine ⟨cur, by rw [heap_setCell_other _ _ _ _ e]; exact h2, h3, fun j hj => ?_⟩
      have : ¬ (k' * S + j = k * S + i) := fun e' => by
        obtain ⟨rfl, _⟩ := place_inj hj hi e'
        rw [hb] at hb'
        exact e (Option.some.inj hb').symm
      rw [h4 j hj]; simp [this]
  apart := h.apart
  bare := fun k' hk' j hj => by
    have : ¬ (k' * S + j = k * S + i) := fun e' => by
      obtain ⟨rfl, _⟩ := place_inj hj hi e'
      rw [hb] at hk'; cases hk'
    simp [this, h.bare k' hk' j hj]
/-- A page is made: its block is new, the map leads to it. -/
theorem MemAt.newPage (h : MemAt P K q T S W bm n pg mem) {k : Int} (hk : pg k = .none) {p : Nat} {W' : World} {n' : Nat} (hp : W.heap.size ≤ p) (hc : ∃ cur, W'.heap[p]? = some (.cells cur T (0, 0)) ∧ cur.size = S ∧ ∀ i : Nat, i < S → cur[i]? = some (.int .u8 0))
    (hm : MapIs P K q W' bm n' (fun j => if j = k then some p else pg j)) (hg : ∀ b, b < W.heap.size → b ≠ bm → W'.heap[b]? = W.heap[b]?) : MemAt P K q T S W' bm n' (fun j => if j = k then some p else pg j) mem where
  map := hm
  page := fun k' b' hb' => by
    by_cases e : k' = k
    · subst e
      rw [if_pos rfl] at hb'
      obtain rfl := Option.some.inj hb'
      obtain ⟨cur, h1, h2, h3⟩ := hc
      exact ⟨fun e => by have := h.map.lt; omega, cur, h1, h2, fun i hi => by rw [h.bare k' hk i hi]; exact h3 i hi⟩
    · rw [if_neg e] at hb'
      obtain ⟨h1, cur, h2, h3⟩ := h.page k' b' hb'
      exact ⟨h1, cur, by rw [hg b' (h.lt hb') h1]; exact h2, h3⟩
  apart := fun k1 k2 b h1 h2 => by
    by_cases e1 : k1 = k <;> by_cases e2 : k2 = k
    · rw [e1, e2]
    · rw [if_pos e1] at h1; rw [if_neg e2] at h2
      obtain rfl := Option.some.inj h1
      have := h.lt h2; omega
    · rw [if_neg e1] at h1; rw [if_pos e2] at h2
      obtain rfl := Option.some.inj h2
      have := h.lt h1; omega
    · rw [if_neg e1] at h1; rw [if_neg e2] at h2
      exact h.apart k1 k2 b h1 h2
  bare := fun k' hk' i hi => by
    by_cases e : k' = k
    · rw [if_pos e] at hk'; cases hk'
    · rw [if_neg e] at hk'; exact h.bare k' hk' i hi
end Go.PageMap

/-
  The machine in memory: a plain machine (Mc), where its parts lie (Lay), the predicate At; its own laws. (Stage 4.)
-/
namespace Go.Proofs.YtdcmdjeooklmjaaDoor
open Go.RowKit Go.PageMap Go.Maps

/-- A machine, plainly. -/
structure Mc where
  pc : Int
  regs : Nat → Int
  mem : Int → Int
  par : List (Int × Int)
  ahead : Int
  line : Int
  fuse : Bool
  cause : Int
  done : Int
/-- Where its parts lie. -/
structure Lay where
  b : Nat
  bm : Nat
  pg : Int → Option Nat
  pv : Value
  gv : Value
/-- The blocks that are the machine's own. -/
def Lay.foot (L : Lay) (k : Nat) : Prop := k = L.b ∨ k = L.bm ∨ (∃ p, L.pg p = some k) ∨ L.pv.ownBlock = some k ∨ L.gv.ownBlock = some k

/-- The machine's cells. -/
def mval (M : Mc) (L : Lay) (i : Nat) : Value :=
  if i = 0 then .int .u32 M.pc else if i ≤ 32 then .int .u32 (M.regs (i - 1)) else if i = 33 then .map (some L.bm) else if i = 34 then L.pv else if i = 35 then .int .u32 M.ahead else if i = 36 then L.gv else
  if i = 37 then .int .u32 M.line else if i = 38 then .bool M.fuse else if i = 39 then .int .i64 M.cause else .int .i64 M.done

/-- A block of n cells, by a function. -/
def CellsAt (W : World) (b : Nat) (T : TypeId) (n : Nat) (v : Nat → Value) : Prop :=
  ∃ cur : Array Value, W.heap[b]? = some (.cells cur T (0, 0)) ∧ cur.size = n ∧ ∀ i, i < n → cur[i]? = some (v i)

section cells
variable {W W' : World} {b n : Nat} {T : TypeId} {v : Nat → Value}
theorem CellsAt.lt (h : CellsAt W b T n v) : b < W.heap.size := by obtain ⟨cur, hc, _⟩ := h; exact (Array.getElem?_eq_some_iff.1 hc).1
theorem CellsAt.cell (h : CellsAt W b T n v) {i : Nat} (hi : i < n) : W.cell? ⟨b, i, none⟩ = some (v i) := by
  obtain ⟨cur, hc, _, hv⟩ := h; simp [World.cell?, hc, hv i hi]
theorem CellsAt.free (h : CellsAt W b T n v) (i : Nat) : W.frozen? ⟨b, i, none⟩ = false := by
  obtain ⟨cur, hc, _⟩ := h; simp [World.frozen?, hc]
theorem CellsAt.block (h : CellsAt W b T n v) (hb : W'.heap[b]? = W.heap[b]?) : CellsAt W' b T n v := by
  obtain ⟨cur, hc, h⟩ := h; exact ⟨cur, by rw [hb]; exact hc, h⟩
theorem CellsAt.set (h : CellsAt W b T n v) (i : Nat) (u : Value) : CellsAt (W.setCell ⟨b, i, none⟩ u) b T n (fun j => if j = i then u else v j) := by
  obtain ⟨cur, hc, hs, hv⟩ := h
  refine ⟨cur.setIfInBounds i u, heap_setCell_same _ _ _ _ _ _ hc, by simp [hs], fun j hj => ?_⟩
  by_cases e : j = i
  · subst e; simp [hs, hj]
  · rw [Array.getElem?_setIfInBounds_ne (fun h => e h.symm), hv j hj]; simp [e]
theorem CellsAt.congr {v' : Nat → Value} (h : CellsAt W b T n v) (he : ∀ i, i < n → v i = v' i) : CellsAt W b T n v' := by
  obtain ⟨cur, hc, hs, hv⟩ := h
  exact ⟨cur, hc, hs, fun i hi => by rw [hv i hi, he i hi]⟩
/-- Blocks of other kinds are other blocks. -/
theorem CellsAt.ne {b' n' : Nat} {T' : TypeId} {v' : Nat → Value} (h : CellsAt W b T n v) (h' : CellsAt W b' T' n' v') (hT : T ≠ T') : b ≠ b' := by
  rintro rfl
  obtain ⟨c, hc, _⟩ := h; obtain ⟨c', hc', _⟩ := h'
  rw [hc] at hc'; injection hc' with e; injection e with _ e; exact hT e
end cells

/-- A slice of rows of the machine's own: nil, or at the head of a block. -/
theorem ownsRow_blk {W : World} {base : Nat} {e : TypeId} {size n : Nat} {v : Value} {xs : List Value} (h : W.ownsRow base e size v n xs) {k : Nat} (hk : v.ownBlock = some k) :
    ∃ cur, W.heap[k]? = some (.cells cur e (0, 0)) := by
  rcases h.2 with ⟨rfl, _⟩ | ⟨g, cap, cur, rfl, _, hc, _⟩
  · cases hk
  · simp [Value.ownBlock] at hk; subst hk; exact ⟨cur, hc⟩
theorem ownsRow_block {W W' : World} {base : Nat} {e : TypeId} {size n : Nat} {v : Value} {xs : List Value} (h : W.ownsRow base e size v n xs) (hb : ∀ k, v.ownBlock = some k → W'.heap[k]? = W.heap[k]?) : W'.ownsRow base e size v n xs := by
  obtain ⟨h1, h2⟩ := h
  refine ⟨h1, ?_⟩
  rcases h2 with h2 | ⟨g, cap, cur, rfl, h3, hc, h4⟩
  · exact .inl h2
  · exact .inr ⟨g, cap, cur, rfl, h3, by rw [hb g rfl]; exact hc, h4⟩

/-- The cells of the buffer's parcels. -/
def parCells (l : List (Int × Int)) : List Value := l.flatMap fun p => [.int .u32 p.1, .int .u16 p.2]
theorem parCells_append (l k : List (Int × Int)) : parCells (l ++ k) = parCells l ++ parCells k := by simp [parCells]
theorem parCells_length (l : List (Int × Int)) : (parCells l).length = l.length * 2 := by
  induction l with
  | nil => rfl
  | cons a l ih => simp only [parCells, List.flatMap_cons, List.length_append, List.length_cons, List.length_nil] at ih ⊢; omega

/-- The machine M lies at L. -/
structure At (W : World) (L : Lay) (M : Mc) : Prop where
  cells : CellsAt W L.b 152 41 (mval M L)
  mem : MemAt Tryd.prog 24 .u32 226 256 W L.bm 4294967296 L.pg M.mem
  par : W.ownsRow 0 212 2 L.pv M.par.length (parCells M.par)
  grp : ∃ n xs, n ≤ 16 ∧ (∀ u ∈ xs, u.oneCell' = true) ∧ W.ownsRow 0 189 2 L.gv n xs
  high : ∀ k, L.foot k → 1 < k ∧ 0 < k

/-- From w to w' only what is L's own has turned; what is L'’s own was L's, or is new. -/
structure Steps (L : Lay) (w : World) (L' : Lay) (w' : World) : Prop where
  b : L'.b = L.b
  os : w'.os = w.os
  tape : w'.tape = w.tape
  output : w'.output = w.output
  size : w.heap.size ≤ w'.heap.size
  block : ∀ k, k < w.heap.size → ¬ L.foot k → w'.heap[k]? = w.heap[k]?
  foot : ∀ k, L'.foot k → L.foot k ∨ w.heap.size ≤ k

theorem Steps.refl (L : Lay) (w : World) : Steps L w L w := ⟨rfl, rfl, rfl, rfl, Nat.le_refl _, fun _ _ _ => rfl, fun _ h => .inl h⟩
theorem Steps.trans {L L' L'' : Lay} {w w' w'' : World} (h : Steps L w L' w') (k : Steps L' w' L'' w'') : Steps L w L'' w'' where
  b := k.b.trans h.b
  os := k.os.trans h.os
  tape := k.tape.trans h.tape
  output := k.output.trans h.output
  size := Nat.le_trans h.size k.size
  block := fun i hi hf => by
    rw [k.block i (Nat.lt_of_lt_of_le hi h.size) (fun hf' => (h.foot i hf').elim hf (fun h => by omega)), h.block i hi hf]
  foot := fun i hi => by
    rcases k.foot i hi with h1 | h1
    · exact h.foot i h1
    · exact .inr (Nat.le_trans h.size h1)
theorem Steps.below {L : Lay} {w w' : World} (h : Below w.heap.size w w') : Steps L w L w' := ⟨rfl, h.os, h.tape, h.output, h.size, fun k hk _ => h.block k hk, fun _ h => .inl h⟩

section at_
variable {W W' : World} {L : Lay} {M : Mc}
theorem At.foot_lt (h : At W L M) {k : Nat} (hk : L.foot k) : k < W.heap.size := by
  rcases hk with rfl | rfl | ⟨p, hp⟩ | hp | hp
  · exact h.cells.lt
  · exact h.mem.map.lt
  · exact h.mem.lt hp
  · obtain ⟨_, hc⟩ := ownsRow_blk h.par hp; exact (Array.getElem?_eq_some_iff.1 hc).1
  · obtain ⟨_, _, _, _, hg⟩ := h.grp
    obtain ⟨_, hc⟩ := ownsRow_blk hg hp; exact (Array.getElem?_eq_some_iff.1 hc).1
theorem At.blocks (h : At W L M) (hb : ∀ k, L.foot k → W'.heap[k]? = W.heap[k]?) : At W' L M where
  cells := h.cells.block (hb _ (.inl rfl))
  mem := h.mem.blocks (hb _ (.inr (.inl rfl))) (fun p b hp => hb _ (.inr (.inr (.inl ⟨p, hp⟩))))
  par := ownsRow_block h.par fun k hk => hb _ (.inr (.inr (.inr (.inl hk))))
  grp := by
    obtain ⟨n, xs, hn, h1c, hg⟩ := h.grp
    exact ⟨n, xs, hn, h1c, ownsRow_block hg fun k hk => hb _ (.inr (.inr (.inr (.inr hk))))⟩
  high := h.high
theorem At.below {B : Nat} (h : At W L M) (hb : Below B W W') (hB : W.heap.size ≤ B) : At W' L M := h.blocks fun k hk => hb.block _ (Nat.lt_of_lt_of_le (h.foot_lt hk) hB)
/-- Another machine's steps leave this one as it is. -/
theorem At.beside {L1 L1' : Lay} (h : At W L M) (hs : Steps L1 W L1' W') (hd : ∀ k, L.foot k → ¬ L1.foot k) : At W' L M := h.blocks fun k hk => hs.block _ (h.foot_lt hk) (hd k hk)

theorem At.pc (h : At W L M) : W.cell? ⟨L.b, 0, none⟩ = some (.int .u32 M.pc) := h.cells.cell (by decide)
theorem At.pages (h : At W L M) : W.cell? ⟨L.b, 33, none⟩ = some (.map (some L.bm)) := h.cells.cell (by decide)
theorem At.parcels (h : At W L M) : W.cell? ⟨L.b, 34, none⟩ = some L.pv := h.cells.cell (by decide)
theorem At.ahead (h : At W L M) : W.cell? ⟨L.b, 35, none⟩ = some (.int .u32 M.ahead) := h.cells.cell (by decide)
theorem At.groups (h : At W L M) : W.cell? ⟨L.b, 36, none⟩ = some L.gv := h.cells.cell (by decide)
theorem At.line (h : At W L M) : W.cell? ⟨L.b, 37, none⟩ = some (.int .u32 M.line) := h.cells.cell (by decide)
theorem At.fuse (h : At W L M) : W.cell? ⟨L.b, 38, none⟩ = some (.bool M.fuse) := h.cells.cell (by decide)
theorem At.cause (h : At W L M) : W.cell? ⟨L.b, 39, none⟩ = some (.int .i64 M.cause) := h.cells.cell (by decide)
theorem At.done (h : At W L M) : W.cell? ⟨L.b, 40, none⟩ = some (.int .i64 M.done) := h.cells.cell (by decide)
theorem At.reg (h : At W L M) {j : Nat} (hj : j < 32) : W.cell? ⟨L.b, 1 + j, none⟩ = some (.int .u32 (M.regs j)) := by
  have := h.cells.cell (i := 1 + j) (by omega)
  rw [this]; unfold mval; rw [if_neg (by omega), if_pos (by omega), show 1 + j - 1 = j by omega]
theorem At.free (h : At W L M) (i : Nat) : W.frozen? ⟨L.b, i, none⟩ = false := h.cells.free i

/-- A store into the machine's block: what else is its own stays. -/
theorem At.set (h : At W L M) (i : Nat) (u : Value) {M' : Mc} (hv : ∀ j, j < 41 → (if j = i then u else mval M L j) = mval M' L j) (hm : M'.mem = M.mem) (hp : M'.par = M.par) : At (W.setCell ⟨L.b, i, none⟩ u) L M' where
  cells := (h.cells.set i u).congr hv
  mem := by
    rw [hm]
    refine h.mem.setCell ?_ ?_ u
    · rintro (e : L.bm = L.b)
      obtain ⟨cur, hc, _⟩ := h.cells
      obtain ⟨D, ⟨es, cl, h1, _⟩, _⟩ := h.mem.map
      rw [e, hc] at h1; cases h1
    · intro k b hb e
      obtain ⟨_, cur, h1, _⟩ := h.mem.page k b hb
      obtain ⟨cur', h2, _⟩ := h.cells
      rw [show b = L.b from e, h2] at h1; injection h1 with e; injection e with _ e; revert e; decide
  par := by
    rw [hp]
    refine ownsRow_block h.par fun k hk => heap_setCell_other _ _ _ _ ?_
    rintro (rfl : k = L.b)
    obtain ⟨cur, h1⟩ := ownsRow_blk h.par hk
    obtain ⟨cur', h2, _⟩ := h.cells
    rw [h2] at h1; injection h1 with e; injection e with _ e; revert e; decide
  grp := by
    obtain ⟨n, xs, hn, h1c, hg⟩ := h.grp
    refine ⟨n, xs, hn, h1c, ownsRow_block hg fun k hk => heap_setCell_other _ _ _ _ ?_⟩
    rintro (rfl : k = L.b)
    obtain ⟨cur, h1⟩ := ownsRow_blk hg hk
    obtain ⟨cur', h2, _⟩ := h.cells
    rw [h2] at h1; injection h1 with e; injection e with _ e; revert e; decide
  high := h.high
/-- What kind of block is whose. -/
theorem At.not_page (h : At W L M) {k : Nat} {cur : Array Value} {T : TypeId} {f : Nat × Nat} (hk : W.heap[k]? = some (.cells cur T f)) (hT : T ≠ 226) : k ≠ L.bm ∧ ∀ p, L.pg p ≠ some k := by
  constructor
  · rintro rfl
    obtain ⟨D, ⟨es, cl, h1, _⟩, _⟩ := h.mem.map
    rw [hk] at h1; cases h1
  · intro p hp
    obtain ⟨_, c, h1, _⟩ := h.mem.page p k hp
    rw [hk] at h1; injection h1 with e; injection e with _ e; exact hT e
/-- The memory has turned, nothing else. -/
theorem At.setMem (h : At W L M) {pg' : Int → Option Nat} {mem' : Int → Int} (hm : MemAt Tryd.prog 24 .u32 226 256 W' L.bm 4294967296 pg' mem')
    (hk : ∀ k, k < W.heap.size → k ≠ L.bm → (∀ p, L.pg p ≠ some k) → W'.heap[k]? = W.heap[k]?) (hz : 1 < W.heap.size ∧ 0 < W.heap.size) (hpg : ∀ p k, pg' p = some k → (∃ q, L.pg q = some k) ∨ W.heap.size ≤ k) : At W' { L with pg := pg' } { M with mem := mem' } where
  cells := by
    obtain ⟨cur, hc, h1⟩ := h.cells
    have hn := h.not_page hc (by decide)
    exact (h.cells.block (hk _ h.cells.lt hn.1 hn.2)).congr fun i _ => rfl
  mem := hm
  par := ownsRow_block h.par fun k hb => by
    obtain ⟨cur, hc⟩ := ownsRow_blk h.par hb
    have hn := h.not_page hc (by decide)
    exact hk _ (Array.getElem?_eq_some_iff.1 hc).1 hn.1 hn.2
  grp := by
    obtain ⟨n, xs, hn, h1c, hg⟩ := h.grp
    refine ⟨n, xs, hn, h1c, ownsRow_block hg fun k hb => ?_⟩
    obtain ⟨cur, hc⟩ := ownsRow_blk hg hb
    have hn := h.not_page hc (by decide)
    exact hk _ (Array.getElem?_eq_some_iff.1 hc).1 hn.1 hn.2
  high := by
    rintro k (h1 | h1 | ⟨p, h1⟩ | h1 | h1)
    · exact h.high k (.inl h1)
    · exact h.high k (.inr (.inl h1))
    · rcases hpg p k h1 with ⟨q, h2⟩ | h2
      · exact h.high k (.inr (.inr (.inl ⟨q, h2⟩)))
      · omega
    · exact h.high k (.inr (.inr (.inr (.inl h1))))
    · exact h.high k (.inr (.inr (.inr (.inr h1))))
/-- The buffer's slice is stored. -/
theorem At.setPar (h : At W L M) {v : Value} {p : List (Int × Int)} (hv : W.ownsRow 0 212 2 v p.length (parCells p)) (hb : ∀ k, v.ownBlock = some k → 1 < k ∧ 0 < k) :
    At (W.setCell ⟨L.b, 34, none⟩ v) { L with pv := v } { M with par := p } where
  cells := by
    refine (h.cells.set 34 v).congr fun j hj => ?_
    by_cases e : j = 34 <;> simp [mval, e]
  mem := by
    obtain ⟨cur, hc, h1⟩ := h.cells
    have hn := h.not_page hc (by decide)
    exact h.mem.setCell hn.1.symm (fun k b hb e => hn.2 k (by rw [hb]; exact congrArg some e)) _
  par := by
    refine ownsRow_block hv fun k hk => heap_setCell_other _ _ _ _ ?_
    rintro (rfl : k = L.b)
    obtain ⟨cur, h1⟩ := ownsRow_blk hv hk
    obtain ⟨cur', h2, _⟩ := h.cells
    rw [h2] at h1; injection h1 with e; injection e with _ e; revert e; decide
  grp := by
    obtain ⟨n, xs, hn, h1c, hg⟩ := h.grp
    refine ⟨n, xs, hn, h1c, ownsRow_block hg fun k hk => heap_setCell_other _ _ _ _ ?_⟩
    rintro (rfl : k = L.b)
    obtain ⟨cur, h1⟩ := ownsRow_blk hg hk
    obtain ⟨cur', h2, _⟩ := h.cells
    rw [h2] at h1; injection h1 with e; injection e with _ e; revert e; decide
  high := by
    rintro k (h1 | h1 | h1 | h1 | h1)
    · exact h.high k (.inl h1)
    · exact h.high k (.inr (.inl h1))
    · exact h.high k (.inr (.inr (.inl h1)))
    · exact hb k h1
    · exact h.high k (.inr (.inr (.inr (.inr h1))))
/-- The groups' slice is stored. -/
theorem At.setGrp (h : At W L M) {v : Value} {n : Nat} {xs : List Value} (hn : n ≤ 16) (h1c : ∀ u ∈ xs, u.oneCell' = true) (hv : W.ownsRow 0 189 2 v n xs) (hb : ∀ k, v.ownBlock = some k → 1 < k ∧ 0 < k) :
    At (W.setCell ⟨L.b, 36, none⟩ v) { L with gv := v } M where
  cells := by
    refine (h.cells.set 36 v).congr fun j hj => ?_
    by_cases e : j = 36 <;> simp [mval, e]
  mem := by
    obtain ⟨cur, hc, h1⟩ := h.cells
    have hn := h.not_page hc (by decide)
    exact h.mem.setCell hn.1.symm (fun k b hb e => hn.2 k (by rw [hb]; exact congrArg some e)) _
  par := by
    refine ownsRow_block h.par fun k hk => heap_setCell_other _ _ _ _ ?_
    rintro (rfl : k = L.b)
    obtain ⟨cur, h1⟩ := ownsRow_blk h.par hk
    obtain ⟨cur', h2, _⟩ := h.cells
    rw [h2] at h1; injection h1 with e; injection e with _ e; revert e; decide
  grp := by
    refine ⟨n, xs, hn, h1c, ownsRow_block hv fun k hk => heap_setCell_other _ _ _ _ ?_⟩
    rintro (rfl : k = L.b)
    obtain ⟨cur, h1⟩ := ownsRow_blk hv hk
    obtain ⟨cur', h2, _⟩ := h.cells
    rw [h2] at h1; injection h1 with e; injection e with _ e; revert e; decide
  high := by
    rintro k (h1 | h1 | h1 | h1 | h1)
    · exact h.high k (.inl h1)
    · exact h.high k (.inr (.inl h1))
    · exact h.high k (.inr (.inr (.inl h1)))
    · exact h.high k (.inr (.inr (.inr (.inl h1))))
    · exact hb k h1
theorem Steps.set (w : World) (i : Nat) (u : Value) : Steps L w L (w.setCell ⟨L.b, i, none⟩ u) where
  b := rfl
  os := rfl
  tape := rfl
  output := rfl
  size := by simp [World.setCell]
  block := fun k hk hf => heap_setCell_other _ _ _ _ (fun e => hf (.inl e))
  foot := fun _ h => .inl h
theorem At.setPc (h : At W L M) (x : Int) : At (W.setCell ⟨L.b, 0, none⟩ (.int .u32 x)) L { M with pc := x } := by
  refine h.set 0 _ (fun j hj => ?_) rfl rfl
  by_cases e : j = 0 <;> simp [mval, e]
theorem At.setAhead (h : At W L M) (x : Int) : At (W.setCell ⟨L.b, 35, none⟩ (.int .u32 x)) L { M with ahead := x } := by
  refine h.set 35 _ (fun j hj => ?_) rfl rfl
  by_cases e : j = 35 <;> simp [mval, e]
theorem At.setCause (h : At W L M) (x : Int) : At (W.setCell ⟨L.b, 39, none⟩ (.int .i64 x)) L { M with cause := x } := by
  refine h.set 39 _ (fun j hj => ?_) rfl rfl
  by_cases e : j = 39 <;> simp [mval, e]
theorem At.setDone (h : At W L M) (x : Int) : At (W.setCell ⟨L.b, 40, none⟩ (.int .i64 x)) L { M with done := x } := by
  refine h.set 40 _ (fun j hj => ?_) rfl rfl
  by_cases e : j = 40
  · simp [mval, e]
  · rw [if_neg e]; unfold mval
    have : j < 40 := by omega
    repeat' split
    all_goals first | rfl | omega
theorem At.setReg (h : At W L M) {n : Nat} (hn : n < 32) (x : Int) : At (W.setCell ⟨L.b, 1 + n, none⟩ (.int .u32 x)) L { M with regs := fun j => if j = n then x else M.regs j } := by
  refine h.set (1 + n) _ (fun j hj => ?_) rfl rfl
  unfold mval
  by_cases e : j = 1 + n
  · subst e
    rw [if_pos rfl, if_neg (by omega), if_pos (by omega)]; simp
  · rw [if_neg e]
    by_cases e0 : j = 0
    · simp [e0]
    · by_cases e1 : j ≤ 32
      · simp only [if_neg e0, if_pos e1]; rw [if_neg (show ¬ (j - 1 = n) by omega)]
      · simp only [if_neg e0, if_neg e1]
end at_
end Go.Proofs.YtdcmdjeooklmjaaDoor

/-
  append onto a slice of one's own: whose block the new slice has. Nothing of the dump.
-/
namespace Go
variable {P : Program}
theorem ownsRow_zero {w : World} {B : Nat} {e : TypeId} {size n : Nat} {v : Value} {xs : List Value} (h : w.ownsRow B e size v n xs) : w.ownsRow 0 e size v n xs := by
  obtain ⟨h1, h2⟩ := h
  refine ⟨h1, ?_⟩
  rcases h2 with h2 | ⟨g, cap, cur, rfl, _, h3⟩
  · exact .inl h2
  · exact .inr ⟨g, cap, cur, rfl, Nat.zero_le _, h3⟩
theorem m_grownBy_any {w w' : World} (h : w.grownBy w' none) (row : Option Nat) : w.grownBy w' row := ⟨h.os, h.tape, h.output, h.size, fun k hk _ => h.block k hk (by simp)⟩

theorem run_append_fp (w : World) (t ty e : TypeId) (i : TypeInfo) (z : Value) (size bytes : Nat) (ht : P.underlying t = some (.slice e)) (hi : P.info? e = some i) (hz : i.zero = some z)
    (hsize : i.size = size) (hby : i.bytes = bytes) (hzs : z.cells.size = size) (hsz : 0 < size)
    (v : Value) (n : Nat) (xs : List Value) (hown : w.ownsRow 0 e size v n xs)
    (a : Addr) (m c : Nat) (news : List Value) (hm : 0 < m) (hl : news.length = m * size) (hnews : ∀ j u, news[j]? = some u → w.cell? (a.add j) = some u) (h1 : ∀ u ∈ news, u.oneCell' = true)
    (h63 : n + m ≤ maxLen) (hbytes : (n + m) * bytes ≤ 140737488355328) :
    ∃ v' w', (Builtin.append_ #[t, t] ty #[v, .slice (some a) m c]).run P w = .ok v' w' ∧ w'.ownsRow 0 e size v' (n + m) (xs ++ news) ∧ w.grownBy w' v.ownBlock ∧ (∀ g, v'.ownBlock = some g → v.ownBlock = some g ∨ w.heap.size ≤ g) := by
  by_cases hr : ∃ g cap cur, v = .slice (some ⟨g, 0, none⟩) n cap ∧ w.heap[g]? = some (.cells cur e (0, 0)) ∧ n + m ≤ cap
  · obtain ⟨g, cap, cur, rfl, hg, hroom⟩ := hr
    obtain ⟨v', w', h2, h3, h4, _⟩ := run_append_own (P := P) w 0 t ty e i z size bytes ht hi hz hsize hby hzs hsz _ n xs hown a m c news hl hnews h1 h63 hbytes (Nat.zero_le _)
    refine ⟨v', w', h2, h3, h4, fun g' hg' => .inl ?_⟩
    subst hsize
    rcases hown.2 with ⟨h5, _⟩ | ⟨g2, cap2, cur2, h5, _, h6, h7, h8, h9, _⟩
    · cases h5
    · injection h5 with e1 e2 e3; injection e1 with e1; injection e1 with e1
      subst e1; subst e3
      rw [hg] at h6; injection h6 with h6; injection h6 with h6; subst h6
      have hrun := run_append_room (P := P) w t ty e i ht hi g n cap cur hg a m c news hl hnews h1 hroom (by rw [hl, h9, ← Nat.add_mul]; exact Nat.mul_le_mul_right _ hroom)
      rw [hrun] at h2; injection h2 with h2; subst h2
      exact hg'
  · rcases hown.2 with ⟨rfl, rfl⟩ | ⟨g, cap, cur, rfl, _, hg, hnc, hcm, hcs, htake⟩
    · obtain ⟨v', w', h2, h3, h4, _⟩ := run_append_own (P := P) w w.heap.size t ty e i z size bytes ht hi hz hsize hby hzs hsz _ 0 xs ⟨hown.1, .inl ⟨rfl, rfl⟩⟩ a m c news hl hnews h1 h63 hbytes (Nat.le_refl _)
      exact ⟨v', w', h2, ownsRow_zero h3, h4, fun g' hg' => .inr (h3.lt g' hg').1⟩
    · have hfull : cap < n + m := by
        rcases Nat.lt_or_ge cap (n + m) with h | h
        · exact h
        · exact absurd ⟨g, cap, cur, rfl, hg, h⟩ hr
      obtain ⟨v', w', h2, h3, h4⟩ := run_append_arg_grows (P := P) w t ty e i z size bytes ht hi hz hsize hby hzs hsz ⟨g, 0, none⟩ n cap xs hown.1 (hown.cells (g := g) rfl) a m c news hl hnews hfull h63 hbytes
      exact ⟨v', w', h2, ownsRow_zero h3, m_grownBy_any h4 _, fun g' hg' => .inr (h3.lt g' hg').1⟩

/-- append of one's own, as one step of a region that draws. -/
theorem step_append_fp {ops : Array Oper} {o : Oper} {a : Act} {w : World} {K : Act → World → Prop} {Q : Exit → Act → World → Prop} {E : Prop}
    (hg : o.guard = none) (s x : Operand) (t : TypeId) (hop : o.op = Op.call { callee := Callee.builtin Builtin.append, args := #[s, x], argTypes := #[t, t] })
    (e : TypeId) (i : TypeInfo) (z : Value) (size bytes : Nat) (ht : P.underlying t = some (.slice e)) (hi : P.info? e = some i) (hz : i.zero = some z)
    (hsize : i.size = size) (hby : i.bytes = bytes) (hzs : z.cells.size = size) (hsz : 0 < size)
    (v : Value) (n : Nat) (xs : List Value) (hs : a.eval s = v) (hown : w.ownsRow 0 e size v n xs)
    (ad : Addr) (m c : Nat) (news : List Value) (hx : a.eval x = .slice (some ad) m c) (hm : 0 < m) (hl : news.length = m * size) (hnews : ∀ j u, news[j]? = some u → w.cell? (ad.add j) = some u) (h1 : ∀ u ∈ news, u.oneCell' = true)
    (h63 : n + m ≤ maxLen) (hbytes : (n + m) * bytes ≤ 140737488355328)
    (hK : ∀ v' w', w'.ownsRow 0 e size v' (n + m) (xs ++ news) → w.grownBy w' v.ownBlock → (∀ g, v'.ownBlock = some g → v.ownBlock = some g ∨ w.heap.size ≤ g) → K (a.put o.dst v') w') :
    if Region.wanted o (yielded ops a.tmps) = true then Oper.wp P o a w K Q else E := by
  have hw : Region.wanted o (yielded ops a.tmps) = true := by simp [Region.wanted, hg]
  rw [if_pos hw]
  obtain ⟨v', w', hr, h2, h3, h4⟩ := run_append_fp (P := P) w t o.type e i z size bytes ht hi hz hsize hby hzs hsz v n xs hown ad m c news hm hl hnews h1 h63 hbytes
  unfold Oper.wp
  simp [execOp, hop, resolve, invoke, builtin, hs, hx, hr, Result.andThen]
  exact hK v' w' h2 h3 h4
theorem wpList_append_fp {w : World} {ops : Array Oper} {rest : List Oper} {o : Oper} {a : Act} {Q : Exit → Act → World → Prop} (hg : o.guard = none) (s x : Operand) (t : TypeId) (hop : o.op = Op.call { callee := Callee.builtin Builtin.append, args := #[s, x], argTypes := #[t, t] })
    (e : TypeId) (i : TypeInfo) (z : Value) (size bytes : Nat) (ht : P.underlying t = some (.slice e)) (hi : P.info? e = some i) (hz : i.zero = some z)
    (hsize : i.size = size) (hby : i.bytes = bytes) (hzs : z.cells.size = size) (hsz : 0 < size)
    (v : Value) (n : Nat) (xs : List Value) (hs : a.eval s = v) (hown : w.ownsRow 0 e size v n xs)
    (ad : Addr) (m c : Nat) (news : List Value) (hx : a.eval x = .slice (some ad) m c) (hm : 0 < m) (hl : news.length = m * size) (hnews : ∀ j u, news[j]? = some u → w.cell? (ad.add j) = some u) (h1 : ∀ u ∈ news, u.oneCell' = true)
    (h63 : n + m ≤ maxLen) (hbytes : (n + m) * bytes ≤ 140737488355328)
    (hK : ∀ v' w', w'.ownsRow 0 e size v' (n + m) (xs ++ news) → w.grownBy w' v.ownBlock → (∀ g, v'.ownBlock = some g → v.ownBlock = some g ∨ w.heap.size ≤ g) → wpList P ops Q rest (a.put o.dst v') w') : wpList P ops Q (o :: rest) a w := by
  refine wpList_plain hg fun K hK' => ?_
  obtain ⟨v', w', hr, h2, h3, h4⟩ := run_append_fp (P := P) w t o.type e i z size bytes ht hi hz hsize hby hzs hsz v n xs hown ad m c news hm hl hnews h1 h63 hbytes
  unfold Oper.wp
  simp [execOp, hop, resolve, invoke, builtin, hs, hx, hr, Result.andThen]
  exact hK' _ _ (hK v' w' h2 h3 h4)
end Go

/-
  Walks: the machine's small methods on registers and buffer.
-/
namespace Go.Proofs.YtdcmdjeooklmjaaDoor
open Go.RowKit Go.PageMap Go.Maps

theorem Tryd.infoParcel : (Tryd.prog.info? 212).map (fun i => (i.zero, i.size, i.bytes)) = some (some (.agg #[.int .u32 0, .int .u16 0]), 2, 8) := by kernel_rfl

section
variable {W W' : World} {L : Lay} {M : Mc}
theorem At.pv_eq (h : At W L M) : ∃ a cap, L.pv = .slice a M.par.length cap ∧ M.par.length ≤ cap ∧ cap ≤ maxLen := by
  rcases h.par.2 with ⟨h1, h2⟩ | ⟨g, cap, cur, h1, _, _, h2, h3, _⟩
  · exact ⟨none, 0, by rw [h1, h2], by omega, by unfold maxLen; omega⟩
  · exact ⟨_, cap, h1, h2, h3⟩
theorem ownsRow_drew {w : World} {B e size n : Nat} {v : Value} {xs : List Value} (h : w.ownsRow B e size v n xs) : w.drew.ownsRow B e size v n xs := h
theorem At.drew (h : At W L M) : At W.drew L M := h.blocks fun _ _ => rfl
theorem Steps.drew (L : Lay) (w : World) : Steps L w L w.drew := ⟨rfl, rfl, rfl, rfl, Nat.le_refl _, fun _ _ _ => rfl, fun _ h => .inl h⟩
theorem Steps.alloc (L : Lay) (w : World) (o : Obj) : Steps L w L (w.alloc o) := Steps.below ((Below.refl _ _).alloc (Nat.le_refl _) o)
theorem At.alloc (h : At W L M) (o : Obj) : At (W.alloc o) L M := h.below ((Below.refl _ _).alloc (Nat.le_refl _) o) (Nat.le_refl _)
/-- The buffer's slice behind an append that may have made a new row. -/
theorem At.grownPar (h : At W L M) (hz : 1 < W.heap.size ∧ 0 < W.heap.size) {v : Value} {p : List (Int × Int)} (hv : W'.ownsRow 0 212 2 v p.length (parCells p)) (hg : W.grownBy W' L.pv.ownBlock)
    (hb : ∀ g, v.ownBlock = some g → L.pv.ownBlock = some g ∨ W.heap.size ≤ g) :
    At (W'.setCell ⟨L.b, 34, none⟩ v) { L with pv := v } { M with par := p } ∧ Steps L W { L with pv := v } (W'.setCell ⟨L.b, 34, none⟩ v) ∧
      W'.cell? ⟨L.b, 34, none⟩ = some L.pv ∧ W'.frozen? ⟨L.b, 34, none⟩ = false := by
  have hsame : ∀ (k : Nat) (T : TypeId) (cur : Array Value) (f : Nat × Nat), W.heap[k]? = some (Obj.cells cur T f) → T ≠ 212 → W'.heap[k]? = W.heap[k]? := by
    intro k T cur f hk hT
    refine hg.block k (Array.getElem?_eq_some_iff.1 hk).1 fun e => ?_
    obtain ⟨c, hc⟩ := ownsRow_blk h.par e.symm
    rw [hk] at hc; injection hc with e; injection e with _ e; exact hT e
  have hb0 : W'.heap[L.b]? = W.heap[L.b]? := by obtain ⟨cur, hc, _⟩ := h.cells; exact hsame _ _ _ _ hc (by decide)
  have hbm : W'.heap[L.bm]? = W.heap[L.bm]? := by
    obtain ⟨D, ⟨es, cl, h1, _⟩, _⟩ := h.mem.map
    refine hg.block _ h.mem.map.lt fun e => ?_
    obtain ⟨c, hc⟩ := ownsRow_blk h.par e.symm
    rw [h1] at hc; cases hc
  have hpv : ∀ k, v.ownBlock = some k → 1 < k ∧ 0 < k := by
    intro k hk
    rcases hb k hk with h1 | h1
    · exact h.high k (.inr (.inr (.inr (.inl h1))))
    · omega
  obtain ⟨n, xs, hn, h1c, hgr⟩ := h.grp
  have hgr' := ownsRow_block (W' := W') hgr fun k hk => by
    obtain ⟨c, hc⟩ := ownsRow_blk hgr hk
    exact hsame _ _ _ _ hc (by decide)
  have hmem := h.mem.blocks (W' := W') hbm (fun k b hp => by
    obtain ⟨_, cur, hc, _⟩ := h.mem.page k b hp
    exact hsame _ _ _ _ hc (by decide))
  -- a machine whose slice is already the new one
  have hA : At (W'.setCell ⟨L.b, 34, none⟩ v) { L with pv := v } { M with par := p } := by
    have hne : ∀ (k : Nat) (T : TypeId) (cur : Array Value) (f : Nat × Nat), W'.heap[k]? = some (Obj.cells cur T f) → T ≠ 152 → k ≠ L.b := by
      rintro k T cur f hk hT rfl
      obtain ⟨c, hc, _⟩ := h.cells
      rw [hb0, hc] at hk; injection hk with e; injection e with _ e; exact hT e.symm
    refine ⟨?_, ?_, ?_, ⟨n, xs, hn, h1c, ?_⟩, ?_⟩
    · refine ((h.cells.block hb0).set 34 v).congr fun j hj => ?_
      by_cases e : j = 34 <;> simp [mval, e]
    · refine hmem.setCell ?_ ?_ _
      · rintro (e : L.bm = L.b)
        obtain ⟨c, hc, _⟩ := h.cells
        obtain ⟨D, ⟨es, cl, h1, _⟩, _⟩ := h.mem.map
        rw [e, hc] at h1; cases h1
      · intro k b hp
        obtain ⟨_, cur, hc, _⟩ := hmem.page k b hp
        exact hne _ _ _ _ hc (by decide)
    · refine ownsRow_block hv fun k hk => heap_setCell_other _ _ _ _ ?_
      obtain ⟨c, hc⟩ := ownsRow_blk hv hk
      exact hne _ _ _ _ hc (by decide)
    · refine ownsRow_block hgr' fun k hk => heap_setCell_other _ _ _ _ ?_
      obtain ⟨c, hc⟩ := ownsRow_blk hgr' hk
      exact hne _ _ _ _ hc (by decide)
    · rintro k (h1 | h1 | h1 | h1 | h1)
      · exact h.high k (.inl h1)
      · exact h.high k (.inr (.inl h1))
      · exact h.high k (.inr (.inr (.inl h1)))
      · exact hpv k h1
      · exact h.high k (.inr (.inr (.inr (.inr h1))))
  refine ⟨hA, ⟨rfl, hg.os, hg.tape, hg.output, by simp [World.setCell]; exact hg.size, ?_, ?_⟩, ?_, ?_⟩
  · intro k hk hf
    rw [heap_setCell_other _ _ _ _ (fun e => hf (.inl e)), hg.block k hk (fun e => hf (.inr (.inr (.inr (.inl e.symm)))))]
  · rintro k (h1 | h1 | h1 | h1 | h1)
    · exact .inl (.inl h1)
    · exact .inl (.inr (.inl h1))
    · exact .inl (.inr (.inr (.inl h1)))
    · rcases hb k h1 with h2 | h2
      · exact .inl (.inr (.inr (.inr (.inl h2))))
      · exact .inr h2
    · exact .inl (.inr (.inr (.inr (.inr h1))))
  · rw [World.cell?_of_block (w := W) hb0]; exact h.parcels
  · rw [World.frozen?_of_block (w := W) hb0]; exact h.free 34

theorem two_cells (w : World) (a b : Value) (T : TypeId) : ∀ j u, ([a, b] : List Value)[j]? = some u → (w.alloc (.cells #[a, b] T)).cell? ((⟨w.heap.size, 0, none⟩ : Addr).add j) = some u := by
  intro j u hj
  match j, hj with
  | 0, hj => simp at hj; subst hj; simp [Addr.add]
  | 1, hj => simp at hj; subst hj; simp [Addr.add]
theorem ownsRow_slice {w : World} {B e size n : Nat} {v : Value} {xs : List Value} (h : w.ownsRow B e size v n xs) : ∃ a c, v = .slice a n c := by
  rcases h.2 with ⟨rfl, rfl⟩ | ⟨g, cap, cur, rfl, _⟩
  · exact ⟨_, _, rfl⟩
  · exact ⟨_, _, rfl⟩
theorem put_facts {x : Int} {cs : Array Value} {v' : Value} (h : At W L M) (hz : 1 < W.heap.size ∧ 0 < W.heap.size)
    (hv : W'.ownsRow 0 212 2 v' (M.par.length + 1) (parCells M.par ++ [.int .u32 M.ahead, .int .u16 x])) (hg : (W.drew.alloc (.cells cs 212)).grownBy W' L.pv.ownBlock)
    (hb : ∀ g, v'.ownBlock = some g → L.pv.ownBlock = some g ∨ (W.drew.alloc (.cells cs 212)).heap.size ≤ g) :
    Hid (At (W'.setCell ⟨L.b, 34, none⟩ v') { L with pv := v' } { M with par := M.par ++ [(M.ahead, x)] }) ∧ Hid (Steps L W { L with pv := v' } (W'.setCell ⟨L.b, 34, none⟩ v')) ∧ W'.cell? ⟨L.b, 34, none⟩ = some L.pv ∧ W'.frozen? ⟨L.b, 34, none⟩ = false ∧
      W'.cell? ⟨L.b, 35, none⟩ = some (.int .u32 M.ahead) ∧ W'.frozen? ⟨L.b, 35, none⟩ = false := by
  have h1 : At (W.drew.alloc (.cells cs 212)) L M := h.drew.alloc _
  have hv' : W'.ownsRow 0 212 2 v' (M.par ++ [(M.ahead, x)]).length (parCells (M.par ++ [(M.ahead, x)])) := by
    rw [List.length_append, parCells_append]; exact hv
  obtain ⟨h2, h3, h4, h5⟩ := h1.grownPar (p := M.par ++ [(M.ahead, x)]) (by simp; omega) hv' hg hb
  refine ⟨h2, ((Steps.drew L W).trans (Steps.alloc L _ _)).trans h3, h4, h5, ?_, ?_⟩
  · have := h2.ahead
    rw [← this]
    exact (World.cell?_setCell_other _ _ _ _ (by simp)).symm
  · have := h2.free 35
    rw [← this]; simp
end

set_option maxRecDepth 100000
theorem m_register_any (w : World) (L : Lay) (M : Mc) (n : Nat) (h : At w L M) (hn : n < 32) :
    Calls Tryd.prog 171 #[.pointer (some ⟨L.b, 0, none⟩), .int .i64 n] w fun e w' => e = .returned (.int .u32 (M.regs n)) ∧ w' = w := by
  have hr := h.reg hn
  clear h
  go_enter Tryd.func171, Tryd.ntmps171
  have hn' : (0 : Int) ≤ n ∧ (n : Int) < 32 := by omega
  go_wp2
  go_ret
  exact ⟨rfl, rfl⟩
/-- Rd becomes x. -/
def Mc.put (M : Mc) (n : Nat) (x : Int) : Mc := if n = 0 then M else { M with regs := fun j => if j = n then x else M.regs j }
theorem m_setRegister_any (w : World) (L : Lay) (M : Mc) (n : Nat) (x : Int) (h : At w L M) (hn : n < 32) :
    Calls Tryd.prog 176 #[.pointer (some ⟨L.b, 0, none⟩), .int .i64 n, .int .u32 x] w fun e w' => e = .returned (.tuple #[]) ∧ At w' L (M.put n x) ∧ Steps L w L w' := by
  have hr := h.reg hn
  have hf := h.free (1 + n)
  by_cases hn0 : n = 0
  · subst hn0
    have HA : Hid (At w L M) := h
    clear h hr hf
    go_enter Tryd.func176, Tryd.ntmps176
    go_wp2
    go_end0
    exact ⟨rfl, HA.out, Steps.refl _ _⟩
  · have HA := h.setReg hn x
    have HB : Hid (At (w.setCell ⟨L.b, 1 + n, none⟩ (.int .u32 x)) L (M.put n x)) := by rw [Hid, Mc.put, if_neg hn0]; exact HA
    clear HA h
    have hn1 : ((n : Int) != 0) = true := by simp; omega
    go_enter Tryd.func176, Tryd.ntmps176
    have hn' : (0 : Int) ≤ n ∧ (n : Int) < 32 := by omega
    go_wp2
    go_end0
    exact ⟨rfl, HB.out, Steps.set _ _ _⟩
theorem m_queued_any (w : World) (L : Lay) (M : Mc) (h : At w L M) :
    Calls Tryd.prog 83 #[.pointer (some ⟨L.b, 34, none⟩)] w fun e w' => e = .returned (.int .i64 M.par.length) ∧ w' = w := by
  have hr := h.parcels
  obtain ⟨a, cap, hpv, _, _⟩ := h.pv_eq
  rw [hpv] at hr
  clear h hpv
  go_enter Tryd.func83, Tryd.ntmps83
  go_wp2
  go_ret
  exact ⟨rfl, rfl⟩
theorem m_hasRoom_any (w : World) (L : Lay) (M : Mc) (k : Nat) (h : At w L M) (hk : k ≤ 100) (hl : M.par.length ≤ 100) :
    Calls Tryd.prog 107 #[.pointer (some ⟨L.b, 34, none⟩), .int .i64 k] w fun e w' => e = .returned (.bool (decide (M.par.length + k ≤ 48))) ∧ w' = w := by
  have hr := h.parcels
  obtain ⟨a, cap, hpv, _, _⟩ := h.pv_eq
  rw [hpv] at hr
  clear h hpv
  go_enter Tryd.func107, Tryd.ntmps107
  go_wp2
  go_ret
  refine ⟨?_, rfl⟩
  show Ending.returned (.bool (decide ((M.par.length : Int) + (k : Int) ≤ 48))) = _
  congr 2
  simp only [decide_eq_decide]
  omega
theorem m_halted_any (w : World) (L : Lay) (M : Mc) (h : At w L M) :
    Calls Tryd.prog 79 #[.pointer (some ⟨L.b, 0, none⟩)] w fun e w' => e = .returned (.bool (M.cause != 0)) ∧ w' = w := by
  have hr := h.cause
  clear h
  go_enter Tryd.func79, Tryd.ntmps79
  go_wp2
  all_goals (go_ret; refine ⟨?_, rfl⟩)
  all_goals first | rfl | simp_all
theorem m_restart_any (w : World) (L : Lay) (M : Mc) (x : Int) (h : At w L M) :
    Calls Tryd.prog 106 #[.pointer (some ⟨L.b, 34, none⟩), .int .u32 x] w fun e w' => e = .returned (.tuple #[]) ∧ ∃ L', At w' L' { M with par := [], ahead := x } ∧ Steps L w L' w' := by
  have hr := h.parcels
  have hr2 := h.ahead
  have hf := h.free 34
  have hf2 := h.free 35
  obtain ⟨a, cap, hpv, hlen, hcap⟩ := h.pv_eq
  have hcap' : cap ≤ 9223372036854775807 := by unfold maxLen at hcap; omega
  have hnew : w.ownsRow 0 212 2 (.slice a 0 cap) 0 (parCells []) := by
    refine ⟨rfl, ?_⟩
    rcases h.par.2 with ⟨h1, h2⟩ | ⟨g, cap2, cur, h1, _, h3, h4, h5, h6, _⟩
    · rw [hpv] at h1; injection h1 with e1 e2 e3; subst e1; subst e3; exact .inl ⟨rfl, rfl⟩
    · rw [hpv] at h1; injection h1 with e1 e2 e3; subst e1; subst e3; exact .inr ⟨g, cap, cur, rfl, Nat.zero_le _, h3, Nat.zero_le _, h5, h6, by simp [parCells]⟩
  have hob : (Value.slice a 0 cap).ownBlock = L.pv.ownBlock := by rw [hpv]; cases a <;> rfl
  have HA : Hid (At ((w.setCell ⟨L.b, 34, none⟩ (.slice a 0 cap)).setCell ⟨L.b, 35, none⟩ (.int .u32 x)) { L with pv := .slice a 0 cap } { M with par := [], ahead := x }) :=
    (h.setPar hnew (fun k hk => h.high k (.inr (.inr (.inr (.inl (hob ▸ hk))))))).setAhead x
  have HS : Hid (Steps L w { L with pv := .slice a 0 cap } ((w.setCell ⟨L.b, 34, none⟩ (.slice a 0 cap)).setCell ⟨L.b, 35, none⟩ (.int .u32 x))) := by
    refine Steps.trans (L' := { L with pv := .slice a 0 cap }) ?_ (Steps.set (L := { L with pv := .slice a 0 cap }) _ 35 _)
    have h0 := Steps.set (L := L) w 34 (.slice a 0 cap)
    refine ⟨rfl, h0.os, h0.tape, h0.output, h0.size, h0.block, ?_⟩
    rintro k (h1 | h1 | h1 | h1 | h1)
    · exact .inl (.inl h1)
    · exact .inl (.inr (.inl h1))
    · exact .inl (.inr (.inr (.inl h1)))
    · exact .inl (.inr (.inr (.inr (.inl (hob ▸ h1)))))
    · exact .inl (.inr (.inr (.inr (.inr h1))))
  rw [hpv] at hr
  clear h hpv hnew hob
  go_enter Tryd.func106, Tryd.ntmps106
  go_wp2
  go_end0
  exact ⟨rfl, _, HA.out, HS.out⟩

set_option maxHeartbeats 1000000 in
theorem m_put_any (w : World) (L : Lay) (M : Mc) (x : Int) (h : At w L M) (hz : 1 < w.heap.size ∧ 0 < w.heap.size) (hl : M.par.length ≤ 100) :
    Calls Tryd.prog 108 #[.pointer (some ⟨L.b, 34, none⟩), .int .u16 x] w fun e w' => e = .returned (.tuple #[]) ∧ ∃ L', At w' L' { M with par := M.par ++ [(M.ahead, x)], ahead := (M.ahead + 2) % 4294967296 } ∧ Steps L w L' w' := by
  obtain ⟨i0, hi, hz0, hz1, hz2⟩ := info_parts Tryd.infoParcel
  have hr := h.parcels
  have hr2 := h.ahead
  have hf := h.free 34
  have hf2 := h.free 35
  have HA : Hid (At w L M) := h
  clear h
  have hlt : L.b < w.heap.size := HA.out.cells.lt
  have HZ : Hid (1 < w.heap.size ∧ 0 < w.heap.size) := hz
  clear hz
  have hl1 : M.par.length + 1 ≤ maxLen := by unfold maxLen; omega
  have s0 : Hid ((w.drew.alloc (.cells #[.int .u32 M.ahead, .int .u16 x] 212)).ownsRow 0 212 2 L.pv M.par.length (parCells M.par)) := HA.out.par.alloc _
  have s1 : Hid (∀ j u, ([.int .u32 M.ahead, .int .u16 x] : List Value)[j]? = some u → (w.drew.alloc (.cells #[.int .u32 M.ahead, .int .u16 x] 212)).cell? ((⟨w.heap.size, 0, none⟩ : Addr).add j) = some u) := by
    exact two_cells w.drew _ _ _
  have s2 : Hid (∀ u ∈ ([.int .u32 M.ahead, .int .u16 x] : List Value), u.oneCell' = true) := by intro u hu; simp at hu; rcases hu with rfl | rfl <;> rfl
  go_enter Tryd.func108, Tryd.ntmps108
  go_wp2_with fail
  go_region_law (refine step_append_fp rfl (.tmp 8) (.tmp 15) 145 rfl 212 i0 (.agg #[.int .u32 0, .int .u16 0]) 2 8 Tryd.underlying145 hi hz0 hz1 hz2 rfl (by decide) L.pv M.par.length (parCells M.par) (by simp [Act.eval, Act.put]) s0.out ⟨w.heap.size, 0, none⟩ 1 1 [.int .u32 M.ahead, .int .u16 x] (by simp [Act.eval, Act.put]) (by decide) rfl s1.out s2.out hl1 (by omega) ?_; intro v' w' hv hg hb; obtain ⟨a', c', rfl⟩ := ownsRow_slice hv; obtain ⟨hA', hS', hc4, hf4, hc5, hf5⟩ := put_facts HA.out HZ.out hv hg hb; clear hv hg hb)
  all_goals go_wp2
  all_goals go_end0
  all_goals exact ⟨rfl, _, (hA'.out.setAhead _), hS'.out.trans (Steps.set (L := { L with pv := _ }) _ _ _)⟩
end Go.Proofs.YtdcmdjeooklmjaaDoor
