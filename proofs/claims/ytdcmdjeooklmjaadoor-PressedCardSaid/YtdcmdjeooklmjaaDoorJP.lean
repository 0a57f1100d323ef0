/-
  S1 S2 S3 in one text.
-/
import Derived.Test.YtdcmdjeooklmjaaDoorGJ
import Derived.Test.YtdcmdjeooklmjaaDoorGB
set_option linter.unusedVariables false
set_option linter.unusedSimpArgs false
/-
  Walks: hartref's field, eight, shorts.
-/
namespace Go.Proofs.YtdcmdjeooklmjaaDoor
open Go.RowKit

set_option maxHeartbeats 400000 in
theorem field_any (c d s t : Int) (w : World) :
    Calls Tryd.prog 71 #[.int .i64 c, .int .i64 d, .int .i64 s, .int .i64 t] w fun e w' => e = .returned (.int .i64 (Hm.fieldS c d s t)) ∧ w' = w := by
  by_cases h1 : c = -1
  · have HF : Hid (Hm.fieldS c d s t = d) := by simp [Hid, Hm.fieldS, h1]
    have h1' : (c == -1) = true := by simpa using h1
    clear h1
    go_enter Tryd.func71, Tryd.ntmps71
    go_wp2
    go_ret
    exact ⟨ret_int HF.out.symm, rfl⟩
  have h1' : (c == -1) = false := by simpa using h1
  by_cases h2 : c = -2
  · have HF : Hid (Hm.fieldS c d s t = s) := by simp [Hid, Hm.fieldS, h2]
    have h2' : (c == -2) = true := by simpa using h2
    clear h2 h1
    go_enter Tryd.func71, Tryd.ntmps71
    go_wp2
    go_ret
    exact ⟨ret_int HF.out.symm, rfl⟩
  have h2' : (c == -2) = false := by simpa using h2
  by_cases h3 : c = -3
  · have HF : Hid (Hm.fieldS c d s t = t) := by simp [Hid, Hm.fieldS, h3]
    have h3' : (c == -3) = true := by simpa using h3
    clear h3 h2 h1
    go_enter Tryd.func71, Tryd.ntmps71
    go_wp2
    go_ret
    exact ⟨ret_int HF.out.symm, rfl⟩
  · have h3' : (c == -3) = false := by simpa using h3
    have HF : Hid (Hm.fieldS c d s t = c) := by simp [Hid, Hm.fieldS, h1, h2, h3]
    clear h3 h2 h1
    go_enter Tryd.func71, Tryd.ntmps71
    go_wp2
    go_ret
    exact ⟨ret_int HF.out.symm, rfl⟩

set_option maxHeartbeats 400000 in
theorem eight_any (s : ByteArray) (b n : Int) (w : World) (hs : s.size ≤ 1000) (n0 : 0 ≤ n) (n1 : n ≤ 1099511627776) :
    Calls Tryd.prog 70 #[.string s, .int .u8 b, .int .i64 n] w fun e w' => e = .returned (.int .i64 (Hm.eightS s.data.toList b n)) ∧ w' = w := by
  by_cases h : Hm.cnt s.data.toList b = 3
  · have HF : Hid (Hm.eightS s.data.toList b n = n + 8) := by simp [Hid, Hm.eightS, h]
    have h' : ((Hm.cnt s.data.toList b : Int) == 3) = true := by simp; omega
    clear h
    go_enter Tryd.func70, Tryd.ntmps70
    go_wp2_with (go_at_call 64; refine (count_any _ _ _ hs).mono ?_; rintro e w' ⟨rfl, rfl⟩)
    go_ret
    exact ⟨ret_int HF.out.symm, rfl⟩
  · have HF : Hid (Hm.eightS s.data.toList b n = n) := by simp [Hid, Hm.eightS, h]
    have h' : ((Hm.cnt s.data.toList b : Int) == 3) = false := by simp; omega
    clear h
    go_enter Tryd.func70, Tryd.ntmps70
    go_wp2_with (go_at_call 64; refine (count_any _ _ _ hs).mono ?_; rintro e w' ⟨rfl, rfl⟩)
    go_ret
    exact ⟨ret_int HF.out.symm, rfl⟩
end Go.Proofs.YtdcmdjeooklmjaaDoor

/-
  Walks: hartref's shorts.
-/
namespace Go.Proofs.YtdcmdjeooklmjaaDoor
open Go.RowKit

/-- A row's cells. -/
def shortC (r : Hm.ShortR) : List Value := [.string r.str, .int .i64 r.op, .int .i64 r.D, .int .i64 r.S, .int .i64 r.T, .bool r.sign, .bool r.some', .int .i64 r.not']
def shortCells : List Value := (List.range 26).flatMap fun k => shortC (Hm.shortR k)

/-- A struct that is built, as the walk's list of operations meets it. -/
theorem wl_build {P : Program} {ops : Array Oper} {rest : List Oper} {Q : Exit → Act → World → Prop} {a : Act} {w : World} {dst : Option Tmp} {ty : TypeId} {pos : String} {after : Array Edge} {t : TypeId} {parts : Array (Nat × Operand)}
    (hf : (P.built t (parts.map fun (i, x) => (i, a.eval x)).toList).isSome = true)
    (h : wpList P ops Q rest (a.put dst (.agg ((P.built t (parts.map fun (i, x) => (i, a.eval x)).toList).getD #[]))) w) : wpList P ops Q (⟨dst, .build t parts, ty, pos, after, none⟩ :: rest) a w :=
  wpList_build rfl t parts rfl hf h
/-- A slice that is built. -/
theorem wl_bslice {P : Program} {ops : Array Oper} {rest : List Oper} {Q : Exit → Act → World → Prop} {a : Act} {w : World} {dst : Option Tmp} {ty : TypeId} {pos : String} {after : Array Edge} {t : TypeId} {len : Nat} {parts : Array (Nat × Operand)} (cells : Array Value) (e : TypeId)
    (hr : (execOp a.eval ⟨dst, .buildSlice t len parts, ty, pos, after, none⟩).run P w = .ok (.value (.slice (some ⟨w.heap.size, 0, none⟩) len len)) (w.alloc (.cells cells e)))
    (h : wpList P ops Q rest (a.put dst (.slice (some ⟨w.heap.size, 0, none⟩) len len)) (w.alloc (.cells cells e))) : wpList P ops Q (⟨dst, .buildSlice t len parts, ty, pos, after, none⟩ :: rest) a w :=
  wpList_plain rfl fun K hK => by
    unfold Oper.wp
    rw [hr]
    exact hK _ _ h

set_option maxRecDepth 100000 in
set_option maxHeartbeats 4000000 in
theorem shorts_any (w : World) :
    Calls Tryd.prog 46 #[] w fun e w' => e = .returned (.slice (some ⟨w.heap.size, 0, none⟩) 26 26) ∧ w'.heap.size = w.heap.size + 1 ∧ Below w.heap.size w w' ∧ ∀ i v, shortCells[i]? = some v → w'.cell? ⟨w.heap.size, i, none⟩ = some v := by
  go_enter Tryd.func46, Tryd.ntmps46
  go_wp2_with (first | (with_reducible refine wl_build (by kernel_rfl) ?_) | (with_reducible refine wl_bslice shortCells.toArray 87 (by kernel_rfl) ?_))
  go_ret
  refine ⟨rfl, by simp, (Below.refl _ _).alloc (Nat.le_refl _) _, fun i v h => ?_⟩
  rw [World.cell?_alloc_new]
  simpa using h

/-- The cells of one row. -/
structure RowAt (w : World) (b k : Nat) : Prop where
  c0 : w.cell? ⟨b, k * 8, none⟩ = some (.string (Hm.shortR k).str)
  c1 : w.cell? ⟨b, k * 8 + 1, none⟩ = some (.int .i64 (Hm.shortR k).op)
  c2 : w.cell? ⟨b, k * 8 + 2, none⟩ = some (.int .i64 (Hm.shortR k).D)
  c3 : w.cell? ⟨b, k * 8 + 3, none⟩ = some (.int .i64 (Hm.shortR k).S)
  c4 : w.cell? ⟨b, k * 8 + 4, none⟩ = some (.int .i64 (Hm.shortR k).T)
  c5 : w.cell? ⟨b, k * 8 + 5, none⟩ = some (.bool (Hm.shortR k).sign)
  c6 : w.cell? ⟨b, k * 8 + 6, none⟩ = some (.bool (Hm.shortR k).some')
  c7 : w.cell? ⟨b, k * 8 + 7, none⟩ = some (.int .i64 (Hm.shortR k).not')
theorem shortCells_row (k : Nat) (hk : k < 26) (j : Nat) (hj : j < 8) : shortCells[k * 8 + j]? = (shortC (Hm.shortR k))[j]? := by
  have : ∀ (k : Fin 26) (j : Fin 8), shortCells[k.val * 8 + j.val]? = (shortC (Hm.shortR k.val))[j.val]? := by
    intro k
    have hk := k.isLt
    intro j
    have hj := j.isLt
    have h1 : shortCells = (List.range 26).flatMap fun k => shortC (Hm.shortR k) := rfl
    have hlen : ∀ r, (shortC r).length = 8 := fun _ => rfl
    have gen : ∀ (n m : Nat) (q i : Nat), q < n → i < 8 → ((List.range' m n).flatMap fun k => shortC (Hm.shortR k))[q * 8 + i]? = (shortC (Hm.shortR (m + q)))[i]? := by
      intro n
      induction n with
      | zero => intro m q i hq; omega
      | succ n ih =>
        intro m q i hq hi
        rw [List.range'_succ, List.flatMap_cons]
        cases q with
        | zero =>
          rw [List.getElem?_append_left (by rw [hlen]; omega)]
          simp
        | succ q =>
          rw [List.getElem?_append_right (by rw [hlen]; omega), hlen, show (q + 1) * 8 + i - 8 = q * 8 + i from by omega, ih (m + 1) q i (by omega) hi, show m + 1 + q = m + (q + 1) from by omega]
    have := gen 26 0 k.val j.val hk hj
    rw [h1, List.range_eq_range']
    simpa using this
  exact this ⟨k, hk⟩ ⟨j, hj⟩
theorem rowAt_of {w : World} {b : Nat} (h : ∀ i v, shortCells[i]? = some v → w.cell? ⟨b, i, none⟩ = some v) {k : Nat} (hk : k < 26) : RowAt w b k where
  c0 := h _ _ (shortCells_row k hk 0 (by decide))
  c1 := h _ _ (shortCells_row k hk 1 (by decide))
  c2 := h _ _ (shortCells_row k hk 2 (by decide))
  c3 := h _ _ (shortCells_row k hk 3 (by decide))
  c4 := h _ _ (shortCells_row k hk 4 (by decide))
  c5 := h _ _ (shortCells_row k hk 5 (by decide))
  c6 := h _ _ (shortCells_row k hk 6 (by decide))
  c7 := h _ _ (shortCells_row k hk 7 (by decide))
theorem RowAt.below {B : Nat} {w w' : World} {b k : Nat} (h : RowAt w b k) (hb : Below B w w') (hB : b < B) : RowAt w' b k where
  c0 := by rw [bcell hb _ _ hB]; exact h.c0
  c1 := by rw [bcell hb _ _ hB]; exact h.c1
  c2 := by rw [bcell hb _ _ hB]; exact h.c2
  c3 := by rw [bcell hb _ _ hB]; exact h.c3
  c4 := by rw [bcell hb _ _ hB]; exact h.c4
  c5 := by rw [bcell hb _ _ hB]; exact h.c5
  c6 := by rw [bcell hb _ _ hB]; exact h.c6
  c7 := by rw [bcell hb _ _ hB]; exact h.c7
end Go.Proofs.YtdcmdjeooklmjaaDoor

/-
  Walks: hartref's Short.inst.
-/
namespace Go.Proofs.YtdcmdjeooklmjaaDoor
open Go.RowKit

theorem rd_mul (x : Int) : ∀ {l : List UInt8} {f g : Hm.Flds}, 0 ≤ f.d → 0 ≤ f.r → 0 ≤ f.t → Hm.rd x l f = some g →
    (0 ≤ g.d ∧ g.d + 1 ≤ (f.d + 1) * Hm.pw l.length) ∧ (0 ≤ g.r ∧ g.r + 1 ≤ (f.r + 1) * Hm.pw l.length) ∧ (0 ≤ g.t ∧ g.t + 1 ≤ (f.t + 1) * Hm.pw l.length)
  | [], f, g, hd, hr, ht, h => by
    cases h
    have e : Hm.pw 0 = 1 := rfl
    simp only [List.length_nil, e, Int.mul_one]
    omega
  | c :: l, f, g, hd, hr, ht, h => by
    unfold Hm.rd at h
    split at h
    · cases h
    · have hb := Hm.bt_01 x l.length
      generalize hq : Hm.bt x l.length = b at *
      have st : (0 ≤ (Hm.rstep f c b).d ∧ (Hm.rstep f c b).d + 1 ≤ 2 * (f.d + 1)) ∧ (0 ≤ (Hm.rstep f c b).r ∧ (Hm.rstep f c b).r + 1 ≤ 2 * (f.r + 1)) ∧ (0 ≤ (Hm.rstep f c b).t ∧ (Hm.rstep f c b).t + 1 ≤ 2 * (f.t + 1)) := by
        unfold Hm.rstep
        repeat' split
        all_goals first | omega | (simp only; omega)
      have ih := rd_mul x st.1.1 st.2.1.1 st.2.2.1 h
      have hp := Hm.pw_pos l.length
      have m : ∀ a b : Int, a + 1 ≤ 2 * (b + 1) → (a + 1) * Hm.pw l.length ≤ (b + 1) * Hm.pw (l.length + 1) := by
        intro a b hab
        have := Int.mul_le_mul_of_nonneg_right hab (by omega : 0 ≤ Hm.pw l.length)
        rw [Hm.pw_succ, ← Int.mul_assoc, Int.mul_comm (b + 1) 2]
        exact this
      have m1 := m _ _ st.1.2
      have m2 := m _ _ st.2.1.2
      have m3 := m _ _ st.2.2.2
      rw [List.length_cons]
      omega
structure FldsBd (f : Hm.Flds) : Prop where
  d : 0 ≤ f.d ∧ f.d ≤ 65535
  r : 0 ≤ f.r ∧ f.r ≤ 65535
  t : 0 ≤ f.t ∧ f.t ≤ 65535
  i : 0 ≤ f.imm ∧ f.imm ≤ 16777216
theorem rd_bds {x : Int} {l : List UInt8} {f : Hm.Flds} (hl : l.length = 16) (h : Hm.rd x l ⟨0, 0, 0, 0⟩ = some f) : FldsBd f := by
  have h1 := rd_mul x (f := ⟨0, 0, 0, 0⟩) (by decide) (by decide) (by decide) h
  have h2 := Hm.rd_bd h
  have e : Hm.pw 16 = 65536 := by decide
  rw [hl, e] at h1
  rw [hl] at h2
  simp only at h1 h2
  exact ⟨by omega, by omega, by omega, by omega⟩

def sinstVal (op : Int) : Option Hm.Flds → Value
  | none => .tuple #[.agg #[.int .i64 0, .int .i64 0, .int .i64 0, .int .i64 0, .int .i64 0], .bool false]
  | some f => .tuple #[.agg #[.int .i64 op, .int .i64 f.d, .int .i64 f.r, .int .i64 f.t, .int .i64 f.imm], .bool true]
def rowVal (r : Hm.ShortR) : Value := .agg #[.string r.str, .int .i64 r.op, .int .i64 r.D, .int .i64 r.S, .int .i64 r.T, .bool r.sign, .bool r.some', .int .i64 r.not']
def SInst (r : Hm.ShortR) (p : Int) (w : World) : Prop :=
  Calls Tryd.prog 47 #[rowVal r, .int .i64 p] w fun e w' => e = .returned (sinstVal r.op (Hm.instS r p)) ∧ Below w.heap.size w w'
theorem ret_sinst {op : Int} {a b : Option Hm.Flds} (h : a = b) : Ending.returned (sinstVal op a) = .returned (sinstVal op b) := by rw [h]
theorem below_two (w : World) (a b : Obj) : Below w.heap.size w ((w.alloc a).alloc b) := ((Below.refl _ _).alloc (Nat.le_refl _) _).alloc (by simp) _
theorem instS_none {r : Hm.ShortR} {p : Int} (h : Hm.rd p r.bits ⟨0, 0, 0, 0⟩ = none) : Hm.instS r p = none := by unfold Hm.instS; rw [h]
theorem instS_bad {r : Hm.ShortR} {p : Int} {f : Hm.Flds} (h : Hm.rd p r.bits ⟨0, 0, 0, 0⟩ = some f) (hb : Hm.badS r f = true) : Hm.instS r p = none := by unfold Hm.instS; rw [h]; simp [hb]
theorem instS_good {r : Hm.ShortR} {p : Int} {f : Hm.Flds} (h : Hm.rd p r.bits ⟨0, 0, 0, 0⟩ = some f) (hb : Hm.badS r f = false) : Hm.instS r p = some (Hm.makeS r f) := by unfold Hm.instS; rw [h]; simp [hb]

set_option maxRecDepth 100000 in
set_option maxHeartbeats 1000000 in
theorem sinst_none (r : Hm.ShortR) (p : Int) (w : World) (hs : r.bits.length = 16) (p0 : 0 ≤ p) (p1 : p < 65536) (hr : Hm.rd p r.bits ⟨0, 0, 0, 0⟩ = none) : SInst r p w := by
  have HI : Hid (Hm.instS r p = none) := instS_none hr
  have hsz : r.str.size ≤ 32 := by show r.bits.toArray.size ≤ 32; simp [hs]
  have HR : Hid (rdVal (Hm.rd p r.str.data.toList ⟨0, 0, 0, 0⟩) = .tuple #[.int .i64 0, .int .i64 0, .int .i64 0, .int .i64 0, .bool false]) := by
    show rdVal (Hm.rd p r.bits ⟨0, 0, 0, 0⟩) = _
    rw [hr]; rfl
  clear hr hs
  unfold SInst rowVal
  go_enter Tryd.func47, Tryd.ntmps47
  go_wp2_with (go_at_call 41; refine (read_any _ _ _ hsz p0 (by omega)).mono ?_; rintro e w' ⟨rfl, rfl⟩; rw [HR.out])
  exact bodyPost_ret (v := sinstVal r.op none) (by simp [results, Tryd.results47, go_sem, sinstVal]) rfl ⟨ret_sinst HI.out.symm, below_two w _ _⟩

set_option maxRecDepth 100000 in
set_option maxHeartbeats 1000000 in
theorem sbad_ft0 (bits : List UInt8) (op D S T p : Int) (w : World) (hs : bits.length = 16) (p0 : 0 ≤ p) (p1 : p < 65536) (f : Hm.Flds) (hr : Hm.rd p bits ⟨0, 0, 0, 0⟩ = some f) (hb : f.imm = 0) : SInst ⟨bits, op, D, S, T, false, true, 0⟩ p w := by
  have HI : Hid (Hm.instS ⟨bits, op, D, S, T, false, true, 0⟩ p = none) := instS_bad (r := ⟨bits, op, D, S, T, false, true, 0⟩) hr (by simp [Hm.badS, hb])
  have HR : Hid (rdVal (Hm.rd p (Hm.ShortR.str ⟨bits, op, D, S, T, false, true, 0⟩).data.toList ⟨0, 0, 0, 0⟩) = .tuple #[.int .i64 f.d, .int .i64 f.r, .int .i64 f.t, .int .i64 f.imm, .bool true]) := by
    show rdVal (Hm.rd p bits ⟨0, 0, 0, 0⟩) = _
    rw [hr]; rfl
  have hsz : (Hm.ShortR.str ⟨bits, op, D, S, T, false, true, 0⟩).size ≤ 32 := by show bits.toArray.size ≤ 32; simp [hs]
  have hsz' : (Hm.ShortR.str ⟨bits, op, D, S, T, false, true, 0⟩).size ≤ 1000 := Nat.le_trans hsz (by decide)
  have hbb : (f.imm == 0) = true := by simpa using hb
  clear hr hs hb
  unfold SInst rowVal
  go_enter Tryd.func47, Tryd.ntmps47
  go_wp2_with (go_at_call 41; refine (read_any _ _ _ hsz p0 (by omega)).mono ?_; rintro e w' ⟨rfl, rfl⟩; rw [HR.out])
  exact bodyPost_ret (v := sinstVal op none) (by simp [results, Tryd.results47, go_sem, sinstVal]) rfl ⟨ret_sinst HI.out.symm, below_two w _ _⟩

set_option maxRecDepth 100000 in
set_option maxHeartbeats 1000000 in
theorem sbad_tt0 (bits : List UInt8) (op D S T p : Int) (w : World) (hs : bits.length = 16) (p0 : 0 ≤ p) (p1 : p < 65536) (f : Hm.Flds) (hr : Hm.rd p bits ⟨0, 0, 0, 0⟩ = some f) (hb : f.imm = 0) : SInst ⟨bits, op, D, S, T, true, true, 0⟩ p w := by
  have HI : Hid (Hm.instS ⟨bits, op, D, S, T, true, true, 0⟩ p = none) := instS_bad (r := ⟨bits, op, D, S, T, true, true, 0⟩) hr (by simp [Hm.badS, hb])
  have HR : Hid (rdVal (Hm.rd p (Hm.ShortR.str ⟨bits, op, D, S, T, true, true, 0⟩).data.toList ⟨0, 0, 0, 0⟩) = .tuple #[.int .i64 f.d, .int .i64 f.r, .int .i64 f.t, .int .i64 f.imm, .bool true]) := by
    show rdVal (Hm.rd p bits ⟨0, 0, 0, 0⟩) = _
    rw [hr]; rfl
  have hsz : (Hm.ShortR.str ⟨bits, op, D, S, T, true, true, 0⟩).size ≤ 32 := by show bits.toArray.size ≤ 32; simp [hs]
  have hsz' : (Hm.ShortR.str ⟨bits, op, D, S, T, true, true, 0⟩).size ≤ 1000 := Nat.le_trans hsz (by decide)
  have hbb : (f.imm == 0) = true := by simpa using hb
  clear hr hs hb
  unfold SInst rowVal
  go_enter Tryd.func47, Tryd.ntmps47
  go_wp2_with (go_at_call 41; refine (read_any _ _ _ hsz p0 (by omega)).mono ?_; rintro e w' ⟨rfl, rfl⟩; rw [HR.out])
  exact bodyPost_ret (v := sinstVal op none) (by simp [results, Tryd.results47, go_sem, sinstVal]) rfl ⟨ret_sinst HI.out.symm, below_two w _ _⟩

set_option maxRecDepth 100000 in
set_option maxHeartbeats 1000000 in
theorem sbad_tt4a (bits : List UInt8) (op D S T p : Int) (w : World) (hs : bits.length = 16) (p0 : 0 ≤ p) (p1 : p < 65536) (f : Hm.Flds) (hr : Hm.rd p bits ⟨0, 0, 0, 0⟩ = some f) (hb : f.imm = 0) : SInst ⟨bits, op, D, S, T, true, true, 4⟩ p w := by
  have HI : Hid (Hm.instS ⟨bits, op, D, S, T, true, true, 4⟩ p = none) := instS_bad (r := ⟨bits, op, D, S, T, true, true, 4⟩) hr (by simp [Hm.badS, hb])
  have HR : Hid (rdVal (Hm.rd p (Hm.ShortR.str ⟨bits, op, D, S, T, true, true, 4⟩).data.toList ⟨0, 0, 0, 0⟩) = .tuple #[.int .i64 f.d, .int .i64 f.r, .int .i64 f.t, .int .i64 f.imm, .bool true]) := by
    show rdVal (Hm.rd p bits ⟨0, 0, 0, 0⟩) = _
    rw [hr]; rfl
  have hsz : (Hm.ShortR.str ⟨bits, op, D, S, T, true, true, 4⟩).size ≤ 32 := by show bits.toArray.size ≤ 32; simp [hs]
  have hsz' : (Hm.ShortR.str ⟨bits, op, D, S, T, true, true, 4⟩).size ≤ 1000 := Nat.le_trans hsz (by decide)
  have hbb : (f.imm == 0) = true := by simpa using hb
  clear hr hs hb
  unfold SInst rowVal
  go_enter Tryd.func47, Tryd.ntmps47
  go_wp2_with (go_at_call 41; refine (read_any _ _ _ hsz p0 (by omega)).mono ?_; rintro e w' ⟨rfl, rfl⟩; rw [HR.out])
  exact bodyPost_ret (v := sinstVal op none) (by simp [results, Tryd.results47, go_sem, sinstVal]) rfl ⟨ret_sinst HI.out.symm, below_two w _ _⟩

set_option maxRecDepth 100000 in
set_option maxHeartbeats 1000000 in
theorem sbad_tt4b (bits : List UInt8) (op D S T p : Int) (w : World) (hs : bits.length = 16) (p0 : 0 ≤ p) (p1 : p < 65536) (f : Hm.Flds) (hr : Hm.rd p bits ⟨0, 0, 0, 0⟩ = some f) (hb : ¬ f.imm = 0 ∧ f.d = 2) : SInst ⟨bits, op, D, S, T, true, true, 4⟩ p w := by
  have HI : Hid (Hm.instS ⟨bits, op, D, S, T, true, true, 4⟩ p = none) := instS_bad (r := ⟨bits, op, D, S, T, true, true, 4⟩) hr (by simp [Hm.badS, hb])
  have HR : Hid (rdVal (Hm.rd p (Hm.ShortR.str ⟨bits, op, D, S, T, true, true, 4⟩).data.toList ⟨0, 0, 0, 0⟩) = .tuple #[.int .i64 f.d, .int .i64 f.r, .int .i64 f.t, .int .i64 f.imm, .bool true]) := by
    show rdVal (Hm.rd p bits ⟨0, 0, 0, 0⟩) = _
    rw [hr]; rfl
  have hsz : (Hm.ShortR.str ⟨bits, op, D, S, T, true, true, 4⟩).size ≤ 32 := by show bits.toArray.size ≤ 32; simp [hs]
  have hsz' : (Hm.ShortR.str ⟨bits, op, D, S, T, true, true, 4⟩).size ≤ 1000 := Nat.le_trans hsz (by decide)
  have hbb : (f.imm == 0) = false := by simpa using hb.1
  have hbc : (f.d == 2) = true := by simpa using hb.2
  clear hr hs hb
  unfold SInst rowVal
  go_enter Tryd.func47, Tryd.ntmps47
  go_wp2_with (go_at_call 41; refine (read_any _ _ _ hsz p0 (by omega)).mono ?_; rintro e w' ⟨rfl, rfl⟩; rw [HR.out])
  exact bodyPost_ret (v := sinstVal op none) (by simp [results, Tryd.results47, go_sem, sinstVal]) rfl ⟨ret_sinst HI.out.symm, below_two w _ _⟩

set_option maxRecDepth 100000 in
set_option maxHeartbeats 1000000 in
theorem sbad_ff1 (bits : List UInt8) (op D S T p : Int) (w : World) (hs : bits.length = 16) (p0 : 0 ≤ p) (p1 : p < 65536) (f : Hm.Flds) (hr : Hm.rd p bits ⟨0, 0, 0, 0⟩ = some f) (hb : f.d = 0) : SInst ⟨bits, op, D, S, T, false, false, 1⟩ p w := by
  have HI : Hid (Hm.instS ⟨bits, op, D, S, T, false, false, 1⟩ p = none) := instS_bad (r := ⟨bits, op, D, S, T, false, false, 1⟩) hr (by simp [Hm.badS, hb])
  have HR : Hid (rdVal (Hm.rd p (Hm.ShortR.str ⟨bits, op, D, S, T, false, false, 1⟩).data.toList ⟨0, 0, 0, 0⟩) = .tuple #[.int .i64 f.d, .int .i64 f.r, .int .i64 f.t, .int .i64 f.imm, .bool true]) := by
    show rdVal (Hm.rd p bits ⟨0, 0, 0, 0⟩) = _
    rw [hr]; rfl
  have hsz : (Hm.ShortR.str ⟨bits, op, D, S, T, false, false, 1⟩).size ≤ 32 := by show bits.toArray.size ≤ 32; simp [hs]
  have hsz' : (Hm.ShortR.str ⟨bits, op, D, S, T, false, false, 1⟩).size ≤ 1000 := Nat.le_trans hsz (by decide)
  have hbb : (f.d == 0) = true := by simpa using hb
  clear hr hs hb
  unfold SInst rowVal
  go_enter Tryd.func47, Tryd.ntmps47
  go_wp2_with (go_at_call 41; refine (read_any _ _ _ hsz p0 (by omega)).mono ?_; rintro e w' ⟨rfl, rfl⟩; rw [HR.out])
  exact bodyPost_ret (v := sinstVal op none) (by simp [results, Tryd.results47, go_sem, sinstVal]) rfl ⟨ret_sinst HI.out.symm, below_two w _ _⟩

set_option maxRecDepth 100000 in
set_option maxHeartbeats 1000000 in
theorem sbad_ff2 (bits : List UInt8) (op D S T p : Int) (w : World) (hs : bits.length = 16) (p0 : 0 ≤ p) (p1 : p < 65536) (f : Hm.Flds) (hr : Hm.rd p bits ⟨0, 0, 0, 0⟩ = some f) (hb : f.r = 0) : SInst ⟨bits, op, D, S, T, false, false, 2⟩ p w := by
  have HI : Hid (Hm.instS ⟨bits, op, D, S, T, false, false, 2⟩ p = none) := instS_bad (r := ⟨bits, op, D, S, T, false, false, 2⟩) hr (by simp [Hm.badS, hb])
  have HR : Hid (rdVal (Hm.rd p (Hm.ShortR.str ⟨bits, op, D, S, T, false, false, 2⟩).data.toList ⟨0, 0, 0, 0⟩) = .tuple #[.int .i64 f.d, .int .i64 f.r, .int .i64 f.t, .int .i64 f.imm, .bool true]) := by
    show rdVal (Hm.rd p bits ⟨0, 0, 0, 0⟩) = _
    rw [hr]; rfl
  have hsz : (Hm.ShortR.str ⟨bits, op, D, S, T, false, false, 2⟩).size ≤ 32 := by show bits.toArray.size ≤ 32; simp [hs]
  have hsz' : (Hm.ShortR.str ⟨bits, op, D, S, T, false, false, 2⟩).size ≤ 1000 := Nat.le_trans hsz (by decide)
  have hbb : (f.r == 0) = true := by simpa using hb
  clear hr hs hb
  unfold SInst rowVal
  go_enter Tryd.func47, Tryd.ntmps47
  go_wp2_with (go_at_call 41; refine (read_any _ _ _ hsz p0 (by omega)).mono ?_; rintro e w' ⟨rfl, rfl⟩; rw [HR.out])
  exact bodyPost_ret (v := sinstVal op none) (by simp [results, Tryd.results47, go_sem, sinstVal]) rfl ⟨ret_sinst HI.out.symm, below_two w _ _⟩

set_option maxRecDepth 100000 in
set_option maxHeartbeats 1000000 in
theorem sbad_ff3 (bits : List UInt8) (op D S T p : Int) (w : World) (hs : bits.length = 16) (p0 : 0 ≤ p) (p1 : p < 65536) (f : Hm.Flds) (hr : Hm.rd p bits ⟨0, 0, 0, 0⟩ = some f) (hb : f.t = 0) : SInst ⟨bits, op, D, S, T, false, false, 3⟩ p w := by
  have HI : Hid (Hm.instS ⟨bits, op, D, S, T, false, false, 3⟩ p = none) := instS_bad (r := ⟨bits, op, D, S, T, false, false, 3⟩) hr (by simp [Hm.badS, hb])
  have HR : Hid (rdVal (Hm.rd p (Hm.ShortR.str ⟨bits, op, D, S, T, false, false, 3⟩).data.toList ⟨0, 0, 0, 0⟩) = .tuple #[.int .i64 f.d, .int .i64 f.r, .int .i64 f.t, .int .i64 f.imm, .bool true]) := by
    show rdVal (Hm.rd p bits ⟨0, 0, 0, 0⟩) = _
    rw [hr]; rfl
  have hsz : (Hm.ShortR.str ⟨bits, op, D, S, T, false, false, 3⟩).size ≤ 32 := by show bits.toArray.size ≤ 32; simp [hs]
  have hsz' : (Hm.ShortR.str ⟨bits, op, D, S, T, false, false, 3⟩).size ≤ 1000 := Nat.le_trans hsz (by decide)
  have hbb : (f.t == 0) = true := by simpa using hb
  clear hr hs hb
  unfold SInst rowVal
  go_enter Tryd.func47, Tryd.ntmps47
  go_wp2_with (go_at_call 41; refine (read_any _ _ _ hsz p0 (by omega)).mono ?_; rintro e w' ⟨rfl, rfl⟩; rw [HR.out])
  exact bodyPost_ret (v := sinstVal op none) (by simp [results, Tryd.results47, go_sem, sinstVal]) rfl ⟨ret_sinst HI.out.symm, below_two w _ _⟩

end Go.Proofs.YtdcmdjeooklmjaaDoor
