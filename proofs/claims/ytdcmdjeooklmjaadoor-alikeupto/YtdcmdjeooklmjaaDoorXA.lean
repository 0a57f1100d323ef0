/-
  BG BH in one text.
-/
import Derived.Test.YtdcmdjeooklmjaaDoorGP
import Derived.Test.YtdcmdjeooklmjaaDoorGY
import Derived.Test.YtdcmdjeooklmjaaDoorWG
import Derived.Test.YtdcmdjeooklmjaaDoorWJ
import Derived.Test.YtdcmdjeooklmjaaDoorWA
import Derived.Deep.LoopGhost
import Derived.Deep.CutRange
set_option linter.unusedVariables false
set_option linter.unusedSimpArgs false
/-
  Walks: hartkeep's pick of a great number, line.
-/
namespace Go.Proofs.YtdcmdjeooklmjaaDoor
open Go.RowKit Go.PageMap Go.Maps
set_option maxRecDepth 100000
set_option maxHeartbeats 400000 in
theorem pick_great (c n : Int) (w : World) (hc : I64 c) (hn : 1 ≤ n) (hn1 : n ≤ 2147483648) :
    Calls Tryd.prog 44 #[.int .i64 c, .int .i64 n] w fun e w' => e = .returned (.int .i64 (Hm.pickI c n)) ∧ w' = w := by
  obtain ⟨c0, c1⟩ := hc
  have hne : (n == 0) = false := by simp; omega
  by_cases h : c < 0
  · have HK : Hid (Hm.pickI c n = -(c + 1).tmod n) := by
      show _ = _
      rw [← Int.neg_tmod, Int.tmod_eq_emod_of_nonneg (by omega)]
      simp [Hm.pickI, h]
    go_enter Tryd.func44, Tryd.ntmps44
    go_wp2
    go_ret
    exact ⟨ret_int HK.out.symm, rfl⟩
  · have HK : Hid (Hm.pickI c n = c % n) := by simp [Hid, Hm.pickI, h]
    go_enter Tryd.func44, Tryd.ntmps44
    go_wp2
    go_ret
    exact ⟨ret_int HK.out.symm, rfl⟩
def lineI (n : Int) : Int := if Hm.pickI n 5 = 0 then 4 else if Hm.pickI n 5 = 1 then 8 else if Hm.pickI n 5 = 2 then 16 else if Hm.pickI n 5 = 3 then 32 else 64
theorem lineI_ok (n : Int) : LineOk (lineI n) := by
  unfold lineI LineOk
  repeat' split
  all_goals simp
set_option maxHeartbeats 1000000 in
theorem line_any (n : Int) (w : World) (hn : I64 n) :
    Calls Tryd.prog 26 #[.int .i64 n] w fun e w' => e = .returned (.int .i64 (lineI n)) ∧ Below w.heap.size w w' := by
  have HN : Hid (I64 n) := hn
  obtain ⟨b0, b1⟩ := Hm.pick_bd n 5 (by decide)
  have HP : ∀ z, Hm.pickI n 5 = z → Hid (Hm.pickI n 5 = z ∧ lineI n = (if z = 0 then 4 else if z = 1 then 8 else if z = 2 then 16 else if z = 3 then 32 else 64)) := fun z hz => ⟨hz, by unfold lineI; rw [hz]⟩
  have h5 : Hm.pickI n 5 = 0 ∨ Hm.pickI n 5 = 1 ∨ Hm.pickI n 5 = 2 ∨ Hm.pickI n 5 = 3 ∨ Hm.pickI n 5 = 4 := by omega
  clear hn b0 b1
  rcases h5 with h | h | h | h | h
  all_goals (
    have HZ := HP _ h
    clear HP h
    go_enter Tryd.func26, Tryd.ntmps26
    go_wp2_with (go_at_call 44; refine (pick_any n 5 _ HN.out (by decide) (by decide)).mono ?_; rintro e w1 ⟨rfl, rfl⟩; rw [HZ.out.1])
    go_ret
    refine ⟨ret_int ?_, (Below.refl _ _).alloc (Nat.le_refl _) _⟩
    rw [HZ.out.2]; rfl)
end Go.Proofs.YtdcmdjeooklmjaaDoor

/-
  What begun is handed, plainly; the machine that it makes.
-/
namespace Go.Proofs.YtdcmdjeooklmjaaDoor
open Go.RowKit Go.PageMap Go.Maps
set_option maxRecDepth 100000
theorem wrL_mod (l : List UInt8) : ∀ (mem : Int → Int) (a : Int), 0 ≤ a → a < 4294967296 → l.length ≤ 4294967296 → ∀ x : Int, 0 ≤ x → x < 4294967296 → wrL mem a l x = if (x - a) % 4294967296 < l.length then ((l.getD ((x - a) % 4294967296).toNat 0).toNat : Int) else mem x := by
  induction l with
  | nil => intro mem a _ _ _ x _ _; rw [if_neg (by simp only [List.length_nil]; omega)]; rfl
  | cons b l ih =>
    intro mem a a0 a1 hl x x0 x1
    simp only [List.length_cons] at hl
    rw [wrL, ih _ _ (by omega) (by omega) (by omega) x x0 x1]
    simp only [List.length_cons]
    by_cases e : x = a
    · subst e
      rw [if_neg (by omega), if_pos rfl, if_pos (by omega)]
      simp
    · have hd : (x - (a + 1) % 4294967296) % 4294967296 = (x - a) % 4294967296 - 1 := by omega
      have hp : 0 < (x - a) % 4294967296 := by omega
      rw [hd, if_neg e]
      by_cases c : (x - a) % 4294967296 - 1 < (l.length : Int)
      · rw [if_pos c, if_pos (by push_cast; omega)]
        obtain ⟨k, hk⟩ : ∃ k : Nat, ((x - a) % 4294967296).toNat = k + 1 := ⟨((x - a) % 4294967296).toNat - 1, by omega⟩
        rw [hk, show ((x - a) % 4294967296 - 1).toNat = k by omega, List.getD_cons_succ]
      · rw [if_neg c, if_neg (by push_cast; omega)]
structure Raw5 where
  op : Int
  rd : Int
  rs1 : Int
  rs2 : Int
  imm : Int
def Raw5.vs (r : Raw5) : List Value := [.int .i64 r.op, .int .i64 r.rd, .int .i64 r.rs1, .int .i64 r.rs2, .int .i64 r.imm]
structure Raw5.Ok (r : Raw5) : Prop where
  op : I64 r.op
  rd : I64 r.rd
  rs1 : I64 r.rs1
  rs2 : I64 r.rs2
  imm : I64 r.imm
structure Su where
  line : Int
  pc : Int
  fuse : Bool
  rs : List Int
  ps : List Raw5
  any : List UInt8
def suCells (S : Su) (rv pv : Value) : Array Value := #[.int .i64 S.line, .int .i64 S.pc, .bool S.fuse, rv, pv, .string ⟨S.any.toArray⟩]
/-- A slice of uint32 that came in. -/
structure SlU (W : World) (v : Value) (rs : List Int) : Prop where
  bd : ∀ i : Nat, 0 ≤ rs.getD i 0 ∧ rs.getD i 0 < 4294967296
  len : rs.length ≤ 9223372036854775807
  at' : ∃ (a : Option Addr) (cap : Nat), v = .slice a rs.length cap ∧ (rs.length = 0 ∨ ∃ g o, a = some ⟨g, o, none⟩ ∧ g < W.heap.size ∧ ∀ i : Nat, i < rs.length → W.cell? ⟨g, o + i, none⟩ = some (.int .u32 (rs.getD i 0)))
/-- A slice of Raw that came in. -/
structure SlR (W : World) (v : Value) (ps : List Raw5) : Prop where
  bd : ∀ r ∈ ps, r.Ok
  len : ps.length ≤ 9223372036854775807
  at' : ∃ (a : Option Addr) (cap : Nat), v = .slice a ps.length cap ∧ (ps.length = 0 ∨ ∃ g o, a = some ⟨g, o, none⟩ ∧ g < W.heap.size ∧ ∀ (i : Nat) (r : Raw5), ps[i]? = some r → W.rangeAt g (o + i * 5) r.vs)
theorem below_cell {W W' : World} (hb : Below W.heap.size W W') {g i : Nat} (hg : g < W.heap.size) : W'.cell? ⟨g, i, none⟩ = W.cell? ⟨g, i, none⟩ := World.cell?_of_block (w := W) (a := ⟨g, i, none⟩) (hb.block g hg)
theorem SlU.go {W W' : World} {v : Value} {rs : List Int} (h : SlU W v rs) (hb : Below W.heap.size W W') : SlU W' v rs := by
  obtain ⟨a, cap, e, hc⟩ := h.at'
  refine ⟨h.bd, h.len, a, cap, e, hc.imp id ?_⟩
  rintro ⟨g, o, rfl, hg, hx⟩
  exact ⟨g, o, rfl, Nat.lt_of_lt_of_le hg hb.size, fun i hi => by rw [below_cell hb hg]; exact hx i hi⟩
theorem SlR.go {W W' : World} {v : Value} {ps : List Raw5} (h : SlR W v ps) (hb : Below W.heap.size W W') : SlR W' v ps := by
  obtain ⟨a, cap, e, hc⟩ := h.at'
  refine ⟨h.bd, h.len, a, cap, e, hc.imp id ?_⟩
  rintro ⟨g, o, rfl, hg, hx⟩
  exact ⟨g, o, rfl, Nat.lt_of_lt_of_le hg hb.size, fun i r hr j u hj => by rw [below_cell hb hg]; exact hx i r hr j u hj⟩
structure SuAt (W : World) (S : Su) (rv pv : Value) : Prop where
  line : I64 S.line
  pc : I64 S.pc
  rs : SlU W rv S.rs
  ps : SlR W pv S.ps
  any : S.any.length ≤ 1048576
theorem SuAt.go {W W' : World} {S : Su} {rv pv : Value} (h : SuAt W S rv pv) (hb : Below W.heap.size W W') : SuAt W' S rv pv := ⟨h.line, h.pc, h.rs.go hb, h.ps.go hb, h.any⟩
/-- What a Raw stands for. -/
def Raw5.i (r : Raw5) : Int := 1 + Hm.pickI r.op 48
def Raw5.f (r : Raw5) : Hm.Flds := Hm.instF r.i r.rd r.rs1 r.rs2 r.imm
def Raw5.short (r : Raw5) : Bool := decide (Hm.compCE r.i r.f.d r.f.r r.f.t r.f.imm = 0) && decide (0 < Hm.pickI r.imm 3)
def Raw5.bytes (r : Raw5) : List UInt8 := if r.short then (leB (Hm.compC r.i r.f.d r.f.r r.f.t r.f.imm)).take 2 else leB (Hm.encC r.i r.f.d r.f.r r.f.t r.f.imm)
def progB (ps : List Raw5) : Nat → List UInt8
  | 0 => []
  | n + 1 => progB ps n ++ (match ps[n]? with | some r => r.bytes | none => [])
theorem raw_len (r : Raw5) : r.bytes.length ≤ 4 := by
  unfold Raw5.bytes
  split
  · rw [List.length_take]; omega
  · show 4 ≤ 4; decide
theorem progB_len (ps : List Raw5) (n : Nat) : (progB ps n).length ≤ 4 * n := by
  induction n with
  | zero => simp [progB]
  | succ n ih =>
    rw [progB, List.length_append]
    cases ps[n]? with
    | none => simp; omega
    | some r => have := raw_len r; simp only; omega
def nProg (S : Su) : Nat := min S.ps.length 30
def Su.bytes (S : Su) : List UInt8 := progB S.ps (nProg S)
def Su.pc0 (S : Su) : Int := 2 * Hm.pickI S.pc 2147483648
def Su.regs (S : Su) : Nat → Int := fun j => if j < 32 then S.rs.getD j 0 else 0
theorem pc0_bd (S : Su) : 0 ≤ S.pc0 ∧ S.pc0 < 4294967296 ∧ S.pc0 % 2 = 0 := by
  have := Hm.pick_bd S.pc 2147483648 (by decide)
  unfold Su.pc0; omega
def begM (S : Su) (line : Int) (fuse : Bool) : Mc := { newMc S.pc0 line fuse S.regs with mem := wrL (fun _ => 0) S.pc0 (S.bytes ++ S.any), par := [], ahead := S.pc0 }
theorem beg_good (S : Su) (line : Int) (fuse : Bool) (hl : LineOk line) (hr : ∀ i : Nat, 0 ≤ S.rs.getD i 0 ∧ S.rs.getD i 0 < 4294967296) : Good (begM S line fuse) := by
  have hp := pc0_bd S
  refine ⟨?_, wrL_ok _ _ _ (fun _ => by decide), hl, hp.1, hp.2.1, hp.2.2, 0, by omega, rfl, ?_⟩
  · intro k
    show 0 ≤ zreg S.regs k ∧ zreg S.regs k < 4294967296
    unfold zreg Su.regs
    split
    · decide
    · split
      · exact hr k
      · decide
  · show S.pc0 = (S.pc0 + 2 * ((0 : Nat) : Int)) % 4294967296
    omega
theorem beg_arch (S : Su) (l l' : Int) (f f' : Bool) : Arch (begM S l f) (begM S l' f') := ⟨rfl, rfl, rfl, rfl, rfl⟩
/-- What was poked is read back. -/
theorem beg_peek (S : Su) (h : S.any.length ≤ 1048576) (line : Int) (fuse : Bool) : peekL (begM S line fuse).mem S.pc0 S.bytes.length = S.bytes := by
  have hp := pc0_bd S
  have hl : S.bytes.length ≤ 120 := by
    have := progB_len S.ps (nProg S)
    have : nProg S ≤ 30 := Nat.min_le_right _ _
    unfold Su.bytes; omega
  apply List.ext_getElem?
  intro i
  by_cases hi : i < S.bytes.length
  · rw [List.getElem?_eq_getElem (by rw [peekL_len]; exact hi), List.getElem?_eq_getElem hi]
    simp only [peekL, List.getElem_map, List.getElem_range]
    have e : (begM S line fuse).mem ((S.pc0 + (i : Int)) % 4294967296) = ((S.bytes[i]).toNat : Int) := by
      show wrL (fun _ => 0) S.pc0 (S.bytes ++ S.any) ((S.pc0 + (i : Int)) % 4294967296) = _
      rw [wrL_mod _ _ _ hp.1 hp.2.1 (by rw [List.length_append]; omega) _ (by omega) (by omega)]
      have ed : ((S.pc0 + (i : Int)) % 4294967296 - S.pc0) % 4294967296 = i := by omega
      rw [ed, if_pos (by rw [List.length_append]; omega)]
      rw [show ((i : Int)).toNat = i from rfl, List.getD_eq_getElem?_getD, List.getElem?_append_left hi, List.getElem?_eq_getElem hi]; rfl
    rw [e]; simp
  · rw [List.getElem?_eq_none (by rw [peekL_len]; omega), List.getElem?_eq_none (by omega)]
end Go.Proofs.YtdcmdjeooklmjaaDoor
