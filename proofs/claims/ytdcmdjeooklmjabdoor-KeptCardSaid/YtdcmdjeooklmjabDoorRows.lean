/-
  NARROWER THAN 'FOR EVERY INPUT', by the rows' own cells (each row's printed sentence says how): Moved: laid · Kept: laid.
  DERIVED. THE GIVEN ROWS OF THIS SEAT. 2 by the template 'for every input the law returns true; each argument reads behind the call as it read before'; 0 by the template 'total and deterministic' (their statements: YtdcmdjeooklmjabDoorTotals.lean).
  GIVEN WITH THE SEED: the statements are not yours to turn. If you find one false, say at which input.
  Laid BY PROGRAM, IN A SANDBOX (cutbox-rows.mjs): the forced cells as the released guide's own fill.sh prints them over the translation a23053c19af6adcd… (all of the seat's roots in one cut). By AI agents, Wed Nov 11 2026. No macro, syntax, notation, axiom, sorry.
-/
import Derived.Test.YtdcmdjeooklmjabDoorChecked
import GoSem.Claim
import GoSem.ClaimJoined
import GoSem.ClaimMapViews
import Derived.JoinedTies
import Derived.KernelRfl
namespace Go.Proofs.YtdcmdjeooklmjabDoor
/- THE CELL 'sum', in the pinned program and in every row, IS THE sha256 OF THE DUMP (.gsa) THAT YtdcmdjeooklmjabDoorProg.lean LOADS. Nothing in Lean hashes anything: it is a label: what it is worth is what the hold of that sum in a sandbox is worth. -/
noncomputable def Tryd.pinned : Pinned := { name := "ytdcmdjeooklmjabdoor", sum := "a23053c19af6adcdbb490d92d2843f3691f600513932f1f7374bbe9d0dc8efde", checked := Tryd.checked }
namespace Rows
def none {H : Type} : Left H := { results := [], args := [] }

/- WHAT THE LISTED PACKAGE-LEVEL VARIABLES READ AS WHEN THE CALL BEGINS. Each datum BY PROGRAM (the guide's laid-datum.mjs) off the statement by which the dump's own 'gosem.cut.vars' lays the variable. In a bare row this is a premise. The card (YtdcmdjeooklmjabDoorCards.lean) ties it to the program's text. -/
def laid_hart_code_shortRows {H : Type} : DataW H := .agg [.agg [.lit (.int .u16 57347), .lit (.int .u16 0), .lit (.int .u8 19), .lit (.int .u8 6), .lit (.int .u8 2), .lit (.int .u8 0), .lit (.int .u8 3), .lit (.int .u8 1)], .agg [.lit (.int .u16 57347), .lit (.int .u16 16384), .lit (.int .u8 13), .lit (.int .u8 6), .lit (.int .u8 5), .lit (.int .u8 0), .lit (.int .u8 4), .lit (.int .u8 0)], .agg [.lit (.int .u16 57347), .lit (.int .u16 49152), .lit (.int .u8 18), .lit (.int .u8 0), .lit (.int .u8 5), .lit (.int .u8 6), .lit (.int .u8 4), .lit (.int .u8 0)], .agg [.lit (.int .u16 57347), .lit (.int .u16 1), .lit (.int .u8 19), .lit (.int .u8 3), .lit (.int .u8 3), .lit (.int .u8 0), .lit (.int .u8 2), .lit (.int .u8 0)], .agg [.lit (.int .u16 57347), .lit (.int .u16 8193), .lit (.int .u8 3), .lit (.int .u8 1), .lit (.int .u8 0), .lit (.int .u8 0), .lit (.int .u8 9), .lit (.int .u8 0)], .agg [.lit (.int .u16 57347), .lit (.int .u16 16385), .lit (.int .u8 19), .lit (.int .u8 3), .lit (.int .u8 0), .lit (.int .u8 0), .lit (.int .u8 2), .lit (.int .u8 0)], .agg [.lit (.int .u16 61315), .lit (.int .u16 24833), .lit (.int .u8 19), .lit (.int .u8 2), .lit (.int .u8 2), .lit (.int .u8 0), .lit (.int .u8 7), .lit (.int .u8 1)], .agg [.lit (.int .u16 57347), .lit (.int .u16 24577), .lit (.int .u8 1), .lit (.int .u8 3), .lit (.int .u8 0), .lit (.int .u8 0), .lit (.int .u8 2), .lit (.int .u8 5)], .agg [.lit (.int .u16 64515), .lit (.int .u16 32769), .lit (.int .u8 26), .lit (.int .u8 5), .lit (.int .u8 5), .lit (.int .u8 0), .lit (.int .u8 1), .lit (.int .u8 0)], .agg [.lit (.int .u16 64515), .lit (.int .u16 33793), .lit (.int .u8 27), .lit (.int .u8 5), .lit (.int .u8 5), .lit (.int .u8 0), .lit (.int .u8 1), .lit (.int .u8 0)], .agg [.lit (.int .u16 60419), .lit (.int .u16 34817), .lit (.int .u8 24), .lit (.int .u8 5), .lit (.int .u8 5), .lit (.int .u8 0), .lit (.int .u8 2), .lit (.int .u8 0)], .agg [.lit (.int .u16 64611), .lit (.int .u16 35841), .lit (.int .u8 29), .lit (.int .u8 5), .lit (.int .u8 5), .lit (.int .u8 6), .lit (.int .u8 0), .lit (.int .u8 0)], .agg [.lit (.int .u16 64611), .lit (.int .u16 35873), .lit (.int .u8 33), .lit (.int .u8 5), .lit (.int .u8 5), .lit (.int .u8 6), .lit (.int .u8 0), .lit (.int .u8 0)], .agg [.lit (.int .u16 64611), .lit (.int .u16 35905), .lit (.int .u8 36), .lit (.int .u8 5), .lit (.int .u8 5), .lit (.int .u8 6), .lit (.int .u8 0), .lit (.int .u8 0)], .agg [.lit (.int .u16 64611), .lit (.int .u16 35937), .lit (.int .u8 37), .lit (.int .u8 5), .lit (.int .u8 5), .lit (.int .u8 6), .lit (.int .u8 0), .lit (.int .u8 0)], .agg [.lit (.int .u16 57347), .lit (.int .u16 40961), .lit (.int .u8 3), .lit (.int .u8 0), .lit (.int .u8 0), .lit (.int .u8 0), .lit (.int .u8 9), .lit (.int .u8 0)], .agg [.lit (.int .u16 57347), .lit (.int .u16 49153), .lit (.int .u8 5), .lit (.int .u8 0), .lit (.int .u8 5), .lit (.int .u8 0), .lit (.int .u8 8), .lit (.int .u8 0)], .agg [.lit (.int .u16 57347), .lit (.int .u16 57345), .lit (.int .u8 6), .lit (.int .u8 0), .lit (.int .u8 5), .lit (.int .u8 0), .lit (.int .u8 8), .lit (.int .u8 0)], .agg [.lit (.int .u16 61443), .lit (.int .u16 2), .lit (.int .u8 25), .lit (.int .u8 3), .lit (.int .u8 3), .lit (.int .u8 0), .lit (.int .u8 1), .lit (.int .u8 0)], .agg [.lit (.int .u16 57347), .lit (.int .u16 16386), .lit (.int .u8 13), .lit (.int .u8 3), .lit (.int .u8 2), .lit (.int .u8 0), .lit (.int .u8 5), .lit (.int .u8 2)], .agg [.lit (.int .u16 61567), .lit (.int .u16 32770), .lit (.int .u8 4), .lit (.int .u8 0), .lit (.int .u8 3), .lit (.int .u8 0), .lit (.int .u8 0), .lit (.int .u8 8)], .agg [.lit (.int .u16 61443), .lit (.int .u16 32770), .lit (.int .u8 28), .lit (.int .u8 3), .lit (.int .u8 0), .lit (.int .u8 4), .lit (.int .u8 0), .lit (.int .u8 16)], .agg [.lit (.int .u16 65535), .lit (.int .u16 36866), .lit (.int .u8 48), .lit (.int .u8 0), .lit (.int .u8 0), .lit (.int .u8 0), .lit (.int .u8 0), .lit (.int .u8 0)], .agg [.lit (.int .u16 61567), .lit (.int .u16 36866), .lit (.int .u8 4), .lit (.int .u8 1), .lit (.int .u8 3), .lit (.int .u8 0), .lit (.int .u8 0), .lit (.int .u8 8)], .agg [.lit (.int .u16 61443), .lit (.int .u16 36866), .lit (.int .u8 28), .lit (.int .u8 3), .lit (.int .u8 3), .lit (.int .u8 4), .lit (.int .u8 0), .lit (.int .u8 16)], .agg [.lit (.int .u16 57347), .lit (.int .u16 49154), .lit (.int .u8 18), .lit (.int .u8 0), .lit (.int .u8 2), .lit (.int .u8 4), .lit (.int .u8 6), .lit (.int .u8 0)]]
def laid_hart_code_rows {H : Type} : DataW H := .agg [.agg [.lit (.int .u8 0), .lit (.int .u32 0)], .agg [.lit (.int .u8 6), .lit (.int .u32 55)], .agg [.lit (.int .u8 6), .lit (.int .u32 23)], .agg [.lit (.int .u8 7), .lit (.int .u32 111)], .agg [.lit (.int .u8 2), .lit (.int .u32 103)], .agg [.lit (.int .u8 5), .lit (.int .u32 99)], .agg [.lit (.int .u8 5), .lit (.int .u32 4195)], .agg [.lit (.int .u8 5), .lit (.int .u32 16483)], .agg [.lit (.int .u8 5), .lit (.int .u32 20579)], .agg [.lit (.int .u8 5), .lit (.int .u32 24675)], .agg [.lit (.int .u8 5), .lit (.int .u32 28771)], .agg [.lit (.int .u8 2), .lit (.int .u32 3)], .agg [.lit (.int .u8 2), .lit (.int .u32 4099)], .agg [.lit (.int .u8 2), .lit (.int .u32 8195)], .agg [.lit (.int .u8 2), .lit (.int .u32 16387)], .agg [.lit (.int .u8 2), .lit (.int .u32 20483)], .agg [.lit (.int .u8 4), .lit (.int .u32 35)], .agg [.lit (.int .u8 4), .lit (.int .u32 4131)], .agg [.lit (.int .u8 4), .lit (.int .u32 8227)], .agg [.lit (.int .u8 2), .lit (.int .u32 19)], .agg [.lit (.int .u8 2), .lit (.int .u32 8211)], .agg [.lit (.int .u8 2), .lit (.int .u32 12307)], .agg [.lit (.int .u8 2), .lit (.int .u32 16403)], .agg [.lit (.int .u8 2), .lit (.int .u32 24595)], .agg [.lit (.int .u8 2), .lit (.int .u32 28691)], .agg [.lit (.int .u8 3), .lit (.int .u32 4115)], .agg [.lit (.int .u8 3), .lit (.int .u32 20499)], .agg [.lit (.int .u8 3), .lit (.int .u32 1073762323)], .agg [.lit (.int .u8 1), .lit (.int .u32 51)], .agg [.lit (.int .u8 1), .lit (.int .u32 1073741875)], .agg [.lit (.int .u8 1), .lit (.int .u32 4147)], .agg [.lit (.int .u8 1), .lit (.int .u32 8243)], .agg [.lit (.int .u8 1), .lit (.int .u32 12339)], .agg [.lit (.int .u8 1), .lit (.int .u32 16435)], .agg [.lit (.int .u8 1), .lit (.int .u32 20531)], .agg [.lit (.int .u8 1), .lit (.int .u32 1073762355)], .agg [.lit (.int .u8 1), .lit (.int .u32 24627)], .agg [.lit (.int .u8 1), .lit (.int .u32 28723)], .agg [.lit (.int .u8 1), .lit (.int .u32 33554483)], .agg [.lit (.int .u8 1), .lit (.int .u32 33558579)], .agg [.lit (.int .u8 1), .lit (.int .u32 33562675)], .agg [.lit (.int .u8 1), .lit (.int .u32 33566771)], .agg [.lit (.int .u8 1), .lit (.int .u32 33570867)], .agg [.lit (.int .u8 1), .lit (.int .u32 33574963)], .agg [.lit (.int .u8 1), .lit (.int .u32 33579059)], .agg [.lit (.int .u8 1), .lit (.int .u32 33583155)], .agg [.lit (.int .u8 9), .lit (.int .u32 15)], .agg [.lit (.int .u8 8), .lit (.int .u32 115)], .agg [.lit (.int .u8 8), .lit (.int .u32 1048691)]]

/-- 'hartkeep.Moved': WHATEVER THE INPUT: true; the input reads as it did. -/
def movedSpec : ChangeSpec := { name := "moved", fn := fun _ => fun
  | [d1, d2, d3] => { results := [.lit (.bool true)], args := [d1, d2, d3] }
  | _ => none }
def movedRow : OpenClaim := { program := "ytdcmdjeooklmjabdoor", sum := "a23053c19af6adcdbb490d92d2843f3691f600513932f1f7374bbe9d0dc8efde", func := "hart/hartkeep.Moved", spec := "moved", unfollowed := true, recurses := true, named := ["hart/code.rows", "hart/code.shortRows"], apart := false, laid := [("hart/code.shortRows", laid_hart_code_shortRows), ("hart/code.rows", laid_hart_code_rows)] }
def MovedSaid : Prop := movedRow.holds Tryd.pinned (OpenSpec.ofChange movedSpec)

/-- ITS FALSE NEIGHBOUR: 'it returns false'. Refute it at one input. -/
def movedWrong : ChangeSpec := { name := "moved", fn := fun _ => fun
  | [d1, d2, d3] => { results := [.lit (.bool false)], args := [d1, d2, d3] }
  | _ => none }
def MovedWrongFalsely : Prop := movedRow.holds Tryd.pinned (OpenSpec.ofChange movedWrong)

/-- 'hartkeep.Kept': WHATEVER THE INPUT: true; the input reads as it did. -/
def keptSpec : ChangeSpec := { name := "kept", fn := fun _ => fun
  | [d1, d2, d3] => { results := [.lit (.bool true)], args := [d1, d2, d3] }
  | _ => none }
def keptRow : OpenClaim := { program := "ytdcmdjeooklmjabdoor", sum := "a23053c19af6adcdbb490d92d2843f3691f600513932f1f7374bbe9d0dc8efde", func := "hart/hartkeep.Kept", spec := "kept", unfollowed := true, recurses := true, named := ["hart/code.rows", "hart/code.shortRows"], apart := false, laid := [("hart/code.shortRows", laid_hart_code_shortRows), ("hart/code.rows", laid_hart_code_rows)] }
def KeptSaid : Prop := keptRow.holds Tryd.pinned (OpenSpec.ofChange keptSpec)

/-- ITS FALSE NEIGHBOUR: 'it returns false'. Refute it at one input. -/
def keptWrong : ChangeSpec := { name := "kept", fn := fun _ => fun
  | [d1, d2, d3] => { results := [.lit (.bool false)], args := [d1, d2, d3] }
  | _ => none }
def KeptWrongFalsely : Prop := keptRow.holds Tryd.pinned (OpenSpec.ofChange keptWrong)

/- THE SECOND FORM. 'bulk': how many values and letters a reading holds, each counted each time it is reached (what is shared counts as often as it is met; a slice's spare places count too). A statement '..UptoSaid' is the law's where the arguments, and the package variables that the reading takes, are together of bulk at most 1048576: NARROWER than '..Said'. Prove '..Said' where nothing that the law and all that it calls make is longer than what came in: it says more and counts as full. Else prove '..UptoSaid'. A law counts once. -/
mutual
def uptoBulk {H : Type} : DataW H → Nat
  | .lit (.string bytes) => bytes.length + 1
  | .lit _ => 1
  | .nil => 1
  | .ptr d => uptoBulk d + 1
  | .slice elems spare => uptoBulkAll elems + uptoBulkAll spare + 1
  | .agg parts => uptoBulkAll parts + 1
  | .iface _ d => uptoBulk d + 1
  | .map entries => uptoBulkEntries entries + 1
  | .held _ => 1
def uptoBulkAll {H : Type} : List (DataW H) → Nat
  | [] => 0
  | d :: r => uptoBulk d + uptoBulkAll r
def uptoBulkEntries {H : Type} : List (Lit × DataW H) → Nat
  | [] => 0
  | x :: r => uptoBulkEntry x + uptoBulkEntries r
def uptoBulkEntry {H : Type} : Lit × DataW H → Nat
  | (.string bytes, d) => bytes.length + uptoBulk d + 1
  | (_, d) => uptoBulk d + 1
 end
def uptoSmall : (H : Type) → List (DataW H) → Bool := fun _ ds => decide (uptoBulkAll ds ≤ 1048576)
def OpenSpec.upto (s : _root_.Go.ChangeSpec) : _root_.Go.OpenSpec := { _root_.Go.OpenSpec.ofChange s with cond := some uptoSmall }

/-- 'hartkeep.Moved', WHERE WHAT IT READS IS OF BULK AT MOST 1048576: true; the input reads as it did. -/
def movedUptoRow : OpenClaim := { program := "ytdcmdjeooklmjabdoor", sum := "a23053c19af6adcdbb490d92d2843f3691f600513932f1f7374bbe9d0dc8efde", func := "hart/hartkeep.Moved", spec := "moved", unfollowed := true, recurses := true, named := ["hart/code.rows", "hart/code.shortRows"], apart := false, laid := [("hart/code.shortRows", laid_hart_code_shortRows), ("hart/code.rows", laid_hart_code_rows)], narrowed := true }
def MovedUptoSaid : Prop := movedUptoRow.holds Tryd.pinned (OpenSpec.upto movedSpec)

/-- 'hartkeep.Kept', WHERE WHAT IT READS IS OF BULK AT MOST 1048576: true; the input reads as it did. -/
def keptUptoRow : OpenClaim := { program := "ytdcmdjeooklmjabdoor", sum := "a23053c19af6adcdbb490d92d2843f3691f600513932f1f7374bbe9d0dc8efde", func := "hart/hartkeep.Kept", spec := "kept", unfollowed := true, recurses := true, named := ["hart/code.rows", "hart/code.shortRows"], apart := false, laid := [("hart/code.shortRows", laid_hart_code_shortRows), ("hart/code.rows", laid_hart_code_rows)], narrowed := true }
def KeptUptoSaid : Prop := keptUptoRow.holds Tryd.pinned (OpenSpec.upto keptSpec)

end Rows
end Go.Proofs.YtdcmdjeooklmjabDoor
