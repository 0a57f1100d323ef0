/-
  DERIVED. GIVEN WITH THE SEED: THE CARDS: each row of YtdcmdjeooklmjabDoorRows.lean that lists a variable, with what it lists TIED to the program's text (the seventh form; the later family's looks); each row that meets fmt, with fmt's text TOLD by the authors' own Lean function (tested against real Go, not proved from fmt's source: count such statements apart). THE CARD IS WHAT COUNTS. Prove the row's statement (the work); the ties are given (YtdcmdjeooklmjabDoorTie.lean); close each card by the builder's one call (the guide's Derived/Test/ToyasCard.lean, 'card_holds'). Laid BY PROGRAM, IN A SANDBOX (cutbox-door.mjs). By AI agents, Wed Nov 11 2026. No macro, syntax, notation, axiom, sorry.
-/
import Derived.Test.YtdcmdjeooklmjabDoorRows
import GoSem.ClaimSeven
namespace Go.Proofs.YtdcmdjeooklmjabDoor
namespace Rows

/-- THE TIED CARD OF 'hartkeep.Moved'. -/
def movedCard : Claim7 := { stood := { row := movedRow, standIns := [], harness := (true, "bb554d8e1529c185a2ccde8681a539b85c9a930a85d5bd7bdcf2d972c9e586a8"), looks := true }, kinds := [], alts := [], laidByText := true, laidKinds := [.wider, .data], laidTests := true, laidLooks := .later }
def MovedCardSaid : Prop := Claim7.holds Tryd.pinned (.plain (OpenSpec.ofChange movedSpec)) movedCard

/-- THE TIED CARD OF 'hartkeep.Kept'. -/
def keptCard : Claim7 := { stood := { row := keptRow, standIns := [], harness := (true, "bb554d8e1529c185a2ccde8681a539b85c9a930a85d5bd7bdcf2d972c9e586a8"), looks := true }, kinds := [], alts := [], laidByText := true, laidKinds := [.wider, .data], laidTests := true, laidLooks := .later }
def KeptCardSaid : Prop := Claim7.holds Tryd.pinned (.plain (OpenSpec.ofChange keptSpec)) keptCard

/-- THE SECOND FORM's CARD OF 'hartkeep.Moved'. -/
def movedUptoCard : Claim7 := { stood := { row := movedUptoRow, standIns := [], harness := (true, "bb554d8e1529c185a2ccde8681a539b85c9a930a85d5bd7bdcf2d972c9e586a8"), looks := true }, kinds := [], alts := [], laidByText := true, laidKinds := [.wider, .data], laidTests := true, laidLooks := .later }
def MovedUptoCardSaid : Prop := Claim7.holds Tryd.pinned (.plain (OpenSpec.upto movedSpec)) movedUptoCard

/-- THE SECOND FORM's CARD OF 'hartkeep.Kept'. -/
def keptUptoCard : Claim7 := { stood := { row := keptUptoRow, standIns := [], harness := (true, "bb554d8e1529c185a2ccde8681a539b85c9a930a85d5bd7bdcf2d972c9e586a8"), looks := true }, kinds := [], alts := [], laidByText := true, laidKinds := [.wider, .data], laidTests := true, laidLooks := .later }
def KeptUptoCardSaid : Prop := Claim7.holds Tryd.pinned (.plain (OpenSpec.upto keptSpec)) keptUptoCard
end Rows
end Go.Proofs.YtdcmdjeooklmjabDoor
