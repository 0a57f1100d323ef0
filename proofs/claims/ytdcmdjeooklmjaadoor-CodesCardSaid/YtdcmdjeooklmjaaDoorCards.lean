/-
  DERIVED. GIVEN WITH THE SEED: THE CARDS: each row of YtdcmdjeooklmjaaDoorRows.lean that lists a variable, with what it lists TIED to the program's text (the seventh form; the later family's looks); each row that meets fmt, with fmt's text TOLD by the authors' own Lean function (tested against real Go, not proved from fmt's source: count such statements apart). THE CARD IS WHAT COUNTS. Prove the row's statement (the work); the ties are given (YtdcmdjeooklmjaaDoorTie.lean); close each card by the builder's one call (the guide's Derived/Test/ToyasCard.lean, 'card_holds'). Laid BY PROGRAM, IN A SANDBOX (cutbox-door.mjs). By AI agents, Wed Nov 11 2026. No macro, syntax, notation, axiom, sorry.
-/
import Derived.Test.YtdcmdjeooklmjaaDoorRows
import GoSem.ClaimSeven
namespace Go.Proofs.YtdcmdjeooklmjaaDoor
namespace Rows

/-- THE TIED CARD OF 'hartlaw.Codes'. -/
def codesCard : Claim7 := { stood := { row := codesRow, standIns := [], harness := (true, "7cc64f0d1dca72e16045d369328f186298909194172f129078a9dd230d1f4e5c"), looks := true }, kinds := [], alts := [], laidByText := true, laidKinds := [.data], laidTests := true, laidLooks := .later }
def CodesCardSaid : Prop := Claim7.holds Tryd.pinned (.plain (OpenSpec.ofChange codesSpec)) codesCard

/-- THE TIED CARD OF 'hartkeep.Round'. -/
def roundCard : Claim7 := { stood := { row := roundRow, standIns := [], harness := (true, "7cc64f0d1dca72e16045d369328f186298909194172f129078a9dd230d1f4e5c"), looks := true }, kinds := [], alts := [], laidByText := true, laidKinds := [.data], laidTests := true, laidLooks := .later }
def RoundCardSaid : Prop := Claim7.holds Tryd.pinned (.plain (OpenSpec.ofChange roundSpec)) roundCard

/-- THE TIED CARD OF 'hartlaw.Shorts'. -/
def shortsCard : Claim7 := { stood := { row := shortsRow, standIns := [], harness := (true, "7cc64f0d1dca72e16045d369328f186298909194172f129078a9dd230d1f4e5c"), looks := true }, kinds := [], alts := [], laidByText := true, laidKinds := [.wider, .data], laidTests := true, laidLooks := .later }
def ShortsCardSaid : Prop := Claim7.holds Tryd.pinned (.plain (OpenSpec.ofChange shortsSpec)) shortsCard

/-- THE TIED CARD OF 'hartkeep.Pressed'. -/
def pressedCard : Claim7 := { stood := { row := pressedRow, standIns := [], harness := (true, "7cc64f0d1dca72e16045d369328f186298909194172f129078a9dd230d1f4e5c"), looks := true }, kinds := [], alts := [], laidByText := true, laidKinds := [.wider, .data], laidTests := true, laidLooks := .later }
def PressedCardSaid : Prop := Claim7.holds Tryd.pinned (.plain (OpenSpec.ofChange pressedSpec)) pressedCard

/-- THE TIED CARD OF 'hartlaw.Prints'. -/
def printsCard : Claim7 := { stood := { row := printsRow, standIns := [], harness := (true, "7cc64f0d1dca72e16045d369328f186298909194172f129078a9dd230d1f4e5c"), looks := true }, kinds := [], alts := [], laidByText := true, laidKinds := [.data, .data, .data, .data, .listed, .data], laidTests := true, laidLooks := .later }
def PrintsCardSaid : Prop := Claim7.holds Tryd.pinned (.plain (OpenSpec.ofChange printsSpec)) printsCard

/-- THE TIED CARD OF 'hartkeep.Alike'. -/
def alikeCard : Claim7 := { stood := { row := alikeRow, standIns := [], harness := (true, "7cc64f0d1dca72e16045d369328f186298909194172f129078a9dd230d1f4e5c"), looks := true }, kinds := [], alts := [], laidByText := true, laidKinds := [.wider, .data], laidTests := true, laidLooks := .later }
def AlikeCardSaid : Prop := Claim7.holds Tryd.pinned (.plain (OpenSpec.ofChange alikeSpec)) alikeCard

/-- THE TIED CARD OF 'hartkeep.Lively'. -/
def livelyCard : Claim7 := { stood := { row := livelyRow, standIns := [], harness := (true, "7cc64f0d1dca72e16045d369328f186298909194172f129078a9dd230d1f4e5c"), looks := true }, kinds := [], alts := [], laidByText := true, laidKinds := [.wider, .data], laidTests := true, laidLooks := .later }
def LivelyCardSaid : Prop := Claim7.holds Tryd.pinned (.plain (OpenSpec.ofChange livelySpec)) livelyCard

/-- THE TIED CARD OF 'hartkeep.Products'. -/
def productsCard : Claim7 := { stood := { row := productsRow, standIns := [], harness := (true, "7cc64f0d1dca72e16045d369328f186298909194172f129078a9dd230d1f4e5c"), looks := true }, kinds := [], alts := [], laidByText := true, laidKinds := [.wider, .data], laidTests := true, laidLooks := .later }
def ProductsCardSaid : Prop := Claim7.holds Tryd.pinned (.plain (OpenSpec.ofChange productsSpec)) productsCard

/-- THE SECOND FORM's CARD OF 'hartlaw.Codes'. -/
def codesUptoCard : Claim7 := { stood := { row := codesUptoRow, standIns := [], harness := (true, "7cc64f0d1dca72e16045d369328f186298909194172f129078a9dd230d1f4e5c"), looks := true }, kinds := [], alts := [], laidByText := true, laidKinds := [.data], laidTests := true, laidLooks := .later }
def CodesUptoCardSaid : Prop := Claim7.holds Tryd.pinned (.plain (OpenSpec.upto codesSpec)) codesUptoCard

/-- THE SECOND FORM's CARD OF 'hartkeep.Round'. -/
def roundUptoCard : Claim7 := { stood := { row := roundUptoRow, standIns := [], harness := (true, "7cc64f0d1dca72e16045d369328f186298909194172f129078a9dd230d1f4e5c"), looks := true }, kinds := [], alts := [], laidByText := true, laidKinds := [.data], laidTests := true, laidLooks := .later }
def RoundUptoCardSaid : Prop := Claim7.holds Tryd.pinned (.plain (OpenSpec.upto roundSpec)) roundUptoCard

/-- THE SECOND FORM's CARD OF 'hartlaw.Shorts'. -/
def shortsUptoCard : Claim7 := { stood := { row := shortsUptoRow, standIns := [], harness := (true, "7cc64f0d1dca72e16045d369328f186298909194172f129078a9dd230d1f4e5c"), looks := true }, kinds := [], alts := [], laidByText := true, laidKinds := [.wider, .data], laidTests := true, laidLooks := .later }
def ShortsUptoCardSaid : Prop := Claim7.holds Tryd.pinned (.plain (OpenSpec.upto shortsSpec)) shortsUptoCard

/-- THE SECOND FORM's CARD OF 'hartkeep.Pressed'. -/
def pressedUptoCard : Claim7 := { stood := { row := pressedUptoRow, standIns := [], harness := (true, "7cc64f0d1dca72e16045d369328f186298909194172f129078a9dd230d1f4e5c"), looks := true }, kinds := [], alts := [], laidByText := true, laidKinds := [.wider, .data], laidTests := true, laidLooks := .later }
def PressedUptoCardSaid : Prop := Claim7.holds Tryd.pinned (.plain (OpenSpec.upto pressedSpec)) pressedUptoCard

/-- THE SECOND FORM's CARD OF 'hartlaw.Prints'. -/
def printsUptoCard : Claim7 := { stood := { row := printsUptoRow, standIns := [], harness := (true, "7cc64f0d1dca72e16045d369328f186298909194172f129078a9dd230d1f4e5c"), looks := true }, kinds := [], alts := [], laidByText := true, laidKinds := [.data, .data, .data, .data, .listed, .data], laidTests := true, laidLooks := .later }
def PrintsUptoCardSaid : Prop := Claim7.holds Tryd.pinned (.plain (OpenSpec.upto printsSpec)) printsUptoCard

/-- THE SECOND FORM's CARD OF 'hartkeep.Alike'. -/
def alikeUptoCard : Claim7 := { stood := { row := alikeUptoRow, standIns := [], harness := (true, "7cc64f0d1dca72e16045d369328f186298909194172f129078a9dd230d1f4e5c"), looks := true }, kinds := [], alts := [], laidByText := true, laidKinds := [.wider, .data], laidTests := true, laidLooks := .later }
def AlikeUptoCardSaid : Prop := Claim7.holds Tryd.pinned (.plain (OpenSpec.upto alikeSpec)) alikeUptoCard

/-- THE SECOND FORM's CARD OF 'hartkeep.Lively'. -/
def livelyUptoCard : Claim7 := { stood := { row := livelyUptoRow, standIns := [], harness := (true, "7cc64f0d1dca72e16045d369328f186298909194172f129078a9dd230d1f4e5c"), looks := true }, kinds := [], alts := [], laidByText := true, laidKinds := [.wider, .data], laidTests := true, laidLooks := .later }
def LivelyUptoCardSaid : Prop := Claim7.holds Tryd.pinned (.plain (OpenSpec.upto livelySpec)) livelyUptoCard

/-- THE SECOND FORM's CARD OF 'hartkeep.Products'. -/
def productsUptoCard : Claim7 := { stood := { row := productsUptoRow, standIns := [], harness := (true, "7cc64f0d1dca72e16045d369328f186298909194172f129078a9dd230d1f4e5c"), looks := true }, kinds := [], alts := [], laidByText := true, laidKinds := [.wider, .data], laidTests := true, laidLooks := .later }
def ProductsUptoCardSaid : Prop := Claim7.holds Tryd.pinned (.plain (OpenSpec.upto productsSpec)) productsUptoCard
end Rows
end Go.Proofs.YtdcmdjeooklmjaaDoor
