/-
  DERIVED. GIVEN WITH THE SEED: THE CARDS: each row of YtjlfmpibnlihhaaDoorRows.lean that lists a variable, with what it lists TIED to the program's text (the seventh form; the later family's looks); each row that meets fmt, with fmt's text TOLD by the authors' own Lean function (tested against real Go, not proved from fmt's source: count such statements apart). THE CARD IS WHAT COUNTS. Prove the row's statement (the work); the ties are given (YtjlfmpibnlihhaaDoorTie.lean); close each card by the builder's one call (the guide's Derived/Test/ToyasCard.lean, 'card_holds'). Laid BY PROGRAM, IN A SANDBOX (cutbox-door.mjs). By AI agents, Wed Nov 11 2026. No macro, syntax, notation, axiom, sorry.
-/
import Derived.Test.YtjlfmpibnlihhaaDoorRows
import GoSem.ClaimSeven
namespace Go.Proofs.YtjlfmpibnlihhaaDoor
namespace Rows

/-- THE TIED CARD OF 'roundelaylaw02.TextQuote'. -/
def textQuoteCard : Claim7 := { stood := { row := textQuoteRow, standIns := [], harness := (true, "0bddf4fae969a914af5f5fb7a1c8f3664a6cc1dc14b6027609a5f85251834e90"), looks := true }, kinds := [], alts := [], laidByText := true, laidKinds := [.data, .data, .data, .data, .handle, .pinned], laidTests := true, laidLooks := .later }
def TextQuoteCardSaid : Prop := Claim7.holds Tryd.pinned (.plain (OpenSpec.ofChange textQuoteSpec)) textQuoteCard

/-- THE TIED CARD OF 'roundelaylaw02.TextReads'. -/
def textReadsCard : Claim7 := { stood := { row := textReadsRow, standIns := [], harness := (true, "0bddf4fae969a914af5f5fb7a1c8f3664a6cc1dc14b6027609a5f85251834e90"), looks := true }, kinds := [], alts := [], laidByText := true, laidKinds := [.data, .data, .data, .data, .handle, .pinned], laidTests := true, laidLooks := .later }
def TextReadsCardSaid : Prop := Claim7.holds Tryd.pinned (.plain (OpenSpec.ofChange textReadsSpec)) textReadsCard

/-- THE TIED CARD OF 'roundelaylaw02.TextBack'. -/
def textBackCard : Claim7 := { stood := { row := textBackRow, standIns := [], harness := (true, "0bddf4fae969a914af5f5fb7a1c8f3664a6cc1dc14b6027609a5f85251834e90"), looks := true }, kinds := [], alts := [], laidByText := true, laidKinds := [.data, .data, .data, .data, .handle, .pinned], laidTests := true, laidLooks := .later }
def TextBackCardSaid : Prop := Claim7.holds Tryd.pinned (.plain (OpenSpec.ofChange textBackSpec)) textBackCard

/-- THE TIED CARD OF 'roundelaylaw02.TextShort'. -/
def textShortCard : Claim7 := { stood := { row := textShortRow, standIns := [], harness := (true, "0bddf4fae969a914af5f5fb7a1c8f3664a6cc1dc14b6027609a5f85251834e90"), looks := true }, kinds := [], alts := [], laidByText := true, laidKinds := [.data, .data, .data, .data, .handle, .pinned], laidTests := true, laidLooks := .later }
def TextShortCardSaid : Prop := Claim7.holds Tryd.pinned (.plain (OpenSpec.ofChange textShortSpec)) textShortCard

/-- THE TIED CARD OF 'roundelaylaw02.TextUnits'. -/
def textUnitsCard : Claim7 := { stood := { row := textUnitsRow, standIns := [], harness := (true, "0bddf4fae969a914af5f5fb7a1c8f3664a6cc1dc14b6027609a5f85251834e90"), looks := true }, kinds := [], alts := [], laidByText := true, laidKinds := [.data, .data, .data, .data, .handle, .pinned], laidTests := true, laidLooks := .later }
def TextUnitsCardSaid : Prop := Claim7.holds Tryd.pinned (.plain (OpenSpec.ofChange textUnitsSpec)) textUnitsCard

/-- THE TIED CARD OF 'roundelaylaw02.TextValid'. -/
def textValidCard : Claim7 := { stood := { row := textValidRow, standIns := [], harness := (true, "0bddf4fae969a914af5f5fb7a1c8f3664a6cc1dc14b6027609a5f85251834e90"), looks := true }, kinds := [], alts := [], laidByText := true, laidKinds := [.data, .data, .data, .data, .handle, .pinned], laidTests := true, laidLooks := .later }
def TextValidCardSaid : Prop := Claim7.holds Tryd.pinned (.plain (OpenSpec.ofChange textValidSpec)) textValidCard

/-- THE SECOND FORM's CARD OF 'roundelaylaw02.TextQuote'. -/
def textQuoteUptoCard : Claim7 := { stood := { row := textQuoteUptoRow, standIns := [], harness := (true, "0bddf4fae969a914af5f5fb7a1c8f3664a6cc1dc14b6027609a5f85251834e90"), looks := true }, kinds := [], alts := [], laidByText := true, laidKinds := [.data, .data, .data, .data, .handle, .pinned], laidTests := true, laidLooks := .later }
def TextQuoteUptoCardSaid : Prop := Claim7.holds Tryd.pinned (.plain (OpenSpec.upto textQuoteSpec)) textQuoteUptoCard

/-- THE SECOND FORM's CARD OF 'roundelaylaw02.TextReads'. -/
def textReadsUptoCard : Claim7 := { stood := { row := textReadsUptoRow, standIns := [], harness := (true, "0bddf4fae969a914af5f5fb7a1c8f3664a6cc1dc14b6027609a5f85251834e90"), looks := true }, kinds := [], alts := [], laidByText := true, laidKinds := [.data, .data, .data, .data, .handle, .pinned], laidTests := true, laidLooks := .later }
def TextReadsUptoCardSaid : Prop := Claim7.holds Tryd.pinned (.plain (OpenSpec.upto textReadsSpec)) textReadsUptoCard

/-- THE SECOND FORM's CARD OF 'roundelaylaw02.TextBack'. -/
def textBackUptoCard : Claim7 := { stood := { row := textBackUptoRow, standIns := [], harness := (true, "0bddf4fae969a914af5f5fb7a1c8f3664a6cc1dc14b6027609a5f85251834e90"), looks := true }, kinds := [], alts := [], laidByText := true, laidKinds := [.data, .data, .data, .data, .handle, .pinned], laidTests := true, laidLooks := .later }
def TextBackUptoCardSaid : Prop := Claim7.holds Tryd.pinned (.plain (OpenSpec.upto textBackSpec)) textBackUptoCard

/-- THE SECOND FORM's CARD OF 'roundelaylaw02.TextShort'. -/
def textShortUptoCard : Claim7 := { stood := { row := textShortUptoRow, standIns := [], harness := (true, "0bddf4fae969a914af5f5fb7a1c8f3664a6cc1dc14b6027609a5f85251834e90"), looks := true }, kinds := [], alts := [], laidByText := true, laidKinds := [.data, .data, .data, .data, .handle, .pinned], laidTests := true, laidLooks := .later }
def TextShortUptoCardSaid : Prop := Claim7.holds Tryd.pinned (.plain (OpenSpec.upto textShortSpec)) textShortUptoCard

/-- THE SECOND FORM's CARD OF 'roundelaylaw02.TextUnits'. -/
def textUnitsUptoCard : Claim7 := { stood := { row := textUnitsUptoRow, standIns := [], harness := (true, "0bddf4fae969a914af5f5fb7a1c8f3664a6cc1dc14b6027609a5f85251834e90"), looks := true }, kinds := [], alts := [], laidByText := true, laidKinds := [.data, .data, .data, .data, .handle, .pinned], laidTests := true, laidLooks := .later }
def TextUnitsUptoCardSaid : Prop := Claim7.holds Tryd.pinned (.plain (OpenSpec.upto textUnitsSpec)) textUnitsUptoCard

/-- THE SECOND FORM's CARD OF 'roundelaylaw02.TextValid'. -/
def textValidUptoCard : Claim7 := { stood := { row := textValidUptoRow, standIns := [], harness := (true, "0bddf4fae969a914af5f5fb7a1c8f3664a6cc1dc14b6027609a5f85251834e90"), looks := true }, kinds := [], alts := [], laidByText := true, laidKinds := [.data, .data, .data, .data, .handle, .pinned], laidTests := true, laidLooks := .later }
def TextValidUptoCardSaid : Prop := Claim7.holds Tryd.pinned (.plain (OpenSpec.upto textValidSpec)) textValidUptoCard
end Rows
end Go.Proofs.YtjlfmpibnlihhaaDoor
