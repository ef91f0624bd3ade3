/-
  DERIVED. GIVEN WITH THE SEED: THE CARDS: each row of YtgcccihnlecpnaaGreatDoorRows.lean that lists a variable, with what it lists TIED to the program's text (the seventh form; the later family's looks); each row that meets fmt, with fmt's text TOLD by the authors' own Lean function (tested against real Go, not proved from fmt's source: count such statements apart). THE CARD IS WHAT COUNTS. Prove the row's statement (the work); the ties are given (YtgcccihnlecpnaaGreatDoorTie.lean); close each card by the builder's one call (the guide's Derived/Test/ToyasCard.lean, 'card_holds'). Laid BY PROGRAM, IN A SANDBOX (cutbox-door.mjs). By AI agents, Wed Nov 11 2026. No macro, syntax, notation, axiom, sorry.
-/
import Derived.Test.YtgcccihnlecpnaaGreatDoorRows
import GoSem.ClaimSeven
namespace Go.Proofs.YtgcccihnlecpnaaGreatDoor
namespace Rows

/-- THE TIED CARD OF 'roundelaylaw06.PathFinds'. -/
def pathFindsCard : Claim7 := { stood := { row := pathFindsRow, standIns := [], harness := (true, "1b075899047943f8822f73222a40f048f3c0f54551009f0d3baf702bff7c3eaa"), looks := true }, kinds := [], alts := [], laidByText := true, laidKinds := [.data, .data, .data, .data, .handle, .sentinel, .sentinel, .data, .data, .pinned], laidTests := true, laidLooks := .later }
def PathFindsCardSaid : Prop := Claim7.holds Tryz.pinned (.plain (OpenSpec.ofChange pathFindsSpec)) pathFindsCard

/-- THE TIED CARD OF 'roundelaylaw06.PathPuts'. -/
def pathPutsCard : Claim7 := { stood := { row := pathPutsRow, standIns := [], harness := (true, "1b075899047943f8822f73222a40f048f3c0f54551009f0d3baf702bff7c3eaa"), looks := true }, kinds := [], alts := [], laidByText := true, laidKinds := [.data, .data, .data, .data, .handle, .sentinel, .sentinel, .data, .data, .pinned], laidTests := true, laidLooks := .later }
def PathPutsCardSaid : Prop := Claim7.holds Tryz.pinned (.plain (OpenSpec.ofChange pathPutsSpec)) pathPutsCard

/-- THE TIED CARD OF 'roundelaylaw06.PathWhere'. -/
def pathWhereCard : Claim7 := { stood := { row := pathWhereRow, standIns := [], harness := (true, "1b075899047943f8822f73222a40f048f3c0f54551009f0d3baf702bff7c3eaa"), looks := true }, kinds := [], alts := [], laidByText := true, laidKinds := [.data, .data, .data, .data, .handle, .sentinel, .sentinel, .data, .data, .pinned], laidTests := true, laidLooks := .later }
def PathWhereCardSaid : Prop := Claim7.holds Tryz.pinned (.plain (OpenSpec.ofChange pathWhereSpec)) pathWhereCard

/-- THE TIED CARD OF 'roundelaylaw06.PathCuts'. -/
def pathCutsCard : Claim7 := { stood := { row := pathCutsRow, standIns := [], harness := (true, "1b075899047943f8822f73222a40f048f3c0f54551009f0d3baf702bff7c3eaa"), looks := true }, kinds := [], alts := [], laidByText := true, laidKinds := [.data, .data, .data, .data, .handle, .sentinel, .sentinel, .data, .data, .pinned], laidTests := true, laidLooks := .later }
def PathCutsCardSaid : Prop := Claim7.holds Tryz.pinned (.plain (OpenSpec.ofChange pathCutsSpec)) pathCutsCard

/-- THE SECOND FORM's CARD OF 'roundelaylaw06.PathFinds'. -/
def pathFindsUptoCard : Claim7 := { stood := { row := pathFindsUptoRow, standIns := [], harness := (true, "1b075899047943f8822f73222a40f048f3c0f54551009f0d3baf702bff7c3eaa"), looks := true }, kinds := [], alts := [], laidByText := true, laidKinds := [.data, .data, .data, .data, .handle, .sentinel, .sentinel, .data, .data, .pinned], laidTests := true, laidLooks := .later }
def PathFindsUptoCardSaid : Prop := Claim7.holds Tryz.pinned (.plain (OpenSpec.upto pathFindsSpec)) pathFindsUptoCard

/-- THE SECOND FORM's CARD OF 'roundelaylaw06.PathPuts'. -/
def pathPutsUptoCard : Claim7 := { stood := { row := pathPutsUptoRow, standIns := [], harness := (true, "1b075899047943f8822f73222a40f048f3c0f54551009f0d3baf702bff7c3eaa"), looks := true }, kinds := [], alts := [], laidByText := true, laidKinds := [.data, .data, .data, .data, .handle, .sentinel, .sentinel, .data, .data, .pinned], laidTests := true, laidLooks := .later }
def PathPutsUptoCardSaid : Prop := Claim7.holds Tryz.pinned (.plain (OpenSpec.upto pathPutsSpec)) pathPutsUptoCard

/-- THE SECOND FORM's CARD OF 'roundelaylaw06.PathWhere'. -/
def pathWhereUptoCard : Claim7 := { stood := { row := pathWhereUptoRow, standIns := [], harness := (true, "1b075899047943f8822f73222a40f048f3c0f54551009f0d3baf702bff7c3eaa"), looks := true }, kinds := [], alts := [], laidByText := true, laidKinds := [.data, .data, .data, .data, .handle, .sentinel, .sentinel, .data, .data, .pinned], laidTests := true, laidLooks := .later }
def PathWhereUptoCardSaid : Prop := Claim7.holds Tryz.pinned (.plain (OpenSpec.upto pathWhereSpec)) pathWhereUptoCard

/-- THE SECOND FORM's CARD OF 'roundelaylaw06.PathCuts'. -/
def pathCutsUptoCard : Claim7 := { stood := { row := pathCutsUptoRow, standIns := [], harness := (true, "1b075899047943f8822f73222a40f048f3c0f54551009f0d3baf702bff7c3eaa"), looks := true }, kinds := [], alts := [], laidByText := true, laidKinds := [.data, .data, .data, .data, .handle, .sentinel, .sentinel, .data, .data, .pinned], laidTests := true, laidLooks := .later }
def PathCutsUptoCardSaid : Prop := Claim7.holds Tryz.pinned (.plain (OpenSpec.upto pathCutsSpec)) pathCutsUptoCard
end Rows
end Go.Proofs.YtgcccihnlecpnaaGreatDoor
