/-
  DERIVED. GIVEN WITH THE SEED: THE CARDS: each row of YtehjdamdlokoaaaDoorRows.lean that lists a variable, with what it lists TIED to the program's text (the seventh form; the later family's looks); each row that meets fmt, with fmt's text TOLD by the authors' own Lean function (tested against real Go, not proved from fmt's source: count such statements apart). THE CARD IS WHAT COUNTS. Prove the row's statement (the work); the ties are given (YtehjdamdlokoaaaDoorTie.lean); close each card by the builder's one call (the guide's Derived/Test/ToyasCard.lean, 'card_holds'). Laid BY PROGRAM, IN A SANDBOX (cutbox-door.mjs). By AI agents, Wed Nov 11 2026. No macro, syntax, notation, axiom, sorry.
-/
import Derived.Test.YtehjdamdlokoaaaDoorRows
import GoSem.ClaimSeven
namespace Go.Proofs.YtehjdamdlokoaaaDoor
namespace Rows

/-- THE TIED CARD OF 'roundelaylaw05.KeyPuts'. -/
def keyPutsCard : Claim7 := { stood := { row := keyPutsRow, standIns := [], harness := (true, "82e08a8036e1e06967ece5a9ebd38c6213e7f11d29d0aeb831653046e6dbc73f"), looks := false }, kinds := [], alts := [], laidByText := true, laidKinds := [.data, .data, .data, .pinned], laidTests := true, laidLooks := .later }
def KeyPutsCardSaid : Prop := Claim7.holds Tryd.pinned (.plain (OpenSpec.ofChange keyPutsSpec)) keyPutsCard

/-- THE TIED CARD OF 'roundelaylaw05.KeyOrder'. -/
def keyOrderCard : Claim7 := { stood := { row := keyOrderRow, standIns := [], harness := (true, "82e08a8036e1e06967ece5a9ebd38c6213e7f11d29d0aeb831653046e6dbc73f"), looks := false }, kinds := [], alts := [], laidByText := true, laidKinds := [.data, .data, .data, .pinned], laidTests := true, laidLooks := .later }
def KeyOrderCardSaid : Prop := Claim7.holds Tryd.pinned (.plain (OpenSpec.ofChange keyOrderSpec)) keyOrderCard

/-- THE TIED CARD OF 'roundelaylaw05.KeyBack'. -/
def keyBackCard : Claim7 := { stood := { row := keyBackRow, standIns := [], harness := (true, "82e08a8036e1e06967ece5a9ebd38c6213e7f11d29d0aeb831653046e6dbc73f"), looks := false }, kinds := [], alts := [], laidByText := true, laidKinds := [.data, .data, .data, .pinned], laidTests := true, laidLooks := .later }
def KeyBackCardSaid : Prop := Claim7.holds Tryd.pinned (.plain (OpenSpec.ofChange keyBackSpec)) keyBackCard

/-- THE TIED CARD OF 'roundelaylaw05.KeyGets'. -/
def keyGetsCard : Claim7 := { stood := { row := keyGetsRow, standIns := [], harness := (true, "82e08a8036e1e06967ece5a9ebd38c6213e7f11d29d0aeb831653046e6dbc73f"), looks := false }, kinds := [], alts := [], laidByText := true, laidKinds := [.data, .data, .data, .pinned], laidTests := true, laidLooks := .later }
def KeyGetsCardSaid : Prop := Claim7.holds Tryd.pinned (.plain (OpenSpec.ofChange keyGetsSpec)) keyGetsCard

/-- THE TIED CARD OF 'roundelaylaw05.KeyApart'. -/
def keyApartCard : Claim7 := { stood := { row := keyApartRow, standIns := [], harness := (true, "82e08a8036e1e06967ece5a9ebd38c6213e7f11d29d0aeb831653046e6dbc73f"), looks := false }, kinds := [], alts := [], laidByText := true, laidKinds := [.data, .data, .data, .pinned], laidTests := true, laidLooks := .later }
def KeyApartCardSaid : Prop := Claim7.holds Tryd.pinned (.plain (OpenSpec.ofChange keyApartSpec)) keyApartCard

/-- THE TIED CARD OF 'roundelaylaw05.KeyBehind'. -/
def keyBehindCard : Claim7 := { stood := { row := keyBehindRow, standIns := [], harness := (true, "82e08a8036e1e06967ece5a9ebd38c6213e7f11d29d0aeb831653046e6dbc73f"), looks := false }, kinds := [], alts := [], laidByText := true, laidKinds := [.data, .pinned], laidTests := true, laidLooks := .later }
def KeyBehindCardSaid : Prop := Claim7.holds Tryd.pinned (.plain (OpenSpec.ofChange keyBehindSpec)) keyBehindCard

/-- THE SECOND FORM's CARD OF 'roundelaylaw05.KeyPuts'. -/
def keyPutsUptoCard : Claim7 := { stood := { row := keyPutsUptoRow, standIns := [], harness := (true, "82e08a8036e1e06967ece5a9ebd38c6213e7f11d29d0aeb831653046e6dbc73f"), looks := false }, kinds := [], alts := [], laidByText := true, laidKinds := [.data, .data, .data, .pinned], laidTests := true, laidLooks := .later }
def KeyPutsUptoCardSaid : Prop := Claim7.holds Tryd.pinned (.plain (OpenSpec.upto keyPutsSpec)) keyPutsUptoCard

/-- THE SECOND FORM's CARD OF 'roundelaylaw05.KeyOrder'. -/
def keyOrderUptoCard : Claim7 := { stood := { row := keyOrderUptoRow, standIns := [], harness := (true, "82e08a8036e1e06967ece5a9ebd38c6213e7f11d29d0aeb831653046e6dbc73f"), looks := false }, kinds := [], alts := [], laidByText := true, laidKinds := [.data, .data, .data, .pinned], laidTests := true, laidLooks := .later }
def KeyOrderUptoCardSaid : Prop := Claim7.holds Tryd.pinned (.plain (OpenSpec.upto keyOrderSpec)) keyOrderUptoCard

/-- THE SECOND FORM's CARD OF 'roundelaylaw05.KeyBack'. -/
def keyBackUptoCard : Claim7 := { stood := { row := keyBackUptoRow, standIns := [], harness := (true, "82e08a8036e1e06967ece5a9ebd38c6213e7f11d29d0aeb831653046e6dbc73f"), looks := false }, kinds := [], alts := [], laidByText := true, laidKinds := [.data, .data, .data, .pinned], laidTests := true, laidLooks := .later }
def KeyBackUptoCardSaid : Prop := Claim7.holds Tryd.pinned (.plain (OpenSpec.upto keyBackSpec)) keyBackUptoCard

/-- THE SECOND FORM's CARD OF 'roundelaylaw05.KeyGets'. -/
def keyGetsUptoCard : Claim7 := { stood := { row := keyGetsUptoRow, standIns := [], harness := (true, "82e08a8036e1e06967ece5a9ebd38c6213e7f11d29d0aeb831653046e6dbc73f"), looks := false }, kinds := [], alts := [], laidByText := true, laidKinds := [.data, .data, .data, .pinned], laidTests := true, laidLooks := .later }
def KeyGetsUptoCardSaid : Prop := Claim7.holds Tryd.pinned (.plain (OpenSpec.upto keyGetsSpec)) keyGetsUptoCard

/-- THE SECOND FORM's CARD OF 'roundelaylaw05.KeyApart'. -/
def keyApartUptoCard : Claim7 := { stood := { row := keyApartUptoRow, standIns := [], harness := (true, "82e08a8036e1e06967ece5a9ebd38c6213e7f11d29d0aeb831653046e6dbc73f"), looks := false }, kinds := [], alts := [], laidByText := true, laidKinds := [.data, .data, .data, .pinned], laidTests := true, laidLooks := .later }
def KeyApartUptoCardSaid : Prop := Claim7.holds Tryd.pinned (.plain (OpenSpec.upto keyApartSpec)) keyApartUptoCard

/-- THE SECOND FORM's CARD OF 'roundelaylaw05.KeyBehind'. -/
def keyBehindUptoCard : Claim7 := { stood := { row := keyBehindUptoRow, standIns := [], harness := (true, "82e08a8036e1e06967ece5a9ebd38c6213e7f11d29d0aeb831653046e6dbc73f"), looks := false }, kinds := [], alts := [], laidByText := true, laidKinds := [.data, .pinned], laidTests := true, laidLooks := .later }
def KeyBehindUptoCardSaid : Prop := Claim7.holds Tryd.pinned (.plain (OpenSpec.upto keyBehindSpec)) keyBehindUptoCard
end Rows
end Go.Proofs.YtehjdamdlokoaaaDoor
