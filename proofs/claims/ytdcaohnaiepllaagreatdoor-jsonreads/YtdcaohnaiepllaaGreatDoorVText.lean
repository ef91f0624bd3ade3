/-
  package text's Valid by its contract: a text is UTF-8. Condition: the tables of package utf8 lie as they are laid.
-/
import Derived.Test.YtdcaohnaiepllaaGreatDoorVCmp3
import Derived.Shelf.Unicode.ValidAny
import Derived.Lib.OthersKept
namespace Go.Proofs
open Go.Shelf
end Go.Proofs
namespace Go.Proofs.YtdcaohnaiepllaaGreatDoor
open Go.RowKit

def U8 (w : World) : Prop := Lib.Utf8Tabs 7 8 w

end Go.Proofs.YtdcaohnaiepllaaGreatDoor
