/-
  slices.BinarySearchFunc over fields whose names rise. Conditions: as stated.
-/
import Derived.Test.YtehjdamdlokoaaaDoorVCmp3
import Derived.Test.YtehjdamdlokoaaaDoorVQ
namespace Go.Proofs.YtehjdamdlokoaaaDoor
open Go.RowKit

/-- how many names stand ahead of one. -/
def aheadN (name : ByteArray) : List (ByteArray × V) → Nat
  | [] => 0
  | f :: fs => if cmpT f.1 name < 0 then aheadN name fs + 1 else 0

end Go.Proofs.YtehjdamdlokoaaaDoor
