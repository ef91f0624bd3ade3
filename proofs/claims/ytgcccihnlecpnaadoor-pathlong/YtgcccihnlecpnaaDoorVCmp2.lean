/-
  slices.CompareFunc at fields by its contract. No conditions beyond those stated.
-/
import Derived.Test.YtgcccihnlecpnaaDoorVCmp1
namespace Go.Proofs.YtgcccihnlecpnaaDoor
open Go.RowKit

end Go.Proofs.YtgcccihnlecpnaaDoor
