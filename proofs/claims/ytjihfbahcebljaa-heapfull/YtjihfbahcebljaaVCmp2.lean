/-
  slices.CompareFunc at fields by its contract. No conditions beyond those stated.
-/
import Derived.Test.YtjihfbahcebljaaVCmp1
namespace Go.Proofs.Ytjihfbahcebljaa
open Go.RowKit

end Go.Proofs.Ytjihfbahcebljaa
