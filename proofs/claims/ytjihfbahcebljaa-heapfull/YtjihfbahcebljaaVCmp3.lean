/-
  package value's Cmp, Same by their contracts: how two values stand to one another, so deep. No conditions beyond those stated.
-/
import Derived.Test.YtjihfbahcebljaaVCmp2
import Derived.Shelf.Abstract
namespace Go.Proofs.Ytjihfbahcebljaa
open Go.RowKit

/-- one level of the order. -/
def cmpStep (c : V → V → Int) (a b : V) : Int :=
  if a.kind = b.kind then
    (if a.kind = 1 ∨ a.kind = 2 then cmpI a.num b.num
     else if a.kind = 3 then cmpT a.text b.text
     else if a.kind = 4 then cmpL c a.list b.list
     else if a.kind = 5 then cmpL (cmpF c) a.fields b.fields
     else 0)
  else cmpI a.kind b.kind
theorem cmpV_step (n : Nat) (a b : V) : cmpV (n + 1) a b = cmpStep (cmpV n) a b := rfl

theorem Rep.shape {ok : Nat → Prop} {W : World} {n : Nat} {v : V} {l f : Value} (h : Rep ok n W v l f) : ∃ a1 n1 c1 a2 n2 c2, l = .slice a1 n1 c1 ∧ f = .slice a2 n2 c2 := by
  obtain ⟨a, b, c, d, e1, e2⟩ := h.slices
  exact ⟨a, _, b, c, _, d, e1, e2⟩
end Go.Proofs.Ytjihfbahcebljaa
