/-
  What the walks of stage 3's laws share: quiet regions, and the program's Cmp and Same by the number that they answer. No conditions beyond those stated.
-/
import Derived.Test.YtjihfbahcebljaaVCmp3
import Derived.Test.YtjihfbahcebljaaVGet
import Derived.Lib.QuietBelow
import Derived.BigQuiet
namespace Go.Proofs.Ytjihfbahcebljaa
open Go.RowKit

theorem mixed : Try.prog.follows .mixedOrders = true := by kernel_rfl
theorem below_regrown_cell {w : World} {b o : Nat} {v : Value} (h : w.cell? ⟨b, o, none⟩ = some v) (d : Nat) (os : Array Obj) : (Go.Sort.grow (redrawn w d) os).cell? ⟨b, o, none⟩ = some v := cell_regrown h d os

theorem cmpI_range (a b : Int) : -1 ≤ cmpI a b ∧ cmpI a b ≤ 1 := by unfold cmpI; repeat' split <;> omega
theorem cmpL_range {α : Type} {f : α → α → Int} (h : ∀ a b, -1 ≤ f a b ∧ f a b ≤ 1) : ∀ a b, -1 ≤ cmpL f a b ∧ cmpL f a b ≤ 1
  | [], [] => by simp [cmpL]
  | [], _ :: _ => by simp [cmpL]
  | _ :: _, [] => by simp [cmpL]
  | x :: xs, y :: ys => by
    simp only [cmpL]
    split
    · exact cmpL_range h xs ys
    · exact h x y
theorem cmpV_range : ∀ (n : Nat) (a b : V), -1 ≤ cmpV n a b ∧ cmpV n a b ≤ 1
  | 0, _, _ => by simp [cmpV]
  | n + 1, a, b => by
    have hT : ∀ p q, -1 ≤ cmpT p q ∧ cmpT p q ≤ 1 := fun p q => by have := cmpB_range p.toList q.toList; unfold cmpT; omega
    simp only [cmpV]
    split
    · split
      · exact cmpI_range _ _
      · split
        · exact hT _ _
        · split
          · exact cmpL_range (cmpV_range n) _ _
          · split
            · refine cmpL_range (fun p q => ?_) _ _
              unfold cmpF
              split
              · exact cmpV_range n _ _
              · exact hT _ _
            · omega
    · exact cmpI_range _ _

end Go.Proofs.Ytjihfbahcebljaa
