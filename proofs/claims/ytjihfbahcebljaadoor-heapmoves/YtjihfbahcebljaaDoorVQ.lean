/-
  What the walks of stage 3's laws share: quiet regions, and the program's Cmp and Same by the number that they answer. No conditions beyond those stated.
-/
import Derived.Test.YtjihfbahcebljaaDoorVCmp3
import Derived.Test.YtjihfbahcebljaaDoorVGet
import Derived.Lib.QuietBelow
import Derived.BigQuiet
namespace Go.Proofs.YtjihfbahcebljaaDoor
open Go.RowKit

theorem mixed : Tryd.prog.follows .mixedOrders = true := by kernel_rfl
theorem below_regrown_cell {w : World} {b o : Nat} {v : Value} (h : w.cell? ⟨b, o, none⟩ = some v) (d : Nat) (os : Array Obj) : (Go.Sort.grow (redrawn w d) os).cell? ⟨b, o, none⟩ = some v := cell_regrown h d os

theorem cmpI_range (a b : Int) : -1 ≤ cmpI a b ∧ cmpI a b ≤ 1 := by unfold cmpI; repeat' split <;> omega
theorem cmpL_range {α : Type} {f : α → α → Int} (h : ∀ a b, -1 ≤ f a b ∧ f a b ≤ 1) : ∀ a b, -1 ≤ cmpL f a b ∧ cmpL f a b ≤ 1
  | [], [] => by simp [cmpL]
  | [], _ :: _ => by simp [cmpL]
  | _ :: _, [] => by simp [cmpL]
  | x :: xs, y :: ys => by
    simp only [cmpL]
    split
    · exact cmpL_range h xs ys
    · exact h x y
theorem cmpV_range : ∀ (n : Nat) (a b : V), -1 ≤ cmpV n a b ∧ cmpV n a b ≤ 1
  | 0, _, _ => by simp [cmpV]
  | n + 1, a, b => by
    have hT : ∀ p q, -1 ≤ cmpT p q ∧ cmpT p q ≤ 1 := fun p q => by have := cmpB_range p.toList q.toList; unfold cmpT; omega
    simp only [cmpV]
    split
    · split
      · exact cmpI_range _ _
      · split
        · exact hT _ _
        · split
          · exact cmpL_range (cmpV_range n) _ _
          · split
            · refine cmpL_range (fun p q => ?_) _ _
              unfold cmpF
              split
              · exact cmpV_range n _ _
              · exact hT _ _
            · omega
    · exact cmpI_range _ _

theorem VCmp_is {n : Nat} {a b : V} {la fa lb fb : Value} {w : World} {r : Int} (hr : cmpV (n + 1) a b = r) (ha : Lies n w a la fa) (hb : Lies n w b lb fb) :
    Calls Tryd.prog 22 #[.agg #[.int .i64 a.kind, .int .i64 a.num, .string a.text, la, fa], .agg #[.int .i64 b.kind, .int .i64 b.num, .string b.text, lb, fb]] w fun e w' => e = .returned (.int .i64 r) ∧ Below w.heap.size w w' := by
  rw [← hr]; exact VCmp_any n a b la fa lb fb w ha hb
theorem Same_is {n : Nat} {a b : V} {la fa lb fb : Value} {w : World} (hr : cmpV (n + 1) a b = 0) (ha : Lies n w a la fa) (hb : Lies n w b lb fb) :
    Calls Tryd.prog 14 #[.agg #[.int .i64 a.kind, .int .i64 a.num, .string a.text, la, fa], .agg #[.int .i64 b.kind, .int .i64 b.num, .string b.text, lb, fb]] w fun e w' => e = .returned (.bool true) ∧ Below w.heap.size w w' := by
  have h := Same_any n a b la fa lb fb w ha hb
  rw [hr] at h; exact h

end Go.Proofs.YtjihfbahcebljaaDoor
