/-
  package value's Depth by its contract. No conditions beyond those stated.
-/
import Derived.Test.YtdcaohnaiepllaaGreatDoorVCmp3
namespace Go.Proofs.YtdcaohnaiepllaaGreatDoor
open Go.RowKit

def maxI : Int → List Int → Int
  | m, [] => m
  | m, x :: xs => maxI (max m x) xs
/-- how deep a value is, so deep. -/
def depthV : Nat → V → Int
  | 0, _ => 1
  | n + 1, v => 1 + (if v.kind = 4 then maxI 0 (v.list.map (depthV n)) else if v.kind = 5 then maxI 0 (v.fields.map fun p => depthV n p.2) else 0)
theorem maxI_bound (b : Int) : ∀ (l : List Int) (m : Int), m ≤ b → (∀ x ∈ l, x ≤ b) → m ≤ maxI m l ∧ maxI m l ≤ b
  | [], m, h, _ => ⟨Int.le_refl _, h⟩
  | x :: xs, m, h, hx => by
    have hx0 := hx x (by simp)
    have := maxI_bound b xs (max m x) (by omega) fun y hy => hx y (by simp [hy])
    simp only [maxI]
    exact ⟨by omega, this.2⟩
theorem depthV_bound : ∀ (n : Nat) (v : V), 1 ≤ depthV n v ∧ depthV n v ≤ n + 1
  | 0, _ => by simp [depthV]
  | n + 1, v => by
    simp only [depthV]
    split
    · have := maxI_bound ((n : Int) + 1) (v.list.map (depthV n)) 0 (by omega) (fun x hx => by obtain ⟨y, _, rfl⟩ := List.mem_map.1 hx; exact (depthV_bound n y).2)
      omega
    · split
      · have := maxI_bound ((n : Int) + 1) (v.fields.map fun p => depthV n p.2) 0 (by omega) (fun x hx => by obtain ⟨y, _, rfl⟩ := List.mem_map.1 hx; exact (depthV_bound n y.2).2)
        omega
      · omega
theorem maxI_snoc : ∀ (l : List Int) (m x : Int), maxI m (l ++ [x]) = max (maxI m l) x
  | [], _, _ => rfl
  | y :: l, m, x => by simp only [List.cons_append, maxI]; exact maxI_snoc l _ x

end Go.Proofs.YtdcaohnaiepllaaGreatDoor
