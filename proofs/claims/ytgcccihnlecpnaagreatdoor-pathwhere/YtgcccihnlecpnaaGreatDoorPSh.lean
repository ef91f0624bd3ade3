/-
  What the walks of stage 6's laws share. No conditions beyond those stated.
-/
import Derived.Test.YtgcccihnlecpnaaGreatDoorPLFind
import Derived.Test.YtgcccihnlecpnaaGreatDoorPWay
import Derived.Test.YtgcccihnlecpnaaGreatDoorPPut
import Derived.Test.YtgcccihnlecpnaaGreatDoorPAw
import Derived.Test.YtgcccihnlecpnaaGreatDoorVSD
namespace Go.Proofs.YtgcccihnlecpnaaGreatDoor
open Go.RowKit

theorem boxed {w W : World} {O : Obj} (h : w.alloc O = W) : Below w.heap.size w W ∧ W.heap[w.heap.size]? = some O := by
  subst h
  exact ⟨(Below.refl _ _).alloc (Nat.le_refl _) _, heap_alloc_new w O⟩
theorem Fit.le {N : Nat} : ∀ {m n : Nat} {v : V}, m ≤ n → Fit N n v → Fit N m v
  | 0, _, _, _, _ => trivial
  | m + 1, 0, _, h, _ => by omega
  | m + 1, n + 1, _, h, ⟨h1, h2, h3, h4⟩ => ⟨h1, h2, fun x hx => Fit.le (by omega) (h3 x hx), fun p hp => Fit.le (by omega) (h4 p hp)⟩
theorem Ten.le : ∀ {m n : Nat} {v : V}, m ≤ n → Ten n v → Ten m v
  | 0, _, _, _, _ => trivial
  | m + 1, 0, _, h, _ => by omega
  | m + 1, n + 1, _, h, ⟨h1, h3, h4⟩ => ⟨h1, fun x hx => Ten.le (by omega) (h3 x hx), fun p hp => Ten.le (by omega) (h4 p hp)⟩
theorem nice_fit : ∀ (n : Nat) (v : V), Nice n v → Fit 4 (n + 1) v
  | 0, v, ⟨_, _, _, _, h5, h6⟩ => ⟨by rw [h6]; trivial, by rw [h6]; decide, fun x hx => (by rw [h5] at hx; cases hx), fun p hp => (by rw [h6] at hp; cases hp)⟩
  | n + 1, v, ⟨_, _, _, _, h5, h6, h7, h8, h9⟩ => ⟨h7, h6, fun x hx => nice_fit n x (h8 x hx), fun p hp => nice_fit n p.2 (h9 p hp).2⟩
theorem nice_ten : ∀ (n : Nat) (v : V), Nice n v → Ten (n + 1) v
  | 0, v, ⟨_, _, _, _, h5, h6⟩ => ⟨by rw [h5]; decide, fun x hx => (by rw [h5] at hx; cases hx), fun p hp => (by rw [h6] at hp; cases hp)⟩
  | n + 1, v, ⟨_, _, _, _, h5, h6, h7, h8, h9⟩ => ⟨by omega, fun x hx => nice_ten n x (h8 x hx), fun p hp => nice_ten n p.2 (h9 p hp).2⟩
theorem way_len (bs : List UInt8) : (wayOf bs).length ≤ 4 := by
  unfold wayOf; rw [List.length_map, List.length_take]; omega
theorem wayAt_size (i : Nat) : (wayAt i).size ≤ 2 := by
  unfold wayAt
  split <;> decide
theorem way_size (bs : List UInt8) : ∀ p ∈ wayOf bs, p.size ≤ 1099511627776 := by
  intro p hp
  obtain ⟨b, _, rfl⟩ := List.mem_map.1 hp
  have := wayAt_size b.toNat
  omega
/-- values that are the same. -/
theorem same_any {m1 m2 : Nat} {x : V} {la fa lb fb : Value} {w : World} (ha : Lies m1 w x la fa) (hb : Lies m2 w x lb fb) :
    Calls Tryz.prog 12 #[.agg #[.int .i64 x.kind, .int .i64 x.num, .string x.text, la, fa], .agg #[.int .i64 x.kind, .int .i64 x.num, .string x.text, lb, fb]] w fun e w' => e = .returned (.bool true) ∧ Below w.heap.size w w' :=
  same_refl (Rep.le ha (Nat.le_max_left m1 m2)) (Rep.le hb (Nat.le_max_right m1 m2))
end Go.Proofs.YtgcccihnlecpnaaGreatDoor
