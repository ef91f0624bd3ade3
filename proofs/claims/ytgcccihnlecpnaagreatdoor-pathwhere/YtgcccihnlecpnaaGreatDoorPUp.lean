/-
  Values that the law makes: names rise all through; the few words of a way, and their places. No conditions beyond those stated.
-/
import Derived.Test.YtgcccihnlecpnaaGreatDoorPPure2
import Derived.Test.YtgcccihnlecpnaaGreatDoorVMade1
namespace Go.Proofs.YtgcccihnlecpnaaGreatDoor
open Go.RowKit

theorem Nice.up : ∀ (n : Nat) (v : V), Nice n v → Up (n + 1) v
  | 0, v, h => by
    obtain ⟨_, _, _, _, h5, h6⟩ := h
    refine ⟨by rw [h6]; trivial, fun x hx => ?_, fun p hp => ?_⟩
    · rw [h5] at hx; cases hx
    · rw [h6] at hp; cases hp
  | n + 1, v, h => by
    obtain ⟨_, _, _, _, _, _, h7, h8, h9⟩ := h
    exact ⟨h7, fun x hx => Nice.up n x (h8 x hx), fun p hp => Nice.up n p.2 (h9 p hp).2⟩
/-- the words that a way is made of. -/
def wayAt (i : Nat) : ByteArray := match i % 10 with
  | 0 => ⟨#[97]⟩ | 1 => ⟨#[98]⟩ | 2 => ⟨#[99]⟩ | 3 => ⟨#[110]⟩ | 4 => ⟨#[48]⟩ | 5 => ⟨#[49]⟩ | 6 => ⟨#[50]⟩ | 7 => ⟨#[48, 48]⟩ | 8 => ⟨#[120]⟩ | _ => ⟨#[45, 49]⟩
/-- those of which the law asks. -/
def askAt (i : Nat) : ByteArray := match i with
  | 0 => ⟨#[97]⟩ | 1 => ⟨#[98]⟩ | 2 => ⟨#[99]⟩ | 3 => ⟨#[110]⟩ | 4 => ⟨#[48]⟩ | 5 => ⟨#[49]⟩ | 6 => ⟨#[50]⟩ | _ => ⟨#[120]⟩
theorem itoa0 : Lib.itoa 0 = [48] := by unfold Lib.itoa; rw [if_neg (by decide)]; show Lib.decDigits 0 = _; rw [Lib.decDigits]; rfl
theorem itoa1 : Lib.itoa 1 = [49] := by unfold Lib.itoa; rw [if_neg (by decide)]; show Lib.decDigits 1 = _; rw [Lib.decDigits]; rfl
theorem itoa2 : Lib.itoa 2 = [50] := by unfold Lib.itoa; rw [if_neg (by decide)]; show Lib.decDigits 2 = _; rw [Lib.decDigits]; rfl
theorem place0 : placeOf ⟨#[48]⟩ = some 0 := by
  show (if 0 ≤ (0 : Int) ∧ Lib.itoa 0 = [48] then some (0 : Int).toNat else none) = _
  rw [itoa0]; rfl
theorem place1 : placeOf ⟨#[49]⟩ = some 1 := by
  show (if 0 ≤ (1 : Int) ∧ Lib.itoa 1 = [49] then some (1 : Int).toNat else none) = _
  rw [itoa1]; rfl
theorem place2 : placeOf ⟨#[50]⟩ = some 2 := by
  show (if 0 ≤ (2 : Int) ∧ Lib.itoa 2 = [50] then some (2 : Int).toNat else none) = _
  rw [itoa2]; rfl
theorem place00 : placeOf ⟨#[48, 48]⟩ = none := by
  show (if 0 ≤ (0 : Int) ∧ Lib.itoa 0 = [48, 48] then some (0 : Int).toNat else none) = _
  rw [itoa0]; rfl
theorem way_place (i : Nat) : placeOf (wayAt i) = if i % 10 = 4 then some 0 else if i % 10 = 5 then some 1 else if i % 10 = 6 then some 2 else none := by
  have h : i % 10 < 10 := Nat.mod_lt _ (by decide)
  unfold wayAt
  generalize i % 10 = k at *
  rcases (by omega : k = 0 ∨ k = 1 ∨ k = 2 ∨ k = 3 ∨ k = 4 ∨ k = 5 ∨ k = 6 ∨ k = 7 ∨ k = 8 ∨ k = 9) with rfl | rfl | rfl | rfl | rfl | rfl | rfl | rfl | rfl | rfl <;> first | rfl | exact place0 | exact place1 | exact place2 | exact place00
theorem ask_place (i : Nat) (hi : i < 8) : placeOf (askAt i) = if i = 4 then some 0 else if i = 5 then some 1 else if i = 6 then some 2 else none := by
  rcases (by omega : i = 0 ∨ i = 1 ∨ i = 2 ∨ i = 3 ∨ i = 4 ∨ i = 5 ∨ i = 6 ∨ i = 7) with rfl | rfl | rfl | rfl | rfl | rfl | rfl | rfl <;> first | rfl | exact place0 | exact place1 | exact place2
/-- two of them that are not the same have not the same place. -/
theorem ask_apart (i j : Nat) (hi : i < 8) (h : ¬ cmpT (askAt i) (wayAt j) = 0) : ∀ k, placeOf (wayAt j) = some k → placeOf (askAt i) ≠ some k := by
  intro k hk hq
  apply h
  rw [way_place] at hk
  rw [ask_place i hi] at hq
  have hj : j % 10 < 10 := Nat.mod_lt _ (by decide)
  have e : (j % 10 = 4 ∧ k = 0) ∨ (j % 10 = 5 ∧ k = 1) ∨ (j % 10 = 6 ∧ k = 2) := by
    repeat' split at hk
    all_goals simp at hk
    all_goals omega
  have e2 : (i = 4 ∧ k = 0) ∨ (i = 5 ∧ k = 1) ∨ (i = 6 ∧ k = 2) := by
    repeat' split at hq
    all_goals simp at hq
    all_goals omega
  unfold wayAt
  rcases e with ⟨ej, rfl⟩ | ⟨ej, rfl⟩ | ⟨ej, rfl⟩
  · obtain rfl : i = 4 := by omega
    rw [ej]; exact good_cmpT.refl _
  · obtain rfl : i = 5 := by omega
    rw [ej]; exact good_cmpT.refl _
  · obtain rfl : i = 6 := by omega
    rw [ej]; exact good_cmpT.refl _
end Go.Proofs.YtgcccihnlecpnaaGreatDoor
