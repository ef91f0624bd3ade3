/-
  cmp.Compare, strings.Compare, slices.CompareFunc at values and at fields, by their contracts. No conditions beyond those stated.
-/
import Derived.Test.YtjihfbahcebljaaVMem
import Derived.Lib.Bytealg
import Derived.Deep.LoopGhost
import Derived.WalkLawsBesides
import Derived.Lib.Walk
namespace Go.Proofs.Ytjihfbahcebljaa
open Go.RowKit

theorem cmpN_any (a b : Int) (w : World) : Calls Try.prog 18 #[.int .i64 a, .int .i64 b] w fun e w' => e = .returned (.int .i64 (cmpI a b)) ∧ w' = w := by
  unfold cmpI
  by_cases h1 : a < b
  · rw [if_pos h1]
    go_enter Try.func18, Try.ntmps18
    go_wp2
    go_ret
    exact ⟨rfl, rfl⟩
  · rw [if_neg h1]
    by_cases h2 : b < a
    · rw [if_pos h2]
      go_enter Try.func18, Try.ntmps18
      go_wp2
      go_ret
      exact ⟨rfl, rfl⟩
    · rw [if_neg h2]
      go_enter Try.func18, Try.ntmps18
      go_wp2
      go_ret
      exact ⟨rfl, rfl⟩

theorem compareBytes_eq : ∀ a b, Lib.compareBytes a b = cmpB a b
  | [], [] => rfl
  | [], _ :: _ => rfl
  | _ :: _, [] => rfl
  | x :: xs, y :: ys => by
    simp only [Lib.compareBytes, cmpB, compareBytes_eq xs ys, UInt8.lt_iff_toNat_lt]
theorem cmpT_data (a b : ByteArray) : cmpT a b = cmpB a.data.toList b.data.toList := by
  unfold cmpT
  rw [Lib.toList_data, Lib.toList_data]

theorem cmpL_drop {α : Type} (f : α → α → Int) : ∀ (k : Nat) (a b : List α), k ≤ a.length → k ≤ b.length → (∀ j x y, j < k → a[j]? = some x → b[j]? = some y → f x y = 0) → cmpL f a b = cmpL f (a.drop k) (b.drop k)
  | 0, _, _, _, _, _ => rfl
  | k + 1, [], _, h, _, _ => by simp at h
  | k + 1, _ :: _, [], _, h, _ => by simp at h
  | k + 1, x :: a, y :: b, h1, h2, h => by
    have h0 := h 0 x y (by omega) rfl rfl
    simp only [cmpL, if_pos h0, List.drop_succ_cons]
    exact cmpL_drop f k a b (by simpa using h1) (by simpa using h2) fun j u v hj hu hv => h (j + 1) u v (by omega) (by simpa using hu) (by simpa using hv)

theorem cmpL_hit {α : Type} (f : α → α → Int) (k : Nat) (a b : List α) (x y : α) (hx : a[k]? = some x) (hy : b[k]? = some y) (h : ∀ j x y, j < k → a[j]? = some x → b[j]? = some y → f x y = 0) (h0 : ¬ f x y = 0) : cmpL f a b = f x y := by
  have ha := (List.getElem?_eq_some_iff.1 hx).1
  have hb := (List.getElem?_eq_some_iff.1 hy).1
  rw [cmpL_drop f k a b (by omega) (by omega) h]
  have e1 : a.drop k = x :: a.drop (k + 1) := by rw [List.drop_eq_getElem_cons ha]; congr 1; exact (List.getElem?_eq_some_iff.1 hx).2
  have e2 : b.drop k = y :: b.drop (k + 1) := by rw [List.drop_eq_getElem_cons hb]; congr 1; exact (List.getElem?_eq_some_iff.1 hy).2
  rw [e1, e2]
  simp only [cmpL, if_neg h0]
theorem cmpL_more {α : Type} (f : α → α → Int) (k : Nat) (a b : List α) (ha : k < a.length) (hb : k = b.length) (h : ∀ j x y, j < k → a[j]? = some x → b[j]? = some y → f x y = 0) : cmpL f a b = 1 := by
  rw [cmpL_drop f k a b (by omega) (by omega) h]
  have e1 : a.drop k = a[k] :: a.drop (k + 1) := List.drop_eq_getElem_cons ha
  have e2 : b.drop k = [] := List.drop_of_length_le (by omega)
  rw [e1, e2]
  rfl
theorem cmpL_end {α : Type} (f : α → α → Int) (k : Nat) (a b : List α) (ha : k = a.length) (hb : k ≤ b.length) (h : ∀ j x y, j < k → a[j]? = some x → b[j]? = some y → f x y = 0) : cmpL f a b = if a.length < b.length then -1 else 0 := by
  rw [cmpL_drop f k a b (by omega) (by omega) h]
  have e1 : a.drop k = [] := List.drop_of_length_le (by omega)
  rw [e1]
  by_cases hl : a.length < b.length
  · have e2 : b.drop k = b[k] :: b.drop (k + 1) := List.drop_eq_getElem_cons (by omega)
    rw [e2, if_pos hl]; rfl
  · have e2 : b.drop k = [] := List.drop_of_length_le (by omega)
    rw [e2, if_neg hl]; rfl

end Go.Proofs.Ytjihfbahcebljaa
