/-
  What is read of a key does not hang on what stands behind it: plain. Conditions: as stated.
-/
import Derived.Test.YtehjdamdlokoaaaDoorKR
namespace Go.Proofs.YtehjdamdlokoaaaDoor
open Go.RowKit

/-- what follows stays. -/
def More {α : Type} (f : List UInt8 → Option (α × List UInt8)) : Prop := f [] = none ∧ ∀ l p, f l = some p → ∀ s, f (l ++ s) = some (p.1, p.2 ++ s)
theorem ktext_more : ∀ (m : Nat) (l : List UInt8), l.length ≤ m → ∀ p, ktextP l = some p → ∀ s, ktextP (l ++ s) = some (p.1, p.2 ++ s)
  | _, [], _, p, h, _ => by rw [ktextP_nil] at h; cases h
  | 0, _ :: _, hm, _, _, _ => by simp at hm
  | m + 1, c :: r, hm, p, h, s => by
    simp only [List.length_cons] at hm
    by_cases h0 : c = 0
    · subst h0
      rcases r with _ | ⟨d, r⟩
      · rw [ktextP_zero_nil] at h; cases h
      · simp only [List.length_cons] at hm
        by_cases h1 : d = 1
        · subst h1
          rw [ktextP_shut] at h
          cases h
          exact ktextP_shut _
        · by_cases h2 : d = 255
          · subst h2
            rw [ktextP_stays] at h
            obtain ⟨q, hq, rfl⟩ := Option.map_eq_some_iff.1 h
            have := ktext_more m r (by omega) q hq s
            show ktextP (0 :: 255 :: (r ++ s)) = _
            rw [ktextP_stays, this]; rfl
          · rw [ktextP_bad d r h1 h2] at h; cases h
    · rw [ktextP_more c r h0] at h
      obtain ⟨q, hq, rfl⟩ := Option.map_eq_some_iff.1 h
      have := ktext_more m r (by omega) q hq s
      show ktextP (c :: (r ++ s)) = _
      rw [ktextP_more c _ h0, this]; rfl
theorem row_more {α : Type} {f : List UInt8 → Option (α × List UInt8)} (hf : More f) : ∀ (m : Nat) (l : List UInt8) (p : List α × List UInt8), rowK f m l = some p → ∀ s m', m ≤ m' → rowK f m' (l ++ s) = some (p.1, p.2 ++ s)
  | 0, _, _, h, _, _, _ => by simp [rowK] at h
  | m + 1, l, p, h, s, 0, hm => by omega
  | m + 1, l, p, h, s, m' + 1, hm => by
    rcases l with _ | ⟨c, l⟩
    · unfold rowK at h
      rw [if_neg (by simp), hf.1] at h
      cases h
    · by_cases h0 : (c :: l).head? = some 0
      · rw [rowK, if_pos h0] at h
        cases h
        rw [rowK, if_pos (by simpa using h0)]
        rfl
      · rw [rowK, if_neg h0] at h
        rw [rowK, if_neg (by simpa using h0)]
        rcases hq : f (c :: l) with _ | q
        · rw [hq] at h; cases h
        · rw [hq] at h
          rw [hf.2 _ q hq s]
          obtain ⟨q', hq', rfl⟩ := Option.map_eq_some_iff.1 h
          have := row_more hf m q.2 q' hq' s m' (by omega)
          simp only [this]
          rfl
theorem field_more {f : List UInt8 → Option (V × List UInt8)} (hf : More f) : More (fieldK f) := by
  refine ⟨by simp [fieldK], fun l p h s => ?_⟩
  rcases l with _ | ⟨c, l⟩
  · simp [fieldK] at h
  · by_cases h0 : (c :: l).head? = some 1
    · rw [fieldK, if_pos h0] at h
      rw [fieldK, if_pos (by simpa using h0)]
      simp only [List.tail_cons, List.cons_append] at h ⊢
      rcases hq : ktextP l with _ | q
      · rw [hq] at h; cases h
      · rw [hq] at h
        rw [ktext_more _ l (Nat.le_refl _) q hq s]
        obtain ⟨q', hq', rfl⟩ := Option.map_eq_some_iff.1 h
        simp only [hf.2 _ q' hq' s]
        rfl
    · rw [fieldK, if_neg h0] at h
      cases h
theorem kind_more {f : List UInt8 → Option (V × List UInt8)} (hf : More f) (k : Int) (r : List UInt8) (p : V × List UInt8) (h : kindK f k r = some p) (s : List UInt8) : kindK f k (r ++ s) = some (p.1, p.2 ++ s) := by
  unfold kindK at h ⊢
  split
  · rename_i h1
    rw [if_pos h1] at h
    split at h
    · cases h
    · rename_i hl
      cases h
      rw [if_neg (by rw [List.length_append]; omega), List.take_append_of_le_length (by omega), List.drop_append_of_le_length (by omega)]
  · rename_i h1
    rw [if_neg h1] at h
    split
    · rename_i h2
      rw [if_pos h2] at h
      split at h
      · cases h
      · rename_i hl
        cases h
        rw [if_neg (by rw [List.length_append]; omega), List.take_append_of_le_length (by omega), List.drop_append_of_le_length (by omega)]
    · rename_i h2
      rw [if_neg h2] at h
      split
      · rename_i h3
        rw [if_pos h3] at h
        obtain ⟨q, hq, rfl⟩ := Option.map_eq_some_iff.1 h
        rw [ktext_more _ r (Nat.le_refl _) q hq s]; rfl
      · rename_i h3
        rw [if_neg h3] at h
        split
        · rename_i h4
          rw [if_pos h4] at h
          obtain ⟨q, hq, rfl⟩ := Option.map_eq_some_iff.1 h
          rw [row_more hf _ r q hq s _ (by rw [List.length_append]; omega)]; rfl
        · rename_i h4
          rw [if_neg h4] at h
          split
          · rename_i h5
            rw [if_pos h5] at h
            obtain ⟨q, hq, rfl⟩ := Option.map_eq_some_iff.1 h
            rw [row_more (field_more hf) _ r q hq s _ (by rw [List.length_append]; omega)]; rfl
          · rename_i h5
            rw [if_neg h5] at h
            cases h
            rfl
theorem value_more : ∀ n, More (valueK n)
  | 0 => ⟨rfl, fun l p h => by simp [valueK] at h⟩
  | n + 1 => by
    refine ⟨rfl, fun l p h s => ?_⟩
    rcases l with _ | ⟨c, l⟩
    · simp [valueK] at h
    · exact kind_more (value_more n) _ l p h s
end Go.Proofs.YtehjdamdlokoaaaDoor
