/-
  How many records stand above a number. No conditions beyond those stated.
-/
import Derived.Test.YtjihfbahcebljaaDoorHPure
namespace Go.Proofs.YtjihfbahcebljaaDoor

/-- those above a number that are still to come. -/
def cntL (after : Int) (left : Int → Bool) (rs : List Rec) : Nat := (rs.filter fun r => decide (after < r.1) && left r.1).length
def cntA (at' : Int) (rs : List Rec) : Nat := (rs.filter fun r => decide (at' < r.1)).length
theorem cntL_all {after : Int} {rs : List Rec} {left : Int → Bool} (h : ∀ r ∈ rs, left r.1 = true) : cntL after left rs = cntA after rs := by
  unfold cntL cntA
  congr 1
  refine List.filter_congr fun r hr => ?_
  rw [h r hr, Bool.and_true]
theorem cntL_none {after : Int} {rs : List Rec} {left : Int → Bool} (h : ∀ i, left i = false) : cntL after left rs = 0 := by
  unfold cntL
  rw [List.length_eq_zero_iff, List.filter_eq_nil_iff]
  intro r _
  rw [h r.1]
  simp
theorem cntL_congr {after : Int} {rs : List Rec} {left left' : Int → Bool} (h : ∀ r ∈ rs, left r.1 = left' r.1) : cntL after left rs = cntL after left' rs := by
  unfold cntL
  congr 1
  refine List.filter_congr fun r hr => ?_
  rw [h r hr]
theorem cntL_cons {after : Int} {left : Int → Bool} {r : Rec} {rs : List Rec} : cntL after left (r :: rs) = (if after < r.1 ∧ left r.1 = true then 1 else 0) + cntL after left rs := by
  unfold cntL
  rw [List.filter_cons]
  by_cases h1 : after < r.1
  · by_cases h2 : left r.1 = true
    · rw [if_pos (by simp [h1, h2]), if_pos ⟨h1, h2⟩, List.length_cons]; omega
    · rw [if_neg (by simp [h2]), if_neg (fun h => h2 h.2)]; omega
  · rw [if_neg (by simp [h1]), if_neg (fun h => h1 h.1)]; omega
theorem cntL_step {after i : Int} {left : Int → Bool} (hl : left i = true) : ∀ {lo : Int} {rs : List Rec}, RisesR lo rs → (getR i rs).isSome = true → cntL after left rs = cntL after (fun j => left j && !(j == i)) rs + (if after < i then 1 else 0)
  | _, [], _, h => by cases h
  | lo, r :: rs, hr, h => by
    rw [cntL_cons, cntL_cons]
    by_cases e : r.1 = i
    · have h1 : cntL after left rs = cntL after (fun j => left j && !(j == i)) rs := cntL_congr fun x hx => by
        have := hr.2.above x hx
        have h2 : (x.1 == i) = false := by simp; omega
        rw [h2]; simp
      rw [e, h1]
      by_cases h3 : after < i
      · rw [if_pos ⟨h3, hl⟩, if_pos h3, if_neg (by simp)]; omega
      · rw [if_neg (fun h => h3 h.1), if_neg h3, if_neg (fun h => h3 h.1)]; omega
    · have h1 := cntL_step (after := after) hl hr.2 (by simpa [getR, e] using h)
      have h2 : (r.1 == i) = false := by simp [e]
      rw [h1, h2]
      simp only [Bool.not_false, Bool.and_true]
      omega
theorem cntA_next {i : Int} {x : Rec} : ∀ {lo : Int} {rs : List Rec}, RisesR lo rs → nextR i rs = some x → cntA i rs = cntA x.1 rs + 1
  | _, [], _, h => by cases h
  | lo, r :: rs, hr, h => by
    unfold nextR at h
    unfold cntA
    rw [List.filter_cons, List.filter_cons]
    split at h
    · rename_i h0
      cases h
      rw [if_pos (by simpa using h0), if_neg (by simp), List.length_cons]
      congr 2
      refine List.filter_congr fun y hy => ?_
      have := hr.2.above y hy
      have e1 : decide (i < y.1) = true := by simp; omega
      have e2 : decide (x.1 < y.1) = true := by simpa using this
      rw [e1, e2]
    · rename_i h0
      have h1 := (next_someR hr.2 h).1
      rw [if_neg (by simpa using h0), if_neg (by simp; omega)]
      exact cntA_next hr.2 h
theorem cntA_none {i : Int} : ∀ {rs : List Rec}, nextR i rs = none → cntA i rs = 0
  | [], _ => rfl
  | r :: rs, h => by
    unfold nextR at h
    unfold cntA
    rw [List.filter_cons]
    split at h
    · cases h
    · rename_i h0
      rw [if_neg (by simpa using h0)]
      exact cntA_none h
theorem cntA_le (i : Int) (rs : List Rec) : cntA i rs ≤ rs.length := List.length_filter_le _ _
end Go.Proofs.YtjihfbahcebljaaDoor
