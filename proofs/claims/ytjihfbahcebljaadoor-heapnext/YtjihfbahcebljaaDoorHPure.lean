/-
  Records by rising numbers, as plain data. No conditions beyond those stated.
-/
import Derived.Test.YtjihfbahcebljaaDoorVPure
namespace Go.Proofs.YtjihfbahcebljaaDoor

abbrev Rec := Int × V
/-- how many stand ahead of a number. -/
def aheadR (i : Int) : List Rec → Nat
  | [] => 0
  | r :: rs => if r.1 < i then aheadR i rs + 1 else 0
/-- numbers rise, above one. -/
def RisesR : Int → List Rec → Prop
  | _, [] => True
  | lo, r :: rs => lo < r.1 ∧ RisesR r.1 rs
def getR (i : Int) : List Rec → Option V
  | [] => none
  | r :: rs => if r.1 = i then some r.2 else getR i rs
def setR (i : Int) (v : V) : List Rec → List Rec
  | [] => []
  | r :: rs => if r.1 = i then (i, v) :: rs else r :: setR i v rs
def delR (i : Int) : List Rec → List Rec
  | [] => []
  | r :: rs => if r.1 = i then rs else r :: delR i rs
def nextR (i : Int) : List Rec → Option Rec
  | [] => none
  | r :: rs => if i < r.1 then some r else nextR i rs
/-- all numbers are at most the last. -/
def UpTo (last : Int) (rs : List Rec) : Prop := ∀ r ∈ rs, r.1 ≤ last

theorem RisesR.mono {lo lo' : Int} (hl : lo' ≤ lo) : ∀ {rs : List Rec}, RisesR lo rs → RisesR lo' rs
  | [], _ => trivial
  | _ :: _, h => ⟨by have := h.1; omega, h.2⟩
theorem RisesR.above {lo : Int} : ∀ {rs : List Rec}, RisesR lo rs → ∀ r ∈ rs, lo < r.1
  | [], _, r, hr => by cases hr
  | x :: rs, h, r, hr => by
    rcases List.mem_cons.1 hr with rfl | hr
    · exact h.1
    · have := RisesR.above h.2 r hr
      have := h.1
      omega
theorem get_noneR {i : Int} : ∀ {rs : List Rec}, (∀ r ∈ rs, r.1 ≠ i) → getR i rs = none
  | [], _ => rfl
  | x :: rs, h => by
    unfold getR
    rw [if_neg (h x (by simp))]
    exact get_noneR fun r hr => h r (by simp [hr])
theorem get_low {lo i : Int} {rs : List Rec} (h : RisesR lo rs) (hi : i ≤ lo) : getR i rs = none :=
  get_noneR fun r hr => by have := h.above r hr; omega
theorem get_memR {i : Int} {v : V} : ∀ {rs : List Rec}, getR i rs = some v → (i, v) ∈ rs
  | [], h => by cases h
  | x :: rs, h => by
    unfold getR at h
    split at h
    · rename_i e; cases h; subst e; simp
    · exact List.mem_cons_of_mem _ (get_memR h)
theorem get_high {last i : Int} {rs : List Rec} (h : UpTo last rs) (hi : last < i) : getR i rs = none :=
  get_noneR fun r hr => by have := h r hr; omega

theorem ahead_le (i : Int) : ∀ rs : List Rec, aheadR i rs ≤ rs.length
  | [] => Nat.le_refl _
  | r :: rs => by
    have := ahead_le i rs
    simp only [aheadR, List.length_cons]
    split <;> omega
theorem ahead_lt (i : Int) : ∀ (rs : List Rec) (j : Nat) (x : Rec), j < aheadR i rs → rs[j]? = some x → x.1 < i
  | [], _, _, h, _ => by simp [aheadR] at h
  | r :: rs, 0, x, h, hx => by
    simp only [aheadR] at h
    split at h
    · rename_i h0; simp at hx; subst hx; exact h0
    · omega
  | r :: rs, j + 1, x, h, hx => by
    simp only [aheadR] at h
    split at h
    · exact ahead_lt i rs j x (by omega) (by simpa using hx)
    · omega
theorem ahead_ge (i : Int) : ∀ {lo : Int} (rs : List Rec), RisesR lo rs → ∀ (j : Nat) (x : Rec), aheadR i rs ≤ j → rs[j]? = some x → i ≤ x.1
  | _, [], _, _, _, _, hx => by simp at hx
  | lo, r :: rs, hr, j, x, h, hx => by
    simp only [aheadR] at h
    split at h
    · cases j with
      | zero => omega
      | succ j => exact ahead_ge i rs hr.2 j x (by omega) (by simpa using hx)
    · rename_i h0
      cases j with
      | zero => simp at hx; subst hx; omega
      | succ j =>
        have hm : x ∈ rs := List.mem_of_getElem? (by simpa using hx)
        have := hr.2.above x hm
        omega
/-- where a number that is there stands. -/
theorem ahead_at (i : Int) : ∀ {lo : Int} (rs : List Rec), RisesR lo rs → (∀ v, getR i rs = some v → rs[aheadR i rs]? = some (i, v)) ∧ (getR i rs = none → ∀ x, rs[aheadR i rs]? = some x → i < x.1)
  | _, [], _ => ⟨fun v h => (by cases h), fun _ x hx => by simp at hx⟩
  | lo, r :: rs, hr => by
    have ih := ahead_at i rs hr.2
    by_cases h0 : r.1 < i
    · simp only [aheadR, if_pos h0, getR, if_neg (show ¬ r.1 = i by omega), List.getElem?_cons_succ]
      exact ih
    · simp only [aheadR, if_neg h0, getR, List.getElem?_cons_zero]
      by_cases h1 : r.1 = i
      · rw [if_pos h1]
        exact ⟨fun v hv => (by cases hv; rw [← h1]), fun h => (by cases h)⟩
      · rw [if_neg h1]
        exact ⟨fun v hv => (by rw [get_low hr.2 (by omega)] at hv; cases hv), fun _ x hx => (by cases hx; omega)⟩
theorem ahead_end {i lo : Int} {rs : List Rec} (hr : RisesR lo rs) (h : aheadR i rs = rs.length) : getR i rs = none := by
  cases hg : getR i rs with
  | none => rfl
  | some v =>
    have := (ahead_at i rs hr).1 v hg
    rw [h] at this
    simp at this
theorem ahead_is {i lo : Int} {rs : List Rec} (hr : RisesR lo rs) {x : Rec} (hx : rs[aheadR i rs]? = some x) : (x.1 = i) ↔ (getR i rs).isSome = true := by
  have h := ahead_at i rs hr
  cases hg : getR i rs with
  | none => have := h.2 hg x hx; simp; omega
  | some v => have := h.1 v hg; rw [hx] at this; cases this; simp
theorem del_split {i : Int} : ∀ {lo : Int} (rs : List Rec), RisesR lo rs → (getR i rs).isSome = true → delR i rs = rs.take (aheadR i rs) ++ rs.drop (aheadR i rs + 1)
  | _, [], _, h => by cases h
  | lo, r :: rs, hr, h => by
    by_cases h1 : r.1 = i
    · simp only [delR, if_pos h1, aheadR, if_neg (show ¬ r.1 < i by omega)]; rfl
    · have h2 : (getR i rs).isSome = true := by simpa [getR, h1] using h
      have h3 : r.1 < i := by
        rcases Int.lt_or_le r.1 i with h3 | h3
        · exact h3
        · rw [get_low hr.2 h3] at h2; cases h2
      simp only [delR, if_neg h1, aheadR, if_pos h3]
      rw [del_split rs hr.2 h2]
      rfl
theorem set_split {i : Int} {v : V} : ∀ {lo : Int} (rs : List Rec), RisesR lo rs → (getR i rs).isSome = true → setR i v rs = rs.set (aheadR i rs) (i, v)
  | _, [], _, h => by cases h
  | lo, r :: rs, hr, h => by
    by_cases h1 : r.1 = i
    · simp only [setR, if_pos h1, aheadR, if_neg (show ¬ r.1 < i by omega)]; rfl
    · have h2 : (getR i rs).isSome = true := by simpa [getR, h1] using h
      have h3 : r.1 < i := by
        rcases Int.lt_or_le r.1 i with h3 | h3
        · exact h3
        · rw [get_low hr.2 h3] at h2; cases h2
      simp only [setR, if_neg h1, aheadR, if_pos h3]
      rw [set_split rs hr.2 h2]
      rfl
theorem del_noneR {i : Int} : ∀ {rs : List Rec}, getR i rs = none → delR i rs = rs
  | [], _ => rfl
  | r :: rs, h => by
    unfold getR at h
    split at h
    · cases h
    · rename_i h1; simp only [delR, if_neg h1, del_noneR h]
theorem set_noneR {i : Int} {v : V} : ∀ {rs : List Rec}, getR i rs = none → setR i v rs = rs
  | [], _ => rfl
  | r :: rs, h => by
    unfold getR at h
    split at h
    · cases h
    · rename_i h1; simp only [setR, if_neg h1, set_noneR h]
theorem next_isR (i : Int) : ∀ {lo : Int} (rs : List Rec), RisesR lo rs → nextR i rs = rs[if (getR i rs).isSome then aheadR i rs + 1 else aheadR i rs]?
  | _, [], _ => by simp [nextR]
  | lo, r :: rs, hr => by
    have ih := next_isR i rs hr.2
    by_cases h0 : r.1 < i
    · simp only [nextR, if_neg (show ¬ i < r.1 by omega), aheadR, if_pos h0, getR, if_neg (show ¬ r.1 = i by omega), ih]
      split <;> simp
    · by_cases h1 : r.1 = i
      · simp only [nextR, if_neg (show ¬ i < r.1 by omega), aheadR, if_neg h0, getR, if_pos h1, Option.isSome_some, if_true, List.getElem?_cons_succ]
        cases rs with
        | nil => rfl
        | cons s rs => simp [nextR, show i < s.1 by have := hr.2.1; omega]
      · simp only [nextR, if_pos (show i < r.1 by omega), aheadR, if_neg h0, getR, if_neg h1, get_low hr.2 (show i ≤ r.1 by omega), Option.isSome_none]
        rfl
theorem next_someR {i : Int} {r : Rec} : ∀ {lo : Int} {rs : List Rec}, RisesR lo rs → nextR i rs = some r → i < r.1 ∧ getR r.1 rs = some r.2 ∧ ∀ j, i < j → j < r.1 → getR j rs = none
  | _, [], _, h => by cases h
  | lo, x :: rs, hr, h => by
    unfold nextR at h
    split at h
    · rename_i h0
      cases h
      exact ⟨h0, by simp [getR], fun j h1 h2 => by simp only [getR, if_neg (show ¬ r.1 = j by omega)]; exact get_low hr.2 (by omega)⟩
    · rename_i h0
      obtain ⟨h1, h2, h3⟩ := next_someR hr.2 h
      exact ⟨h1, by simp only [getR, if_neg (show ¬ x.1 = r.1 by omega), h2], fun j a b => by simp only [getR, if_neg (show ¬ x.1 = j by omega), h3 j a b]⟩
theorem next_noneR {i : Int} : ∀ {rs : List Rec}, nextR i rs = none → ∀ j, i < j → getR j rs = none
  | [], _, _, _ => rfl
  | x :: rs, h, j, hj => by
    unfold nextR at h
    split at h
    · cases h
    · rename_i h0
      simp only [getR, if_neg (show ¬ x.1 = j by omega), next_noneR h j hj]

theorem get_setR {i j : Int} {v : V} : ∀ {rs : List Rec}, getR j (setR i v rs) = if j = i then (if (getR i rs).isSome then some v else none) else getR j rs
  | [] => by simp [setR, getR]
  | r :: rs => by
    have ih := get_setR (i := i) (j := j) (v := v) (rs := rs)
    by_cases h1 : r.1 = i
    · simp only [setR, if_pos h1, getR]
      by_cases hj : j = i
      · subst hj; simp
      · rw [if_neg (fun e => hj e.symm), if_neg hj, if_neg (fun e => hj (by omega))]
    · simp only [setR, if_neg h1, getR]
      by_cases hj : j = i
      · subst hj; rw [if_neg h1, ih, if_pos rfl, if_pos rfl]
      · rw [if_neg hj, ih, if_neg hj]
theorem get_delR {i j : Int} : ∀ {lo : Int} {rs : List Rec}, RisesR lo rs → getR j (delR i rs) = if j = i then none else getR j rs
  | _, [], _ => by simp [delR, getR]
  | lo, r :: rs, hr => by
    have ih := get_delR (i := i) (j := j) hr.2
    by_cases h1 : r.1 = i
    · simp only [delR, if_pos h1, getR]
      by_cases hj : j = i
      · subst hj; rw [if_pos rfl]; exact get_low hr.2 (by omega)
      · rw [if_neg hj, if_neg (fun e => hj (by omega))]
    · simp only [delR, if_neg h1, getR]
      by_cases hj : j = i
      · subst hj; rw [if_neg h1, ih, if_pos rfl, if_pos rfl]
      · rw [if_neg hj, ih, if_neg hj]
theorem get_appR {last j : Int} {v : V} : ∀ {rs : List Rec}, UpTo last rs → getR j (rs ++ [(last + 1, v)]) = if j = last + 1 then some v else getR j rs
  | [], _ => by simp [getR, eq_comm]
  | r :: rs, h => by
    have ih := get_appR (j := j) (v := v) (rs := rs) fun x hx => h x (by simp [hx])
    have h0 := h r (by simp)
    simp only [List.cons_append, getR]
    by_cases hj : j = last + 1
    · subst hj; rw [if_neg (by omega), ih, if_pos rfl, if_pos rfl]
    · rw [if_neg hj, ih, if_neg hj]
theorem len_setR {i : Int} {v : V} : ∀ {rs : List Rec}, (setR i v rs).length = rs.length
  | [] => rfl
  | r :: rs => by unfold setR; split <;> simp [len_setR]
theorem len_delR {i : Int} : ∀ {rs : List Rec}, (delR i rs).length = rs.length - if (getR i rs).isSome then 1 else 0
  | [] => rfl
  | r :: rs => by
    have ih := len_delR (i := i) (rs := rs)
    unfold delR getR
    split
    · simp
    · rw [List.length_cons, List.length_cons, ih]
      split
      · rename_i h
        have : 0 < rs.length := by
          cases rs with
          | nil => cases h
          | cons => simp
        omega
      · rfl
theorem upTo_set {i last : Int} {v : V} : ∀ {rs : List Rec}, UpTo last rs → UpTo last (setR i v rs)
  | [], h => h
  | r :: rs, h => by
    unfold setR
    have h0 := h r (by simp)
    split
    · rename_i e
      intro x hx
      rcases List.mem_cons.1 hx with rfl | hx
      · show i ≤ last; omega
      · exact h x (by simp [hx])
    · intro x hx
      rcases List.mem_cons.1 hx with rfl | hx
      · exact h0
      · exact upTo_set (rs := rs) (fun y hy => h y (by simp [hy])) x hx
theorem mem_delR {i : Int} : ∀ {rs : List Rec} {x : Rec}, x ∈ delR i rs → x ∈ rs
  | [], _, h => h
  | r :: rs, x, h => by
    unfold delR at h
    split at h
    · simp [h]
    · rcases List.mem_cons.1 h with rfl | h
      · simp
      · simp [mem_delR h]
theorem upTo_del {i last : Int} {rs : List Rec} (h : UpTo last rs) : UpTo last (delR i rs) := fun x hx => h x (mem_delR hx)
theorem rises_setR {i : Int} {v : V} : ∀ {lo : Int} {rs : List Rec}, RisesR lo rs → RisesR lo (setR i v rs)
  | _, [], _ => trivial
  | lo, r :: rs, h => by
    unfold setR
    split
    · rename_i e; subst e; exact h
    · exact ⟨h.1, rises_setR h.2⟩
theorem rises_delR {i : Int} : ∀ {lo : Int} {rs : List Rec}, RisesR lo rs → RisesR lo (delR i rs)
  | _, [], _ => trivial
  | lo, r :: rs, h => by
    unfold delR
    split
    · exact h.2.mono (by have := h.1; omega)
    · exact ⟨h.1, rises_delR h.2⟩
theorem rises_app {last : Int} {v : V} : ∀ {lo : Int} {rs : List Rec}, RisesR lo rs → UpTo last rs → lo ≤ last → RisesR lo (rs ++ [(last + 1, v)])
  | lo, [], _, _, hl => ⟨by show lo < last + 1; omega, trivial⟩
  | lo, r :: rs, h, hu, _ => ⟨h.1, rises_app h.2 (fun x hx => hu x (by simp [hx])) (hu r (by simp))⟩
theorem upTo_app {last : Int} {v : V} {rs : List Rec} (h : UpTo last rs) : UpTo (last + 1) (rs ++ [(last + 1, v)]) := by
  intro x hx
  rcases List.mem_append.1 hx with hx | hx
  · have := h x hx; omega
  · simp at hx; subst hx; exact Int.le_refl _
theorem mem_getR {i : Int} {v : V} : ∀ {lo : Int} {rs : List Rec}, RisesR lo rs → (i, v) ∈ rs → getR i rs = some v
  | _, [], _, h => by cases h
  | lo, r :: rs, hr, h => by
    rcases List.mem_cons.1 h with h | h
    · subst h; simp [getR]
    · have := hr.2.above _ h
      simp only [getR, if_neg (show ¬ r.1 = i by simp at this; omega)]
      exact mem_getR hr.2 h
end Go.Proofs.YtjihfbahcebljaaDoor
