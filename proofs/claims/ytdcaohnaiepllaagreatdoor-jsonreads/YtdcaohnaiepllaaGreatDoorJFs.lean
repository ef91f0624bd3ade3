/-
  Fields whose names rise: where a name stands. No conditions beyond those stated.
-/
import Derived.Test.YtdcaohnaiepllaaGreatDoorJB1
namespace Go.Proofs.YtdcaohnaiepllaaGreatDoor

theorem aheadN_le (name : ByteArray) : ∀ ps : List (ByteArray × V), aheadN name ps ≤ ps.length
  | [] => Nat.le_refl _
  | f :: fs => by
    have := aheadN_le name fs
    simp only [aheadN, List.length_cons]
    split <;> omega
theorem aheadN_lt (name : ByteArray) : ∀ (ps : List (ByteArray × V)) (j : Nat) (x : ByteArray × V), j < aheadN name ps → ps[j]? = some x → cmpT x.1 name < 0
  | [], _, _, h, _ => by simp [aheadN] at h
  | f :: fs, 0, x, h, hx => by
    simp only [aheadN] at h
    split at h
    · rename_i h0
      simp at hx; subst hx; exact h0
    · omega
  | f :: fs, j + 1, x, h, hx => by
    simp only [aheadN] at h
    split at h
    · exact aheadN_lt name fs j x (by omega) (by simpa using hx)
    · omega
theorem Rises.all {f : ByteArray × V} : ∀ {fs : List (ByteArray × V)}, Rises (f :: fs) → ∀ x ∈ fs, cmpT f.1 x.1 < 0
  | [], _, x, hx => by cases hx
  | g :: fs, h, x, hx => by
    rcases List.mem_cons.1 hx with rfl | hx
    · exact h.1
    · exact good_cmpT.lt_left h.1 (by have := Rises.all (f := g) h.2 x hx; omega)
theorem aheadN_ge (name : ByteArray) : ∀ (ps : List (ByteArray × V)), Rises ps → ∀ (j : Nat) (x : ByteArray × V), aheadN name ps ≤ j → ps[j]? = some x → 0 ≤ cmpT x.1 name
  | [], _, _, _, _, hx => by simp at hx
  | f :: fs, hr, j, x, h, hx => by
    simp only [aheadN] at h
    split at h
    · cases j with
      | zero => omega
      | succ j => exact aheadN_ge name fs hr.tail j x (by omega) (by simpa using hx)
    · rename_i h0
      cases j with
      | zero => simp at hx; subst hx; omega
      | succ j =>
        have hm : x ∈ fs := List.mem_of_getElem? (by simpa using hx)
        have h1 := hr.all x hm
        have a1 := good_cmpT.anti f.1 name
        have a2 := good_cmpT.anti name x.1
        have h2 : cmpT name x.1 < 0 := good_cmpT.lt_right (by omega) h1
        omega
theorem aheadN_there (name : ByteArray) : ∀ (ps : List (ByteArray × V)), Rises ps → (∀ x, ps[aheadN name ps]? = some x → (cmpT x.1 name == 0) = (getF name ps).isSome) ∧ (aheadN name ps = ps.length → (getF name ps).isSome = false)
  | [], _ => ⟨fun x hx => by simp at hx, fun _ => rfl⟩
  | f :: fs, hr => by
    have ih := aheadN_there name fs hr.tail
    by_cases h0 : cmpT f.1 name < 0
    · simp only [aheadN, if_pos h0]
      rw [getF_cons, if_neg (by omega)]
      refine ⟨fun x hx => ih.1 x (by simpa using hx), fun h => ih.2 (by simpa using h)⟩
    · simp only [aheadN, if_neg h0]
      refine ⟨fun x hx => ?_, fun h => by simp at h⟩
      simp at hx
      subst hx
      by_cases h1 : cmpT f.1 name = 0
      · rw [getF_cons, if_pos h1, h1]; rfl
      · rw [get_above hr (by omega)]
        simp [h1]
theorem set_ahead (name : ByteArray) (x : V) : ∀ (ps : List (ByteArray × V)), getF name ps = none → setF name x ps = ps.take (aheadN name ps) ++ (name, x) :: ps.drop (aheadN name ps)
  | [], _ => rfl
  | f :: fs, h => by
    rw [getF_cons] at h
    by_cases h0 : cmpT f.1 name = 0
    · rw [if_pos h0] at h; cases h
    · rw [if_neg h0] at h
      by_cases h1 : cmpT f.1 name < 0
      · simp only [setF, if_neg h0, if_neg (show ¬ 0 < cmpT f.1 name by omega), aheadN, if_pos h1, List.take_succ_cons, List.drop_succ_cons, List.cons_append]
        rw [set_ahead name x fs h]
      · simp only [setF, if_neg h0, if_pos (show 0 < cmpT f.1 name by omega), aheadN, if_neg h1, List.take_zero, List.drop_zero, List.nil_append]

/-- the search, over plain fields. -/
theorem Search_is (n : Nat) (xs : List Fl) (sa : Value) (name : ByteArray) (w : World) {p : Bool} (hp : (getF name (xs.map Fl.pair)).isSome = p)
    (ha : RowAt (fun _ => True) w 49 6 sa xs.length (encFs xs)) (la : ∀ e ∈ xs, Lies n w e.v e.l e.f) (hr : Rises (xs.map Fl.pair)) :
    Calls Tryz.prog 88 #[sa, .string name, .func (.func 89) #[] #[]] w fun e w' => e = .returned (.tuple #[.int .i64 ((aheadN name (xs.map Fl.pair) : Nat) : Int), .bool p]) ∧ Go.RowKit.Below w.heap.size w w' := by
  have hl := aheadN_le name (xs.map Fl.pair)
  rw [List.length_map] at hl
  have ht := aheadN_there name _ hr
  rw [hp, List.length_map] at ht
  have hm : ∀ (j : Nat) (x : Fl), xs[j]? = some x → (xs.map Fl.pair)[j]? = some x.pair := fun j x hx => by rw [List.getElem?_map, hx]; rfl
  exact Search_any n xs sa name w ha la _ p hl (fun j x hj hx => aheadN_lt name _ j _ hj (hm j x hx)) (fun j x hj hx => aheadN_ge name _ hr j _ hj (hm j x hx)) (fun x hx => ht.1 _ (hm _ x hx)) ht.2
end Go.Proofs.YtdcaohnaiepllaaGreatDoor
