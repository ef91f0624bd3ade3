/-
  What is put or cut in has names that rise, and room, as it was. No conditions beyond those stated.
-/
import Derived.Test.YtgcccihnlecpnaaGreatDoorU15
import Derived.Test.YtgcccihnlecpnaaGreatDoorPCut2
namespace Go.Proofs.YtgcccihnlecpnaaGreatDoor
open Go.RowKit

theorem mem_setF {nm : ByteArray} {z : V} : ∀ {fs : List (ByteArray × V)} {q : ByteArray × V}, q ∈ setF nm z fs → q.2 = z ∨ q ∈ fs
  | [], q, h => by
    rw [List.mem_singleton.1 h]; exact .inl rfl
  | f :: fs, q, h => by
    unfold setF at h
    split at h
    · rcases List.mem_cons.1 h with rfl | h
      · exact .inl rfl
      · exact .inr (List.mem_cons_of_mem _ h)
    · split at h
      · rcases List.mem_cons.1 h with rfl | h
        · exact .inl rfl
        · exact .inr h
      · rcases List.mem_cons.1 h with rfl | h
        · exact .inr (by simp)
        · rcases mem_setF h with e | e
          · exact .inl e
          · exact .inr (List.mem_cons_of_mem _ e)
theorem len_setF {nm : ByteArray} {z : V} : ∀ (fs : List (ByteArray × V)), (setF nm z fs).length ≤ fs.length + 1
  | [] => Nat.le_refl _
  | f :: fs => by
    unfold setF
    split
    · simp
    · split
      · simp
      · have := len_setF (nm := nm) (z := z) fs
        simp only [List.length_cons]; omega
theorem mem_delF {nm : ByteArray} : ∀ {fs : List (ByteArray × V)} {q : ByteArray × V}, q ∈ delF nm fs → q ∈ fs
  | [], q, h => h
  | f :: fs, q, h => by
    unfold delF at h
    split at h
    · exact List.mem_cons_of_mem _ h
    · rcases List.mem_cons.1 h with rfl | h
      · simp
      · exact List.mem_cons_of_mem _ (mem_delF h)
theorem len_delF {nm : ByteArray} : ∀ (fs : List (ByteArray × V)), (delF nm fs).length ≤ fs.length
  | [] => Nat.le_refl _
  | f :: fs => by
    unfold delF
    split
    · simp
    · have := len_delF (nm := nm) fs
      simp only [List.length_cons]; omega
theorem Fit.more {N : Nat} : ∀ {n : Nat} {v : V}, Fit N n v → Fit (N + 1) n v
  | 0, _, _ => trivial
  | n + 1, _, ⟨h1, h2, h3, h4⟩ => ⟨h1, by omega, fun x hx => Fit.more (h3 x hx), fun p hp => Fit.more (h4 p hp)⟩
theorem fit_get {N n : Nat} {v : V} {p : ByteArray} (h : Fit N (n + 1) v) : Fit N n ((getF p v.fields).getD objE) := by
  rcases hg : getF p v.fields with _ | u
  · exact fit_obj N n
  · obtain ⟨q, hq, e, _⟩ := getF_mem hg
    show Fit N n u
    rw [← e]; exact h.2.2.2 q hq
theorem fit_put {N : Nat} : ∀ (ps : List ByteArray) (v x y : V), putP v ps x = some y → Fit N ps.length v → Fit (N + 1) ps.length y
  | [], _, _, _, _, _ => trivial
  | p :: ps, v, x, y, h, hf => by
    rcases put_cons h with ⟨hk, z, hz, rfl⟩ | ⟨hk, i, u, z, hi, hu, hz, rfl⟩
    · have ih := fit_put ps _ x z hz (fit_get hf)
      refine ⟨rises_set p z hf.1, Nat.le_trans (len_setF v.fields) (by have := hf.2.1; omega), fun a ha => (hf.2.2.1 a ha).more, fun q hq => ?_⟩
      rcases mem_setF hq with e | e
      · rw [e]; exact ih
      · exact (hf.2.2.2 q e).more
    · have ih := fit_put ps _ x z hz (hf.2.2.1 u (List.mem_of_getElem? hu))
      refine ⟨hf.1, by have := hf.2.1; show v.fields.length ≤ N + 1; omega, fun a ha => ?_, fun q hq => (hf.2.2.2 q hq).more⟩
      rcases List.mem_or_eq_of_mem_set ha with e | e
      · exact (hf.2.2.1 a e).more
      · rw [e]; exact ih
theorem fit_cut {N : Nat} : ∀ (ps : List ByteArray) (v y : V), cutP v ps = some y → Fit N ps.length v → Fit (N + 1) ps.length y
  | [], _, _, h, _ => by cases h
  | [p], v, y, h, hf => by
    rw [cutP_one] at h
    split at h
    · rename_i hh
      cases h
      unfold cutD
      rw [if_pos hh]
      exact ⟨rises_del p hf.1, Nat.le_trans (len_delF v.fields) (by have := hf.2.1; omega), fun a ha => (hf.2.2.1 a ha).more, fun q hq => (hf.2.2.2 q (mem_delF hq)).more⟩
    · cases h
  | p :: q :: ps, v, y, h, hf => by
    have h' : (if v.kind = 5 then (getF p v.fields).bind fun z => (cutP z (q :: ps)).map fun y => { v with fields := setF p y v.fields }
      else if v.kind = 4 then (placeOf p).bind fun i => (v.list[i]?).bind fun z => (cutP z (q :: ps)).map fun y => { v with list := v.list.set i y } else none) = some y := h
    split at h'
    · obtain ⟨u, hu, h2⟩ := Option.bind_eq_some_iff.1 h'
      obtain ⟨z, hz, rfl⟩ := Option.map_eq_some_iff.1 h2
      have hfu : Fit N (q :: ps).length u := by have := fit_get (p := p) hf; rw [hu] at this; exact this
      have ih := fit_cut (q :: ps) u z hz hfu
      refine ⟨rises_set p z hf.1, Nat.le_trans (len_setF v.fields) (by have := hf.2.1; omega), fun a ha => (hf.2.2.1 a ha).more, fun r hr => ?_⟩
      rcases mem_setF hr with e | e
      · rw [e]; exact ih
      · exact (hf.2.2.2 r e).more
    · split at h'
      · obtain ⟨i, hi, h2⟩ := Option.bind_eq_some_iff.1 h'
        obtain ⟨u, hu, h3⟩ := Option.bind_eq_some_iff.1 h2
        obtain ⟨z, hz, rfl⟩ := Option.map_eq_some_iff.1 h3
        have ih := fit_cut (q :: ps) u z hz (hf.2.2.1 u (List.mem_of_getElem? hu))
        refine ⟨hf.1, by have := hf.2.1; show v.fields.length ≤ N + 1; omega, fun a ha => ?_, fun r hr => (hf.2.2.2 r hr).more⟩
        rcases List.mem_or_eq_of_mem_set ha with e | e
        · exact (hf.2.2.1 a e).more
        · rw [e]; exact ih
      · cases h'
theorem find_snoc (q : ByteArray) : ∀ (ps : List ByteArray) (v : V), findP v (ps ++ [q]) = (findP v ps).bind fun x => atP x q
  | [], v => by
    show (atP v q).bind (fun x => some x) = atP v q
    cases atP v q <;> rfl
  | p :: ps, v => by
    show (atP v p).bind (fun x => findP x (ps ++ [q])) = ((atP v p).bind fun x => findP x ps).bind _
    cases h : atP v p with
    | none => rfl
    | some x => exact find_snoc q ps x
/-- what is cut, and whether. -/
theorem cut_is (ps : List ByteArray) (q : ByteArray) (v : V) : (cutP v (ps ++ [q])).isSome = ((findP v (ps ++ [q])).isSome && decide (((findP v ps).getD zeroV).kind = 5)) := by
  rw [cut_some, find_snoc]
  rcases findP v ps with _ | o
  · rfl
  · show (decide (o.kind = 5) && (getF q o.fields).isSome) = ((atP o q).isSome && decide (o.kind = 5))
    by_cases h5 : o.kind = 5
    · rw [at5 h5, Bool.and_comm]
    · rw [decide_eq_false h5]; simp
end Go.Proofs.YtgcccihnlecpnaaGreatDoor
