/-
  What is put in has names that rise, and room, as it was. No conditions beyond those stated.
-/
import Derived.Test.YtgcccihnlecpnaaGreatDoorU15
namespace Go.Proofs.YtgcccihnlecpnaaGreatDoor
open Go.RowKit

theorem mem_setF {nm : ByteArray} {z : V} : ∀ {fs : List (ByteArray × V)} {q : ByteArray × V}, q ∈ setF nm z fs → q.2 = z ∨ q ∈ fs
  | [], q, h => by
    rw [List.mem_singleton.1 h]; exact .inl rfl
  | f :: fs, q, h => by
    unfold setF at h
    split at h
    · rcases List.mem_cons.1 h with rfl | h
      · exact .inl rfl
      · exact .inr (List.mem_cons_of_mem _ h)
    · split at h
      · rcases List.mem_cons.1 h with rfl | h
        · exact .inl rfl
        · exact .inr h
      · rcases List.mem_cons.1 h with rfl | h
        · exact .inr (by simp)
        · rcases mem_setF h with e | e
          · exact .inl e
          · exact .inr (List.mem_cons_of_mem _ e)
theorem len_setF {nm : ByteArray} {z : V} : ∀ (fs : List (ByteArray × V)), (setF nm z fs).length ≤ fs.length + 1
  | [] => Nat.le_refl _
  | f :: fs => by
    unfold setF
    split
    · simp
    · split
      · simp
      · have := len_setF (nm := nm) (z := z) fs
        simp only [List.length_cons]; omega
theorem Fit.more {N : Nat} : ∀ {n : Nat} {v : V}, Fit N n v → Fit (N + 1) n v
  | 0, _, _ => trivial
  | n + 1, _, ⟨h1, h2, h3, h4⟩ => ⟨h1, by omega, fun x hx => Fit.more (h3 x hx), fun p hp => Fit.more (h4 p hp)⟩
theorem fit_get {N n : Nat} {v : V} {p : ByteArray} (h : Fit N (n + 1) v) : Fit N n ((getF p v.fields).getD objE) := by
  rcases hg : getF p v.fields with _ | u
  · exact fit_obj N n
  · obtain ⟨q, hq, e, _⟩ := getF_mem hg
    show Fit N n u
    rw [← e]; exact h.2.2.2 q hq
theorem fit_put {N : Nat} : ∀ (ps : List ByteArray) (v x y : V), putP v ps x = some y → Fit N ps.length v → Fit (N + 1) ps.length y
  | [], _, _, _, _, _ => trivial
  | p :: ps, v, x, y, h, hf => by
    rcases put_cons h with ⟨hk, z, hz, rfl⟩ | ⟨hk, i, u, z, hi, hu, hz, rfl⟩
    · have ih := fit_put ps _ x z hz (fit_get hf)
      refine ⟨rises_set p z hf.1, Nat.le_trans (len_setF v.fields) (by have := hf.2.1; omega), fun a ha => (hf.2.2.1 a ha).more, fun q hq => ?_⟩
      rcases mem_setF hq with e | e
      · rw [e]; exact ih
      · exact (hf.2.2.2 q e).more
    · have ih := fit_put ps _ x z hz (hf.2.2.1 u (List.mem_of_getElem? hu))
      refine ⟨hf.1, by have := hf.2.1; show v.fields.length ≤ N + 1; omega, fun a ha => ?_, fun q hq => (hf.2.2.2 q hq).more⟩
      rcases List.mem_or_eq_of_mem_set ha with e | e
      · exact (hf.2.2.1 a e).more
      · rw [e]; exact ih
theorem find_snoc (q : ByteArray) : ∀ (ps : List ByteArray) (v : V), findP v (ps ++ [q]) = (findP v ps).bind fun x => atP x q
  | [], v => by
    show (atP v q).bind (fun x => some x) = atP v q
    cases atP v q <;> rfl
  | p :: ps, v => by
    show (atP v p).bind (fun x => findP x (ps ++ [q])) = ((atP v p).bind fun x => findP x ps).bind _
    cases h : atP v p with
    | none => rfl
    | some x => exact find_snoc q ps x
end Go.Proofs.YtgcccihnlecpnaaGreatDoor
