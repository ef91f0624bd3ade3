/-
  A tree beside a box; what comes first or last is taken away. Conditions: as stated.
-/
import Derived.Test.YtgnhillnikjnfaaBBoth
namespace Go.Proofs.Ytgnhillnikjnfaa
open Go.RowKit

/-- a tree of l, blocks of which P says so apart, all new since. -/
def Boxed (w0 w : World) (T : Nat) (l : List En) (P : Nat → Prop) : Prop :=
  ∃ F : Nat → Prop, TrF F w T l ∧ (∀ a, F a → w0.heap.size ≤ a ∧ a < w.heap.size) ∧ (∀ a, F a → ¬ P a) ∧ (∀ a, P a → a < w.heap.size) ∧ Below w0.heap.size w0 w
section
variable {w0 w w' : World} {T X : Nat} {l : List En} {P Q : Nat → Prop}
theorem Boxed.below (h : Boxed w0 w T l P) : Below w0.heap.size w0 w := by
  obtain ⟨F, -, -, -, -, h6⟩ := h; exact h6
theorem Boxed.tree (h : Boxed w0 w T l P) : ∃ F, TrF F w T l := by
  obtain ⟨F, h1, -⟩ := h; exact ⟨F, h1⟩
theorem Boxed.less (h : Boxed w0 w T l P) (hq : ∀ a, Q a → P a) : Boxed w0 w T l Q := by
  obtain ⟨F, h1, h2, h3, h4, h5⟩ := h
  exact ⟨F, h1, h2, fun a ha hc => h3 a ha (hq a hc), fun a ha => h4 a (hq a ha), h5⟩
theorem Boxed.same (h : Boxed w0 w T l P) (hb : Below w.heap.size w w') : Boxed w0 w' T l P := by
  obtain ⟨F, h1, h2, h3, h4, h5⟩ := h
  exact ⟨F, h1.below hb, fun a ha => ⟨(h2 a ha).1, Nat.lt_of_lt_of_le (h2 a ha).2 hb.size⟩, h3, fun a ha => Nat.lt_of_lt_of_le (h4 a ha) hb.size, h5.trans (hb.mono h5.size)⟩
/-- one block more. -/
theorem Boxed.more (h : Boxed w0 w T l P) (hb : Below w.heap.size w w') (hX : w.heap.size ≤ X) (hX2 : X < w'.heap.size) : Boxed w0 w' T l (fun a => P a ∨ a = X) := by
  obtain ⟨F, h1, h2, h3, h4, h5⟩ := h
  refine ⟨F, h1.below hb, fun a ha => ⟨(h2 a ha).1, Nat.lt_of_lt_of_le (h2 a ha).2 hb.size⟩, fun a ha hc => ?_, fun a ha => ?_, h5.trans (hb.mono h5.size)⟩
  · rcases hc with hc | hc
    · exact h3 a ha hc
    · have := (h2 a ha).2
      omega
  · rcases ha with ha | ha
    · exact Nat.lt_of_lt_of_le (h4 a ha) hb.size
    · omega
/-- a block apart is written. -/
theorem Boxed.set {u v : Value} (h : Boxed w0 w T l P) (hX : w0.heap.size ≤ X) (hP : P X) : Boxed w0 ((w.setCell ⟨X, 0, none⟩ u).setCell ⟨X, 1, none⟩ v) T l P := by
  obtain ⟨F, ⟨n, t, g1, g2, g3, g4⟩, h2, h3, h4, h5⟩ := h
  have hs : ((w.setCell ⟨X, 0, none⟩ u).setCell ⟨X, 1, none⟩ v).heap.size = w.heap.size := by simp [World.setCell]
  refine ⟨F, ⟨n, t, g1.keep fun a ha => ?_, g2, g3, g4⟩, fun a ha => by rw [hs]; exact h2 a ha, h3, fun a ha => by rw [hs]; exact h4 a ha, (h5.setCell hX _).setCell hX _⟩
  have hF : F a := ha.elim (fun e => by rw [e]; exact g3) (fun e => g4 a e)
  have hne : a ≠ X := fun e => h3 a hF (by rw [e]; exact hP)
  rw [Go.Deep.blk_setCell_other _ _ _ _ (show a ≠ X from hne), Go.Deep.blk_setCell_other _ _ _ _ (show a ≠ X from hne)]
theorem Boxed.del (h : Boxed w0 w T l P) (e : En) (hn : l.length ≤ 1000000) : Calls Try.prog 15 #[.pointer (some ⟨T, 0, none⟩), .agg #[.string e.1, .int .i64 e.2]] w fun r w' => r = .returned (.bool (hasE e l)) ∧ Boxed w0 w' T (delE e l) P ∧ (∀ a, P a → w'.heap[a]? = w.heap[a]?) := by
  obtain ⟨F, h1, h2, h3, h4, h5⟩ := h
  refine (DelT_any e w h1 hn).mono fun r w' ⟨k1, k2, k3⟩ => ⟨k1, ⟨_, k2.tight, fun a ha => ⟨?_, ha.2⟩, fun a ha hc => ?_, fun a ha => Nat.lt_of_lt_of_le (h4 a ha) k3.size, h5.trans (k3.below h5.size fun a ha => (h2 a ha).1)⟩, fun a ha => k3.block a (h4 a ha) fun hF => h3 a hF ha⟩
  · rcases ha.1 with h7 | h7
    · exact (h2 a h7).1
    · exact Nat.le_trans h5.size h7
  · rcases ha.1 with h7 | h7
    · exact h3 a h7 hc
    · have := h4 a hc
      omega
end
theorem del_head {x : En} {l : List En} (h : SortE (x :: l)) : delE x (x :: l) = l := by
  rw [del_cons, if_pos rfl]
  exact del_gone (List.pairwise_cons.1 h).2 fun hx => ltE_irrefl ((List.pairwise_cons.1 h).1 x hx)
theorem del_last {x : En} {l : List En} (h : SortE (l ++ [x])) : delE x (l ++ [x]) = l := by
  have h1 := List.pairwise_append.1 h
  refine sort_ext (sort_del h) h1.1 fun y => ?_
  rw [mem_delE, List.mem_append]
  constructor
  · rintro ⟨h2 | h2, h3⟩
    · exact h2
    · exact absurd (List.mem_singleton.1 h2) h3
  · exact fun h2 => ⟨.inl h2, ltE_ne (h1.2.2 y h2 x (by simp))⟩
end Go.Proofs.Ytgnhillnikjnfaa
