/-
  A tree beside a row of entries and beside blocks of variables. Conditions: as stated.
-/
import Derived.Test.YtgnhillnikjnfaaBBoth
namespace Go.Proofs.Ytgnhillnikjnfaa
open Go.RowKit

/-- a tree of l, a row of m, blocks of which P says so: apart; tree and row all new since. -/
def BothP (w0 w : World) (T : Nat) (l : List En) (lv : Value) (m : List En) (P : Nat → Prop) : Prop :=
  ∃ (F : Nat → Prop) (B : Nat), TrF F w T l ∧ (∀ a, F a → w0.heap.size ≤ a ∧ a < w.heap.size) ∧ w.ownsRow B 30 2 lv m.length (encEns m) ∧ w0.heap.size ≤ B ∧ (∀ a, F a → lv.ownBlock ≠ some a) ∧ Below w0.heap.size w0 w ∧ (∀ a, F a → ¬ P a) ∧ ∀ a, P a → a < w.heap.size
section
variable {w0 w w' : World} {T X : Nat} {l m m' : List En} {lv v' : Value} {P : Nat → Prop}
theorem BothP.both (h : BothP w0 w T l lv m P) : Both w0 w T l lv m := by
  obtain ⟨F, B, h1, h2, h3, h4, h5, h6, -, -⟩ := h
  exact ⟨F, B, h1, h2, h3, h4, h5, h6⟩
theorem Both.p (h : Both w0 w T l lv m) : BothP w0 w T l lv m (fun _ => False) := by
  obtain ⟨F, B, h1, h2, h3, h4, h5, h6⟩ := h
  exact ⟨F, B, h1, h2, h3, h4, h5, h6, fun _ _ h => h, fun _ h => h.elim⟩
theorem BothP.same (h : BothP w0 w T l lv m P) (hb : Below w.heap.size w w') : BothP w0 w' T l lv m P := by
  obtain ⟨F, B, h1, h2, h3, h4, h5, h6, h7, h8⟩ := h
  exact ⟨F, B, h1.below hb, fun a ha => ⟨(h2 a ha).1, Nat.lt_of_lt_of_le (h2 a ha).2 hb.size⟩, own_keep h3 fun a ha => hb.block a (own_lt h3 ha), h4, h5, h6.trans (hb.mono h6.size), h7, fun a ha => Nat.lt_of_lt_of_le (h8 a ha) hb.size⟩
/-- one block more. -/
theorem BothP.more (h : BothP w0 w T l lv m P) (hb : Below w.heap.size w w') (hX : w.heap.size ≤ X) (hX2 : X < w'.heap.size) : BothP w0 w' T l lv m (fun a => P a ∨ a = X) := by
  obtain ⟨F, B, h1, h2, h3, h4, h5, h6, h7, h8⟩ := h
  refine ⟨F, B, h1.below hb, fun a ha => ⟨(h2 a ha).1, Nat.lt_of_lt_of_le (h2 a ha).2 hb.size⟩, own_keep h3 fun a ha => hb.block a (own_lt h3 ha), h4, h5, h6.trans (hb.mono h6.size), fun a ha hc => ?_, fun a ha => ?_⟩
  · rcases hc with hc | hc
    · exact h7 a ha hc
    · have := (h2 a ha).2
      omega
  · rcases ha with ha | ha
    · exact Nat.lt_of_lt_of_le (h8 a ha) hb.size
    · omega
theorem BothP.with {B' : Nat} (h : BothP w0 w T l lv m P) (ho : OwE w B' v' m' w') : BothP w0 w' T l v' m' P := by
  obtain ⟨F, B, h1, h2, h3, h4, h5, h6, h7, h8⟩ := h
  refine ⟨F, B', h1.below ho.below, fun a ha => ⟨(h2 a ha).1, Nat.lt_of_lt_of_le (h2 a ha).2 ho.below.size⟩, ho.own, Nat.le_trans h6.size ho.le, fun a ha e => ?_, h6.trans (ho.below.mono h6.size), h7, fun a ha => Nat.lt_of_lt_of_le (h8 a ha) ho.below.size⟩
  have q1 := (ho.own.lt a e).1
  have q2 := (h2 a ha).2
  have q3 := ho.le
  omega
theorem BothP.step {F : Nat → Prop} {B : Nat} {l' : List En} (_h1 : TrF F w T l) (h2 : ∀ a, F a → w0.heap.size ≤ a ∧ a < w.heap.size) (h3 : w.ownsRow B 30 2 lv m.length (encEns m)) (h4 : w0.heap.size ≤ B) (h5 : ∀ a, F a → lv.ownBlock ≠ some a) (h6 : Below w0.heap.size w0 w) (h7 : ∀ a, F a → ¬ P a) (h8 : ∀ a, P a → a < w.heap.size)
    (ht : TrF (fun a => F a ∨ w.heap.size ≤ a) w' T l') (hf : Far F w w') : BothP w0 w' T l' lv m P ∧ ∀ a, P a → w'.heap[a]? = w.heap[a]? := by
  refine ⟨⟨_, B, ht.tight, fun a ha => ⟨?_, ha.2⟩, own_keep h3 fun a ha => hf.block a (own_lt h3 ha) fun hF => h5 a hF (vc_ne ha), h4, fun a ha e => ?_, h6.trans (hf.below h6.size fun a ha => (h2 a ha).1), fun a ha hc => ?_, fun a ha => Nat.lt_of_lt_of_le (h8 a ha) hf.size⟩, fun a ha => hf.block a (h8 a ha) fun hF => h7 a hF ha⟩
  · rcases ha.1 with q | q
    · exact (h2 a q).1
    · exact Nat.le_trans h6.size q
  · rcases ha.1 with q | q
    · exact h5 a q e
    · have := (h3.lt a e).2
      omega
  · rcases ha.1 with q | q
    · exact h7 a q hc
    · have := h8 a hc
      omega
theorem BothP.add (h : BothP w0 w T l lv m P) (e : En) (hn : l.length ≤ 1000000) : Calls Try.prog 14 #[.pointer (some ⟨T, 0, none⟩), .agg #[.string e.1, .int .i64 e.2]] w fun r w' => r = .returned (.bool (!hasE e l)) ∧ BothP w0 w' T (insE e l) lv m P ∧ ∀ a, P a → w'.heap[a]? = w.heap[a]? := by
  obtain ⟨F, B, h1, h2, h3, h4, h5, h6, h7, h8⟩ := h
  exact (AddT_any e w h1 hn).mono fun r w' ⟨k1, k2, k3⟩ => ⟨k1, BothP.step h1 h2 h3 h4 h5 h6 h7 h8 k2 k3⟩
theorem BothP.del (h : BothP w0 w T l lv m P) (e : En) (hn : l.length ≤ 1000000) : Calls Try.prog 15 #[.pointer (some ⟨T, 0, none⟩), .agg #[.string e.1, .int .i64 e.2]] w fun r w' => r = .returned (.bool (hasE e l)) ∧ BothP w0 w' T (delE e l) lv m P ∧ ∀ a, P a → w'.heap[a]? = w.heap[a]? := by
  obtain ⟨F, B, h1, h2, h3, h4, h5, h6, h7, h8⟩ := h
  exact (DelT_any e w h1 hn).mono fun r w' ⟨k1, k2, k3⟩ => ⟨k1, BothP.step h1 h2 h3 h4 h5 h6 h7 h8 k2 k3⟩
theorem BothP.With (h : BothP w0 w T l lv m P) (e : En) (inn : Bool) (hn : m.length ≤ 100000) : Calls Try.prog 13 #[lv, .agg #[.string e.1, .int .i64 e.2], .bool inn] w fun r w' => ∃ v', r = .returned (.tuple #[v', .bool (hasE e m != inn)]) ∧ BothP w0 w' T l v' (withL e (!inn) m) P ∧ Below w.heap.size w w' := by
  obtain ⟨B, hr⟩ := h.both.row
  exact (With_any m lv B e inn w hr hn).mono fun r w' ⟨v', k1, k2⟩ => ⟨v', k1, h.with k2, k2.below⟩
end
end Go.Proofs.Ytgnhillnikjnfaa
