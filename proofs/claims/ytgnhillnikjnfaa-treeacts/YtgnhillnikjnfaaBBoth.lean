/-
  A tree beside a row of entries; two trees beside one another: what a step of one leaves of the other. Conditions: as stated.
-/
import Derived.Test.YtgnhillnikjnfaaU25
namespace Go.Proofs.Ytgnhillnikjnfaa
open Go.RowKit

/-- a tree of l, a row of m, apart, all new since. -/
def Both (w0 w : World) (T : Nat) (l : List En) (lv : Value) (m : List En) : Prop :=
  ∃ (F : Nat → Prop) (B : Nat), TrF F w T l ∧ (∀ a, F a → w0.heap.size ≤ a ∧ a < w.heap.size) ∧ w.ownsRow B 30 2 lv m.length (encEns m) ∧ w0.heap.size ≤ B ∧ (∀ a, F a → lv.ownBlock ≠ some a) ∧ Below w0.heap.size w0 w
section
variable {w0 w w' : World} {T : Nat} {l m m' : List En} {lv v' : Value}
theorem Both.below (h : Both w0 w T l lv m) : Below w0.heap.size w0 w := by
  obtain ⟨F, B, -, -, -, -, -, h6⟩ := h; exact h6
theorem Both.row (h : Both w0 w T l lv m) : ∃ B, w.ownsRow B 30 2 lv m.length (encEns m) := by
  obtain ⟨F, B, -, -, h3, -⟩ := h; exact ⟨B, h3⟩
theorem Both.tree (h : Both w0 w T l lv m) : ∃ F, TrF F w T l := by
  obtain ⟨F, B, h1, -⟩ := h; exact ⟨F, h1⟩
theorem Both.sort (h : Both w0 w T l lv m) : SortE l := by
  obtain ⟨F, h1⟩ := h.tree; exact h1.sort
theorem Both.slice (h : Both w0 w T l lv m) : ∃ a c, lv = .slice a m.length c := by
  obtain ⟨B, h1⟩ := h.row; exact slice_of_row h1
theorem Both.same (h : Both w0 w T l lv m) (hb : Below w.heap.size w w') : Both w0 w' T l lv m := by
  obtain ⟨F, B, h1, h2, h3, h4, h5, h6⟩ := h
  exact ⟨F, B, h1.below hb, fun a ha => ⟨(h2 a ha).1, Nat.lt_of_lt_of_le (h2 a ha).2 hb.size⟩, own_keep h3 fun a ha => hb.block a (own_lt h3 ha), h4, h5, h6.trans (hb.mono h6.size)⟩
theorem Both.with {B' : Nat} (h : Both w0 w T l lv m) (ho : OwE w B' v' m' w') : Both w0 w' T l v' m' := by
  obtain ⟨F, B, h1, h2, h3, h4, h5, h6⟩ := h
  refine ⟨F, B', h1.below ho.below, fun a ha => ⟨(h2 a ha).1, Nat.lt_of_lt_of_le (h2 a ha).2 ho.below.size⟩, ho.own, Nat.le_trans h6.size ho.le, fun a ha e => ?_, h6.trans (ho.below.mono h6.size)⟩
  have h7 := (ho.own.lt a e).1
  have h8 := (h2 a ha).2
  have h9 := ho.le
  omega
theorem Both.new (hb : Below w0.heap.size w0 w) (ht : TrF (fun a => w.heap.size ≤ a) w' T []) (hb' : Below w.heap.size w w') : Both w0 w' T [] (.slice none 0 0) [] :=
  ⟨_, w0.heap.size, ht.tight, fun a ha => ⟨Nat.le_trans hb.size ha.1, ha.2⟩, World.ownsRow_nil _ _ _ _, Nat.le_refl _, (fun a _ e => by cases e), hb.trans (hb'.mono hb.size)⟩
theorem Both.step {F : Nat → Prop} {B : Nat} {l' : List En} (_h1 : TrF F w T l) (h2 : ∀ a, F a → w0.heap.size ≤ a ∧ a < w.heap.size) (h3 : w.ownsRow B 30 2 lv m.length (encEns m)) (h4 : w0.heap.size ≤ B) (h5 : ∀ a, F a → lv.ownBlock ≠ some a) (h6 : Below w0.heap.size w0 w)
    (ht : TrF (fun a => F a ∨ w.heap.size ≤ a) w' T l') (hf : Far F w w') : Both w0 w' T l' lv m := by
  refine ⟨_, B, ht.tight, fun a ha => ⟨?_, ha.2⟩, own_keep h3 fun a ha => hf.block a (own_lt h3 ha) fun hF => h5 a hF (vc_ne ha), h4, fun a ha e => ?_, h6.trans (hf.below h6.size fun a ha => (h2 a ha).1)⟩
  · rcases ha.1 with h7 | h7
    · exact (h2 a h7).1
    · exact Nat.le_trans h6.size h7
  · rcases ha.1 with h7 | h7
    · exact h5 a h7 e
    · have := (h3.lt a e).2
      omega
theorem Both.add (h : Both w0 w T l lv m) (e : En) (hn : l.length ≤ 1000000) : Calls Try.prog 14 #[.pointer (some ⟨T, 0, none⟩), .agg #[.string e.1, .int .i64 e.2]] w fun r w' => r = .returned (.bool (!hasE e l)) ∧ Both w0 w' T (insE e l) lv m := by
  obtain ⟨F, B, h1, h2, h3, h4, h5, h6⟩ := h
  exact (AddT_any e w h1 hn).mono fun r w' ⟨k1, k2, k3⟩ => ⟨k1, Both.step h1 h2 h3 h4 h5 h6 k2 k3⟩
theorem Both.del (h : Both w0 w T l lv m) (e : En) (hn : l.length ≤ 1000000) : Calls Try.prog 15 #[.pointer (some ⟨T, 0, none⟩), .agg #[.string e.1, .int .i64 e.2]] w fun r w' => r = .returned (.bool (hasE e l)) ∧ Both w0 w' T (delE e l) lv m := by
  obtain ⟨F, B, h1, h2, h3, h4, h5, h6⟩ := h
  exact (DelT_any e w h1 hn).mono fun r w' ⟨k1, k2, k3⟩ => ⟨k1, Both.step h1 h2 h3 h4 h5 h6 k2 k3⟩
theorem Both.With (h : Both w0 w T l lv m) (e : En) (inn : Bool) (hn : m.length ≤ 100000) : Calls Try.prog 13 #[lv, .agg #[.string e.1, .int .i64 e.2], .bool inn] w fun r w' => ∃ v', r = .returned (.tuple #[v', .bool (hasE e m != inn)]) ∧ Both w0 w' T l v' (withL e (!inn) m) ∧ Below w.heap.size w w' := by
  obtain ⟨B, hr⟩ := h.row
  exact (With_any m lv B e inn w hr hn).mono fun r w' ⟨v', k1, k2⟩ => ⟨v', k1, h.with k2, k2.below⟩
end
/-- two trees, apart, all new since. -/
def Two (w0 w : World) (T U : Nat) (l m : List En) : Prop :=
  ∃ F G : Nat → Prop, TrF F w T l ∧ TrF G w U m ∧ (∀ a, F a → w0.heap.size ≤ a ∧ a < w.heap.size) ∧ (∀ a, G a → w0.heap.size ≤ a ∧ a < w.heap.size) ∧ (∀ a, F a → ¬ G a) ∧ Below w0.heap.size w0 w
section
variable {w0 w w' : World} {T U : Nat} {l m : List En}
theorem Two.below (h : Two w0 w T U l m) : Below w0.heap.size w0 w := by
  obtain ⟨F, G, -, -, -, -, -, h6⟩ := h; exact h6
theorem Two.left (h : Two w0 w T U l m) : ∃ F, TrF F w T l := by
  obtain ⟨F, G, h1, -⟩ := h; exact ⟨F, h1⟩
theorem Two.turn (h : Two w0 w T U l m) : Two w0 w U T m l := by
  obtain ⟨F, G, h1, h2, h3, h4, h5, h6⟩ := h
  exact ⟨G, F, h2, h1, h4, h3, fun a hG hF => h5 a hF hG, h6⟩
theorem Two.same (h : Two w0 w T U l m) (hb : Below w.heap.size w w') : Two w0 w' T U l m := by
  obtain ⟨F, G, h1, h2, h3, h4, h5, h6⟩ := h
  exact ⟨F, G, h1.below hb, h2.below hb, fun a ha => ⟨(h3 a ha).1, Nat.lt_of_lt_of_le (h3 a ha).2 hb.size⟩, fun a ha => ⟨(h4 a ha).1, Nat.lt_of_lt_of_le (h4 a ha).2 hb.size⟩, h5, h6.trans (hb.mono h6.size)⟩
theorem Two.new {w1 w2 : World} (hb : Below w0.heap.size w0 w) (ht : TrF (fun a => w.heap.size ≤ a) w1 T []) (hb1 : Below w.heap.size w w1) (hu : TrF (fun a => w1.heap.size ≤ a) w2 U []) (hb2 : Below w1.heap.size w1 w2) : Two w0 w2 T U [] [] := by
  have h1 := ht.tight.below hb2
  have h2 := hu.tight
  refine ⟨_, _, h1, h2, fun a ha => ⟨Nat.le_trans hb.size ha.1, Nat.lt_of_lt_of_le ha.2 hb2.size⟩, fun a ha => ⟨Nat.le_trans (hb.trans (hb1.mono hb.size)).size ha.1, ha.2⟩, fun a ha hc => ?_, (hb.trans (hb1.mono hb.size)).trans (hb2.mono (hb.trans (hb1.mono hb.size)).size)⟩
  have h3 := ha.2
  have h4 := hc.1
  omega
theorem Two.add (h : Two w0 w T U l m) (e : En) (hn : l.length ≤ 1000000) : Calls Try.prog 14 #[.pointer (some ⟨T, 0, none⟩), .agg #[.string e.1, .int .i64 e.2]] w fun r w' => r = .returned (.bool (!hasE e l)) ∧ Two w0 w' T U (insE e l) m := by
  obtain ⟨F, G, h1, h2, h3, h4, h5, h6⟩ := h
  refine (AddT_any e w h1 hn).mono fun r w' ⟨k1, k2, k3⟩ => ⟨k1, _, G, k2.tight, h2.far k3 fun a hG hF => h5 a hF hG, fun a ha => ⟨?_, ha.2⟩, fun a ha => ⟨(h4 a ha).1, Nat.lt_of_lt_of_le (h4 a ha).2 k3.size⟩, fun a ha hG => ?_, h6.trans (k3.below h6.size fun a ha => (h3 a ha).1)⟩
  · rcases ha.1 with h7 | h7
    · exact (h3 a h7).1
    · exact Nat.le_trans h6.size h7
  · rcases ha.1 with h7 | h7
    · exact h5 a h7 hG
    · have := (h4 a hG).2
      omega
end
end Go.Proofs.Ytgnhillnikjnfaa
