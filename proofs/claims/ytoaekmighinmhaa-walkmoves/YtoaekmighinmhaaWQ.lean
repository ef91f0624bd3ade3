/-
  A tree beside a row and beside blocks that are written: what a step leaves. Entries above, below. Conditions: as stated.
-/
import Derived.Test.YtoaekmighinmhaaU27
namespace Go.Proofs.Ytoaekmighinmhaa
open Go.RowKit

/-- as BothP, and the row lies in none of those blocks. -/
def BothQ (w0 w : World) (T : Nat) (l : List En) (lv : Value) (m : List En) (P : Nat → Prop) : Prop := BothP w0 w T l lv m P ∧ ∀ a, P a → lv.ownBlock ≠ some a
section
variable {w0 w w' : World} {T X : Nat} {l m : List En} {lv : Value} {P : Nat → Prop}
theorem BothQ.below (h : BothQ w0 w T l lv m P) : Below w0.heap.size w0 w := h.1.both.below
theorem Both.q (h : Both w0 w T l lv m) : BothQ w0 w T l lv m (fun _ => False) := ⟨h.p, fun _ h => h.elim⟩
theorem BothQ.same (h : BothQ w0 w T l lv m P) (hb : Below w.heap.size w w') : BothQ w0 w' T l lv m P := ⟨h.1.same hb, h.2⟩
theorem BothQ.lt (h : BothQ w0 w T l lv m P) {a : Nat} (ha : P a) : a < w.heap.size := by
  obtain ⟨⟨F, B, -, -, -, -, -, -, -, h8⟩, -⟩ := h
  exact h8 a ha
theorem BothQ.more (h : BothQ w0 w T l lv m P) (hb : Below w.heap.size w w') (hX : w.heap.size ≤ X) (hX2 : X < w'.heap.size) : BothQ w0 w' T l lv m (fun a => P a ∨ a = X) := by
  refine ⟨h.1.more hb hX hX2, fun a ha e => ?_⟩
  rcases ha with ha | ha
  · exact h.2 a ha e
  · obtain ⟨B, hr⟩ := h.1.both.row
    have := (hr.lt a e).2
    omega
/-- such a block is written. -/
theorem BothQ.far (h : BothQ w0 w T l lv m P) (hf : Far (fun a => a = X) w w') (hP : P X) (h0 : w0.heap.size ≤ X) : BothQ w0 w' T l lv m P := by
  obtain ⟨⟨F, B, h1, h2, h3, h4, h5, h6, h7, h8⟩, hq⟩ := h
  refine ⟨⟨F, B, h1.far hf fun a ha e => h7 a ha (by rw [show a = X from e]; exact hP), fun a ha => ⟨(h2 a ha).1, Nat.lt_of_lt_of_le (h2 a ha).2 hf.size⟩, own_keep h3 fun a ha => hf.block a (own_lt h3 ha) fun e => hq X hP (by rw [← show a = X from e]; exact vc_ne ha), h4, h5, h6.trans (hf.below h6.size fun a ha => by rw [show a = X from ha]; exact h0), h7, fun a ha => Nat.lt_of_lt_of_le (h8 a ha) hf.size⟩, hq⟩
theorem BothQ.add (h : BothQ w0 w T l lv m P) (e : En) (hn : l.length ≤ 1000000) : Calls Try.prog 15 #[.pointer (some ⟨T, 0, none⟩), .agg #[.string e.1, .int .i64 e.2]] w fun r w' => r = .returned (.bool (!hasE e l)) ∧ BothQ w0 w' T (insE e l) lv m P ∧ ∀ a, P a → w'.heap[a]? = w.heap[a]? :=
  (h.1.add e hn).mono fun _r _w' ⟨k1, k2, k3⟩ => ⟨k1, ⟨k2, h.2⟩, k3⟩
theorem BothQ.del (h : BothQ w0 w T l lv m P) (e : En) (hn : l.length ≤ 1000000) : Calls Try.prog 16 #[.pointer (some ⟨T, 0, none⟩), .agg #[.string e.1, .int .i64 e.2]] w fun r w' => r = .returned (.bool (hasE e l)) ∧ BothQ w0 w' T (delE e l) lv m P ∧ ∀ a, P a → w'.heap[a]? = w.heap[a]? :=
  (h.1.del e hn).mono fun _r _w' ⟨k1, k2, k3⟩ => ⟨k1, ⟨k2, h.2⟩, k3⟩
theorem BothQ.With (h : BothQ w0 w T l lv m P) (e : En) (inn : Bool) (hn : m.length ≤ 100000) : Calls Try.prog 13 #[lv, .agg #[.string e.1, .int .i64 e.2], .bool inn] w fun r w' => ∃ v', r = .returned (.tuple #[v', .bool (hasE e m != inn)]) ∧ BothQ w0 w' T l v' (withL e (!inn) m) P ∧ Below w.heap.size w w' := by
  obtain ⟨B, hr⟩ := h.1.both.row
  refine (With_any m lv B e inn w hr hn).mono fun r w' ⟨v', k1, k2⟩ => ⟨v', k1, ⟨h.1.with k2, fun a ha e => ?_⟩, k2.below⟩
  have h1 := (k2.own.lt a e).1
  have h2 := h.lt ha
  omega
end
theorem Mk.far {w w' : World} {X Y : Nat} {k : ByteArray} {i : Int} {b : Bool} (h : Mk w Y k i b) (hf : Far (fun a => a = X) w w') (hne : Y ≠ X) : Mk w' Y k i b := (hf.block Y (lt_of_heap h) hne).trans h
theorem mark_step (J : List En) (k : Nat) : (J[k]?).or (markE J k) = markE J (k + 1) := by
  cases h : J[k]? with
  | some x => rw [mark_some h]; rfl
  | none => rw [mark_stay h]; rfl
/-- one who came to the end is told of what comes behind it. -/
theorem wait_new {l l2 : List En} {e z : En} (hs : SortE l) (hs2 : SortE l2) (h2 : ∀ y, y ∈ l2 ↔ y = z ∨ y = e ∨ y ∈ l) (hez : cmpE e z < 0) (h : ∀ x, l.getLast? = some x → cmpE x e < 0) : nextE l2 ⟨#[]⟩ ⟨#[]⟩ false l.getLast? = some e := by
  refine next_is hs2 ((h2 e).2 (.inr (.inl rfl))) ?_ (in_all e) fun y hy hb _ => ?_
  · cases hx : l.getLast? with
    | none => rfl
    | some x => simpa [behE, goE] using h x hx
  · rcases (h2 y).1 hy with h1 | h1 | h1
    · rw [h1]; exact .inr (by simpa [goE] using hez)
    · exact .inl h1
    · exfalso
      cases hx : l.getLast? with
      | none => rw [List.getLast?_eq_none_iff.1 hx] at h1; cases h1
      | some x =>
        rw [hx] at hb
        have hxy : cmpE x y < 0 := by simpa [behE, goE] using hb
        rcases last_high hs hx y h1 with h3 | h3
        · rw [h3] at hxy; exact ltE_irrefl hxy
        · exact ltE_asymm h3 hxy
theorem wait_late {l l2 : List En} {e z x : En} (hs : SortE l) (hs2 : SortE l2) (h2 : ∀ y, y ∈ l2 ↔ y = z ∨ y = e ∨ y ∈ l) (hx : l.getLast? = some x) (hn : ¬ cmpE x e < 0) (hxz : cmpE x z < 0) : nextE l2 ⟨#[]⟩ ⟨#[]⟩ false (some x) = some z := by
  refine next_is hs2 ((h2 z).2 (.inl rfl)) (by simpa [behE, goE] using hxz) (in_all z) fun y hy hb _ => ?_
  have hxy : cmpE x y < 0 := by simpa [behE, goE] using hb
  rcases (h2 y).1 hy with h1 | h1 | h1
  · exact .inl h1
  · rw [h1] at hxy; exact absurd hxy hn
  · exfalso
    rcases last_high hs hx y h1 with h3 | h3
    · rw [h3] at hxy; exact ltE_irrefl hxy
    · exact ltE_asymm h3 hxy
end Go.Proofs.Ytoaekmighinmhaa
