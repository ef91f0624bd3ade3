/-
  Nodes of a tree as they lie in memory: each block is one node's alone, or one slice's. What a deed on one node, on some beside one another, on one kid is to the tree. No conditions beyond those stated.
  Some nodes beside one another, step by step; a node and some of its kids become others, all below them as it was. No conditions beyond those stated.
  compare, place, leaf, spares by their contracts. No conditions beyond those stated.
-/
import Derived.Test.YtoaekmighinmhaaU2
import Derived.Shelf.Abstract
import Derived.Deep.LoopGhost
import Derived.Lib.QuietBelow
import Derived.BigQuiet
import Derived.Deep.RegionHeld3
namespace Go.Proofs.Ytoaekmighinmhaa
open Go.RowKit

/-- how often a block is a slice's own; a node's, or its slices'; all that of a node and all below it. -/
def vc (a : Nat) (v : Value) : Nat := if v.ownBlock = some a then 1 else 0
def sc (a : Nat) (t : Nd) : Nat := (if a = t.b then 1 else 0) + vc a t.s + vc a t.k
def tc : Nat → Nat → Nd → Nat
  | 0, a, t => sc a t
  | n + 1, a, t => sc a t + (t.kids.map (tc n a)).sum
/-- a node by itself: its two slices. -/
structure Sh (W : World) (t : Nd) : Prop where
  node : W.heap[t.b]? = some (.cells #[t.s, t.k] 69 (0, 0))
  es : W.ownsRow 0 34 2 t.s t.es.length (encEns t.es)
  ks : W.ownsRow 0 62 1 t.k t.kids.length (encPs (t.kids.map Nd.b))
  nil : t.kids = [] → t.k = .slice none 0 0
/-- a tree so deep. -/
def Live : Nat → World → Nd → Prop
  | 0, W, t => Sh W t ∧ t.kids = []
  | n + 1, W, t => Sh W t ∧ t.kids.length = t.es.length + 1 ∧ ∀ k ∈ t.kids, Live n W k
def Own (n : Nat) (W : World) (t : Nd) : Prop := Live n W t ∧ ∀ a, tc n a t ≤ 1
/-- what was there stays but for the blocks that f counts. -/
structure Chg (f : Nat → Nat) (w w' : World) : Prop where
  os : w'.os = w.os
  tape : w'.tape = w.tape
  output : w'.output = w.output
  size : w.heap.size ≤ w'.heap.size
  block : ∀ a, a < w.heap.size → f a = 0 → w'.heap[a]? = w.heap[a]?
theorem Chg.refl (f : Nat → Nat) (w : World) : Chg f w w := ⟨rfl, rfl, rfl, Nat.le_refl _, fun _ _ _ => rfl⟩
theorem Chg.trans {f g : Nat → Nat} {a b c : World} (h : Chg f a b) (k : Chg g b c) (hfg : ∀ x, x < a.heap.size → f x = 0 → g x = 0) : Chg f a c :=
  ⟨k.os.trans h.os, k.tape.trans h.tape, k.output.trans h.output, Nat.le_trans h.size k.size, fun x hx hf => (k.block x (Nat.lt_of_lt_of_le hx h.size) (hfg x hx hf)).trans (h.block x hx hf)⟩
theorem Chg.mono {f g : Nat → Nat} {w w' : World} (h : Chg f w w') (hfg : ∀ x, x < w.heap.size → g x = 0 → f x = 0) : Chg g w w' :=
  ⟨h.os, h.tape, h.output, h.size, fun x hx hg => h.block x hx (hfg x hx hg)⟩
theorem Chg.below {f : Nat → Nat} {w w' : World} (h : Below w.heap.size w w') : Chg f w w' := ⟨h.os, h.tape, h.output, h.size, fun x hx _ => h.block x hx⟩
theorem Chg.to_below {f : Nat → Nat} {w w' : World} {B : Nat} (h : Chg f w w') (hB : B ≤ w.heap.size) (hf : ∀ a, a < B → f a = 0) : Below B w w' :=
  ⟨h.os, h.tape, h.output, h.size, fun x hx => h.block x (by omega) (hf x hx)⟩

theorem vc_le (a : Nat) (v : Value) : vc a v ≤ 1 := by unfold vc; split <;> omega
theorem vc_ne {a : Nat} {v : Value} (h : vc a v ≠ 0) : v.ownBlock = some a := by
  unfold vc at h
  split at h
  · assumption
  · exact absurd rfl h
theorem vc_of {a : Nat} {v : Value} (h : v.ownBlock = some a) : vc a v = 1 := by unfold vc; rw [if_pos h]
theorem vc_same {a : Nat} {u v : Value} (h : u.ownBlock = v.ownBlock) : vc a u = vc a v := by unfold vc; rw [h]
theorem vc_nil (a : Nat) (n c : Nat) : vc a (.slice none n c) = 0 := by simp [vc, Value.ownBlock]
section
variable {W W' : World} {t : Nd} {n : Nat}
theorem own_keep {base e size m : Nat} {v : Value} {xs : List Value} (h : W.ownsRow base e size v m xs) (hk : ∀ a, vc a v ≠ 0 → W'.heap[a]? = W.heap[a]?) : W'.ownsRow base e size v m xs := by
  refine ⟨h.1, ?_⟩
  rcases h.2 with hn | ⟨g, cap, cur, rfl, hb, hg, rest⟩
  · exact .inl hn
  · refine .inr ⟨g, cap, cur, rfl, hb, ?_, rest⟩
    rw [hk g (by rw [vc_of rfl]; omega)]
    exact hg
theorem own_lt {base e size m : Nat} {v : Value} {xs : List Value} (h : W.ownsRow base e size v m xs) {a : Nat} (ha : vc a v ≠ 0) : a < W.heap.size := (h.lt a (vc_ne ha)).2
theorem Sh.lt (h : Sh W t) {a : Nat} (ha : sc a t ≠ 0) : a < W.heap.size := by
  unfold sc at ha
  by_cases h1 : a = t.b
  · rw [h1]; exact lt_of_heap h.node
  · rw [if_neg h1] at ha
    by_cases h2 : vc a t.s = 0
    · exact own_lt h.ks (by omega)
    · exact own_lt h.es h2
theorem Sh.keep (h : Sh W t) (hk : ∀ a, sc a t ≠ 0 → W'.heap[a]? = W.heap[a]?) : Sh W' t :=
  ⟨(hk t.b (by unfold sc; rw [if_pos rfl]; omega)).trans h.node, own_keep h.es fun a ha => hk a (by unfold sc; omega), own_keep h.ks fun a ha => hk a (by unfold sc; omega), h.nil⟩
theorem Sh.below (h : Sh W t) (hb : Below W.heap.size W W') : Sh W' t := h.keep fun a ha => hb.block a (h.lt ha)
theorem le_sum {α : Type} (f : α → Nat) : ∀ {l : List α} {x : α}, x ∈ l → f x ≤ (l.map f).sum
  | [], _, h => by cases h
  | y :: l, x, h => by
    rw [List.map_cons, List.sum_cons]
    rcases List.mem_cons.1 h with rfl | h
    · omega
    · have := le_sum f h; omega
theorem sum_zero {α : Type} (f : α → Nat) : ∀ {l : List α}, (∀ x ∈ l, f x = 0) → (l.map f).sum = 0
  | [], _ => rfl
  | y :: l, h => by
    rw [List.map_cons, List.sum_cons, h y (by simp), sum_zero f fun x hx => h x (List.mem_cons_of_mem _ hx)]
theorem sum_ne {α : Type} (f : α → Nat) {l : List α} (h : (l.map f).sum ≠ 0) : ∃ x ∈ l, f x ≠ 0 := by
  refine Classical.byContradiction fun hc => h (sum_zero f fun x hx => ?_)
  refine Classical.byContradiction fun hx0 => hc ⟨x, hx, hx0⟩
theorem sum_app {α : Type} (f : α → Nat) (a b : List α) : ((a ++ b).map f).sum = (a.map f).sum + (b.map f).sum := by rw [List.map_append, List.sum_append]
theorem sum_cons {α : Type} (f : α → Nat) (x : α) (b : List α) : ((x :: b).map f).sum = f x + (b.map f).sum := by rw [List.map_cons, List.sum_cons]
theorem tc_sc (n a : Nat) (t : Nd) : sc a t ≤ tc n a t := by
  cases n with
  | zero => exact Nat.le_refl _
  | succ n => unfold tc; omega
theorem Live.sh : ∀ {n : Nat}, Live n W t → Sh W t
  | 0, h => h.1
  | _ + 1, h => h.1
theorem Live.keep : ∀ {n : Nat} {t : Nd}, Live n W t → (∀ a, tc n a t ≠ 0 → W'.heap[a]? = W.heap[a]?) → Live n W' t
  | 0, _, h, hk => ⟨h.1.keep hk, h.2⟩
  | n + 1, t, h, hk => ⟨h.1.keep fun a ha => hk a (by have := tc_sc (n + 1) a t; omega), h.2.1, fun k hkm => (h.2.2 k hkm).keep fun a ha => hk a (by
      have := le_sum (tc n a) hkm
      unfold tc; omega)⟩
theorem Live.lt : ∀ {n : Nat} {t : Nd}, Live n W t → ∀ {a : Nat}, tc n a t ≠ 0 → a < W.heap.size
  | 0, _, h, _, ha => h.1.lt ha
  | n + 1, t, h, a, ha => by
    unfold tc at ha
    by_cases h1 : sc a t = 0
    · obtain ⟨k, hk, hka⟩ := sum_ne (tc n a) (l := t.kids) (by omega)
      exact (h.2.2 k hk).lt hka
    · exact h.1.lt h1
theorem Live.below (h : Live n W t) (hb : Below W.heap.size W W') : Live n W' t := h.keep fun a ha => hb.block a (h.lt ha)
theorem Own.below (h : Own n W t) (hb : Below W.heap.size W W') : Own n W' t := ⟨h.1.below hb, h.2⟩
end

/-- a tree that becomes another one, in blocks of its own or in new ones. -/
structure Evo (n : Nat) (w : World) (t : Nd) (w' : World) (t' : Nd) : Prop where
  own : Own n w' t'
  b : t'.b = t.b
  chg : Chg (fun a => tc n a t) w w'
  cnt : ∀ a, a < w.heap.size → tc n a t' ≤ tc n a t
theorem Evo.below {n : Nat} {w w' : World} {t : Nd} (h : Own n w t) (hb : Below w.heap.size w w') : Evo n w t w' t := ⟨h.below hb, rfl, .below hb, fun _ _ => Nat.le_refl _⟩
theorem Evo.trans {n : Nat} {w w1 w2 : World} {t t1 t2 : Nd} (h : Evo n w t w1 t1) (k : Evo n w1 t1 w2 t2) : Evo n w t w2 t2 :=
  ⟨k.own, k.b.trans h.b, h.chg.trans k.chg fun x hx hf => Nat.le_zero.1 (Nat.le_trans (h.cnt x hx) (Nat.le_of_eq hf)), fun a ha => Nat.le_trans (k.cnt a (Nat.lt_of_lt_of_le ha h.chg.size)) (h.cnt a ha)⟩
theorem Evo.sizes {n : Nat} {w w' : World} {t t' : Nd} (h : Evo n w t w' t') : w.heap.size ≤ w'.heap.size := h.chg.size

theorem split_at {α : Type} {l : List α} {i : Nat} {x : α} (h : l[i]? = some x) : l = l.take i ++ x :: l.drop (i + 1) := by
  have hj := (List.getElem?_eq_some_iff.1 h).1
  have h6 := List.drop_eq_getElem_cons hj
  have h7 : l[i] = x := by rw [List.getElem?_eq_getElem hj] at h; exact Option.some.inj h
  rw [h7] at h6
  rw [← h6, List.take_append_drop]
theorem set_at {α : Type} {l : List α} {i : Nat} {x : α} (y : α) (h : l[i]? = some x) : l.set i y = l.take i ++ y :: l.drop (i + 1) := by
  have hj := (List.getElem?_eq_some_iff.1 h).1
  rw [List.set_eq_take_append_cons_drop, if_pos hj]

/-- a kid becomes another one. -/
theorem evo_kid {n i : Nat} {w w' : World} {t k k' : Nd} (h : Own (n + 1) w t) (hk : t.kids[i]? = some k) (e : Evo n w k w' k') : Evo (n + 1) w t w' { t with kids := t.kids.set i k' } := by
  obtain ⟨A, hA⟩ : ∃ A, t.kids.take i = A := ⟨_, rfl⟩
  obtain ⟨D, hD⟩ : ∃ D, t.kids.drop (i + 1) = D := ⟨_, rfl⟩
  have e1 := split_at hk
  have e2 := set_at k' hk
  rw [hA, hD] at e1 e2
  have hl := h.1
  have tot : ∀ a, tc (n + 1) a t = sc a t + ((A.map (tc n a)).sum + (tc n a k + (D.map (tc n a)).sum)) := fun a => by
    show sc a t + (t.kids.map (tc n a)).sum = _
    rw [e1, sum_app, sum_cons]
  have tot' : ∀ a, tc (n + 1) a { t with kids := t.kids.set i k' } = sc a t + ((A.map (tc n a)).sum + (tc n a k' + (D.map (tc n a)).sum)) := fun a => by
    show sc a { t with kids := t.kids.set i k' } + ((t.kids.set i k').map (tc n a)).sum = _
    rw [e2, sum_app, sum_cons]; rfl
  have keepx : ∀ x, x ∈ A ∨ x ∈ D → Live n w' x := fun x hx => by
    have hxl : Live n w x := hl.2.2 x (by rw [e1]; rcases hx with hx | hx <;> simp [hx])
    refine hxl.keep fun a ha => e.chg.block a (hxl.lt ha) ?_
    have h1 := h.2 a
    have h2 := tot a
    show tc n a k = 0
    rcases hx with hx | hx
    · have := le_sum (tc n a) hx; omega
    · have := le_sum (tc n a) hx; omega
  refine ⟨⟨⟨?_, ?_, ?_⟩, fun a => ?_⟩, rfl, e.chg.mono fun a _ ha => ?_, fun a ha => ?_⟩
  · have h1 : Sh w' t := hl.1.keep fun a ha => e.chg.block a (hl.1.lt ha) (by have h1 := h.2 a; have h2 := tot a; show tc n a k = 0; omega)
    refine ⟨h1.node, h1.es, ?_, fun hn => ?_⟩
    · have h2 := h1.ks
      have h3 : (t.kids.set i k').map Nd.b = t.kids.map Nd.b := by
        rw [e2]
        conv => rhs; rw [e1]
        simp [e.b]
      show w'.ownsRow 0 _ 1 t.k (t.kids.set i k').length (encPs ((t.kids.set i k').map Nd.b))
      rw [List.length_set, h3]
      exact h2
    · have hn : t.kids.set i k' = [] := hn
      rw [e2] at hn
      simp at hn
  · show (t.kids.set i k').length = _
    rw [List.length_set]; exact hl.2.1
  · intro x hx
    have hx : x ∈ t.kids.set i k' := hx
    rw [e2] at hx
    rcases List.mem_append.1 hx with hx | hx
    · exact keepx x (.inl hx)
    · rcases List.mem_cons.1 hx with rfl | hx
      · exact e.own.1
      · exact keepx x (.inr hx)
  · rw [tot']
    have h1 := h.2 a
    have h2 := tot a
    by_cases ha : a < w.heap.size
    · have := e.cnt a ha; omega
    · have h3 : tc (n + 1) a t = 0 := Classical.byContradiction fun hc => ha (hl.lt hc)
      have := e.own.2 a
      omega
  · have h2 := tot a
    have ha : tc (n + 1) a t = 0 := ha
    show tc n a k = 0
    omega
  · have := e.cnt a ha
    have h2 := tot a
    have h3 := tot' a
    omega

/-- one node by itself becomes another one. -/
structure Ev1 (w : World) (t : Nd) (w' : World) (t' : Nd) : Prop where
  sh : Sh w' t'
  b : t'.b = t.b
  chg : Chg (fun a => sc a t) w w'
  cnt : ∀ a, a < w.heap.size → sc a t' ≤ sc a t
  one : ∀ a, sc a t' ≤ 1
theorem Ev1.evo0 {w w' : World} {t t' : Nd} (h : Ev1 w t w' t') (hk : t'.kids = []) : Evo 0 w t w' t' := ⟨⟨⟨h.sh, hk⟩, h.one⟩, h.b, h.chg, h.cnt⟩
theorem Ev1.trans {w w1 w2 : World} {t t1 t2 : Nd} (h : Ev1 w t w1 t1) (k : Ev1 w1 t1 w2 t2) : Ev1 w t w2 t2 :=
  ⟨k.sh, k.b.trans h.b, h.chg.trans k.chg fun x hx hf => Nat.le_zero.1 (Nat.le_trans (h.cnt x hx) (Nat.le_of_eq hf)), fun a ha => Nat.le_trans (k.cnt a (Nat.lt_of_lt_of_le ha h.chg.size)) (h.cnt a ha), k.one⟩
theorem Ev1.below {w w' : World} {t : Nd} (h : Sh w t) (h1 : ∀ a, sc a t ≤ 1) (hb : Below w.heap.size w w') : Ev1 w t w' t := ⟨h.below hb, rfl, .below hb, fun _ _ => Nat.le_refl _, h1⟩

theorem heap_setCell_at {w : World} {b i : Nat} {u : Value} {cur : Array Value} {ty : TypeId} (h : w.heap[b]? = some (.cells cur ty (0, 0))) : (w.setCell ⟨b, i, none⟩ u).heap[b]? = some (.cells (cur.setIfInBounds i u) ty (0, 0)) := by
  rw [setCell_eq_setRow w b i cur ty (0, 0) u h]
  exact setRow_heap w b cur _ ty (0, 0) h
theorem chg_setCell {f : Nat → Nat} {w : World} {b i : Nat} {u : Value} (hf : f b ≠ 0) : Chg f w (w.setCell ⟨b, i, none⟩ u) :=
  ⟨rfl, rfl, rfl, by simp [World.setCell], fun a _ ha => Below.heap_setCell _ _ _ _ (fun e => hf (by have e : a = b := e; rw [← e]; exact ha))⟩
theorem chg_grown {f : Nat → Nat} {w w' : World} {v : Value} (hg : w.grownBy w' v.ownBlock) (hf : ∀ a, vc a v ≠ 0 → f a ≠ 0) : Chg f w w' :=
  ⟨hg.os, hg.tape, hg.output, hg.size, fun a ha h0 => hg.block a ha (fun e => hf a (by rw [vc_of e.symm]; omega) h0)⟩

section
variable {w w1 w2 : World} {t : Nd} {v : Value}
/-- a node's entries are others: their slice grew, or shrank, and was put back. -/
theorem ev1_putS {es' : List En} (h : Sh w t) (h1 : ∀ a, sc a t ≤ 1) (hb : Below w.heap.size w w1) (hg : w1.grownBy w2 t.s.ownBlock) (hr : w2.ownsRow 0 34 2 v es'.length (encEns es')) (hv : t.s.ownBlock = v.ownBlock ∨ ∃ g, v.ownBlock = some g ∧ w.heap.size ≤ g) :
    Ev1 w t (w2.setCell ⟨t.b, 0, none⟩ v) { t with s := v, es := es' } := by
  have hsb : sc t.b t = 1 := by have := h1 t.b; unfold sc at this ⊢; rw [if_pos rfl] at this ⊢; omega
  have hbs : vc t.b t.s = 0 ∧ vc t.b t.k = 0 := by unfold sc at hsb; rw [if_pos rfl] at hsb; omega
  have hbl := lt_of_heap h.node
  have hbv : vc t.b v = 0 := by
    rcases hv with hv | ⟨g, hv, hgl⟩
    · rw [← vc_same hv]; exact hbs.1
    · refine Classical.byContradiction fun hc => ?_
      have := vc_ne hc
      rw [hv] at this
      have := Option.some.inj this
      omega
  have c1 : Chg (fun a => sc a t) w w1 := .below hb
  have c2 : Chg (fun a => sc a t) w w2 := c1.trans (chg_grown hg fun a ha => by unfold sc; omega) fun a _ ha => ha
  have hn2 : w2.heap[t.b]? = some (.cells #[t.s, t.k] 69 (0, 0)) := by
    rw [hg.block t.b (Nat.lt_of_lt_of_le hbl hb.size) (fun e => by have := vc_of e.symm; omega), hb.block t.b hbl]
    exact h.node
  have c3 : Chg (fun a => sc a t) w (w2.setCell ⟨t.b, 0, none⟩ v) := c2.trans (chg_setCell (by show sc t.b t ≠ 0; omega)) fun a _ ha => ha
  have hset : ∀ a, a ≠ t.b → (w2.setCell ⟨t.b, 0, none⟩ v).heap[a]? = w2.heap[a]? := fun a ha => Below.heap_setCell _ _ _ _ ha
  refine ⟨⟨?_, ?_, ?_, h.nil⟩, rfl, c3, fun a ha => ?_, fun a => ?_⟩
  · rw [heap_setCell_at hn2]; rfl
  · exact own_keep hr fun a ha => hset a fun e => by rw [e] at ha; exact ha hbv
  · refine own_keep h.ks fun a ha => ?_
    have ha : vc a t.k ≠ 0 := ha
    have hal := own_lt h.ks ha
    have hne : a ≠ t.b := fun e => by rw [e] at ha; exact ha hbs.2
    have hs0 : vc a t.s = 0 := by have := h1 a; unfold sc at this; omega
    rw [hset a hne, hg.block a (Nat.lt_of_lt_of_le hal hb.size) (fun e => by have := vc_of e.symm; omega), hb.block a hal]
  · show (if a = t.b then 1 else 0) + vc a v + vc a t.k ≤ (if a = t.b then 1 else 0) + vc a t.s + vc a t.k
    rcases hv with hv | ⟨g, hv, hgl⟩
    · rw [vc_same hv]; exact Nat.le_refl _
    · have : vc a v = 0 := Classical.byContradiction fun hc => by
        have := vc_ne hc
        rw [hv] at this
        have := Option.some.inj this
        omega
      omega
  · show (if a = t.b then 1 else 0) + vc a v + vc a t.k ≤ 1
    have h2 := h1 a
    unfold sc at h2
    rcases hv with hv | ⟨g, hv, hgl⟩
    · rw [← vc_same hv]; exact h2
    · by_cases hc : vc a v = 0
      · omega
      · have e := vc_ne hc
        rw [hv] at e
        have e := Option.some.inj e
        have h3 : a ≠ t.b := by omega
        have h4 : vc a t.k = 0 := Classical.byContradiction fun hc => by have := own_lt h.ks hc; omega
        have := vc_le a v
        rw [if_neg h3]
        omega
/-- the nodes below are others. -/
theorem ev1_putK {ks' : List Nd} (h : Sh w t) (h1 : ∀ a, sc a t ≤ 1) (hb : Below w.heap.size w w1) (hg : w1.grownBy w2 t.k.ownBlock) (hr : w2.ownsRow 0 62 1 v ks'.length (encPs (ks'.map Nd.b))) (hn : ks' = [] → v = .slice none 0 0) (hv : t.k.ownBlock = v.ownBlock ∨ ∃ g, v.ownBlock = some g ∧ w.heap.size ≤ g) :
    Ev1 w t (w2.setCell ⟨t.b, 1, none⟩ v) { t with k := v, kids := ks' } := by
  have hsb : sc t.b t = 1 := by have := h1 t.b; unfold sc at this ⊢; rw [if_pos rfl] at this ⊢; omega
  have hbs : vc t.b t.s = 0 ∧ vc t.b t.k = 0 := by unfold sc at hsb; rw [if_pos rfl] at hsb; omega
  have hbl := lt_of_heap h.node
  have hbv : vc t.b v = 0 := by
    rcases hv with hv | ⟨g, hv, hgl⟩
    · rw [← vc_same hv]; exact hbs.2
    · refine Classical.byContradiction fun hc => ?_
      have := vc_ne hc
      rw [hv] at this
      have := Option.some.inj this
      omega
  have c1 : Chg (fun a => sc a t) w w1 := .below hb
  have c2 : Chg (fun a => sc a t) w w2 := c1.trans (chg_grown hg fun a ha => by unfold sc; omega) fun a _ ha => ha
  have hn2 : w2.heap[t.b]? = some (.cells #[t.s, t.k] 69 (0, 0)) := by
    rw [hg.block t.b (Nat.lt_of_lt_of_le hbl hb.size) (fun e => by have := vc_of e.symm; omega), hb.block t.b hbl]
    exact h.node
  have c3 : Chg (fun a => sc a t) w (w2.setCell ⟨t.b, 1, none⟩ v) := c2.trans (chg_setCell (by show sc t.b t ≠ 0; omega)) fun a _ ha => ha
  have hset : ∀ a, a ≠ t.b → (w2.setCell ⟨t.b, 1, none⟩ v).heap[a]? = w2.heap[a]? := fun a ha => Below.heap_setCell _ _ _ _ ha
  refine ⟨⟨?_, ?_, ?_, hn⟩, rfl, c3, fun a ha => ?_, fun a => ?_⟩
  · rw [heap_setCell_at hn2]; rfl
  · refine own_keep h.es fun a ha => ?_
    have ha : vc a t.s ≠ 0 := ha
    have hal := own_lt h.es ha
    have hne : a ≠ t.b := fun e => by rw [e] at ha; exact ha hbs.1
    have hs0 : vc a t.k = 0 := by have := h1 a; unfold sc at this; omega
    rw [hset a hne, hg.block a (Nat.lt_of_lt_of_le hal hb.size) (fun e => by have := vc_of e.symm; omega), hb.block a hal]
  · exact own_keep hr fun a ha => hset a fun e => by rw [e] at ha; exact ha hbv
  · show (if a = t.b then 1 else 0) + vc a t.s + vc a v ≤ (if a = t.b then 1 else 0) + vc a t.s + vc a t.k
    rcases hv with hv | ⟨g, hv, hgl⟩
    · rw [vc_same hv]; exact Nat.le_refl _
    · have : vc a v = 0 := Classical.byContradiction fun hc => by
        have := vc_ne hc
        rw [hv] at this
        have := Option.some.inj this
        omega
      omega
  · show (if a = t.b then 1 else 0) + vc a t.s + vc a v ≤ 1
    have h2 := h1 a
    unfold sc at h2
    rcases hv with hv | ⟨g, hv, hgl⟩
    · rw [← vc_same hv]; exact h2
    · by_cases hc : vc a v = 0
      · omega
      · have e := vc_ne hc
        rw [hv] at e
        have e := Option.some.inj e
        have h3 : a ≠ t.b := by omega
        have h4 : vc a t.s = 0 := Classical.byContradiction fun hc => by have := own_lt h.es hc; omega
        have := vc_le a v
        rw [if_neg h3]
        omega
/-- an entry of a node is another one. -/
theorem ev1_set {B c i : Nat} {x y : En} (h : Sh w t) (h1 : ∀ a, sc a t ≤ 1) (hs : t.s = .slice (some ⟨B, 0, none⟩) t.es.length c) (hy : t.es[i]? = some y) :
    Ev1 w t ((w.setCell ⟨B, i * 2, none⟩ (.string x.1)).setCell ⟨B, i * 2 + 1, none⟩ (.int .i64 x.2)) { t with es := t.es.set i x } := by
  have h2 := h.es
  rw [hs] at h2
  obtain ⟨t1, g1⟩ := h2.stored (i * 2) (.string x.1)
  obtain ⟨t2, g2⟩ := t1.stored (i * 2 + 1) (.int .i64 x.2)
  have hB : vc B t.s = 1 := vc_of (by rw [hs]; rfl)
  have hset : ∀ a, a ≠ B → ((w.setCell ⟨B, i * 2, none⟩ (.string x.1)).setCell ⟨B, i * 2 + 1, none⟩ (.int .i64 x.2)).heap[a]? = w.heap[a]? := fun a ha => by
    rw [Below.heap_setCell _ _ _ _ ha, Below.heap_setCell _ _ _ _ ha]
  have hc : Chg (fun a => sc a t) w ((w.setCell ⟨B, i * 2, none⟩ (.string x.1)).setCell ⟨B, i * 2 + 1, none⟩ (.int .i64 x.2)) :=
    (chg_setCell (by show sc B t ≠ 0; unfold sc; omega)).trans (chg_setCell (by show sc B t ≠ 0; unfold sc; omega)) fun a _ ha => ha
  refine ⟨⟨?_, ?_, ?_, h.nil⟩, rfl, hc, fun a _ => Nat.le_refl _, h1⟩
  · rw [hset _ fun e => ?_]
    · exact h.node
    · have := h1 t.b
      unfold sc at this
      rw [if_pos rfl] at this
      have e : t.b = B := e
      rw [e] at this
      omega
  · show World.ownsRow _ 0 _ 2 t.s (t.es.set i x).length (encEns (t.es.set i x))
    have e1 : encEns (t.es.set i x) = ((encEns t.es).set (i * 2) (.string x.1)).set (i * 2 + 1) (.int .i64 x.2) := by
      have h3 : encEns t.es = encEns (t.es.take i) ++ [.string y.1, .int .i64 y.2] ++ encEns (t.es.drop (i + 1)) := by
        conv => lhs; rw [split_at hy]
        rw [encEns_append]
        simp [encEns, encEn]
      have h4 : encEns (t.es.set i x) = encEns (t.es.take i) ++ [.string x.1, .int .i64 x.2] ++ encEns (t.es.drop (i + 1)) := by
        rw [set_at x hy, encEns_append]
        simp [encEns, encEn]
      have h5 : (encEns (t.es.take i)).length = i * 2 := by
        have := (List.getElem?_eq_some_iff.1 hy).1
        rw [encEns_len, List.length_take]; omega
      rw [h3, h4, ← h5]
      simp
    rw [List.length_set, e1, hs]
    exact t2
  · refine own_keep h.ks fun a ha => hset a fun e => ?_
    have ha : vc a t.k ≠ 0 := ha
    have := h1 a
    unfold sc at this
    rw [e] at this ha
    omega
end
theorem sc_putS {a : Nat} {t : Nd} {v : Value} {es' : List En} (h : v.ownBlock = t.s.ownBlock) : sc a { t with s := v, es := es' } = sc a t := by
  unfold sc; simp only; rw [vc_same h]
theorem sc_putK {a : Nat} {t : Nd} {v : Value} {ks' : List Nd} (h : v.ownBlock = t.k.ownBlock) : sc a { t with k := v, kids := ks' } = sc a t := by
  unfold sc; simp only; rw [vc_same h]
end Go.Proofs.Ytoaekmighinmhaa

namespace Go.Proofs.Ytoaekmighinmhaa
open Go.RowKit

def ss (a : Nat) (ts : List Nd) : Nat := (ts.map (sc a)).sum
structure St (w : World) (ts : List Nd) : Prop where
  sh : ∀ t ∈ ts, Sh w t
  one : ∀ a, ss a ts ≤ 1
structure Stp (w : World) (ts : List Nd) (w' : World) (ts' : List Nd) : Prop where
  st : St w' ts'
  chg : Chg (fun a => ss a ts) w w'
  cnt : ∀ a, a < w.heap.size → ss a ts' ≤ ss a ts
theorem ss_app (a : Nat) (x y : List Nd) : ss a (x ++ y) = ss a x + ss a y := sum_app _ _ _
theorem ss_cons (a : Nat) (t : Nd) (y : List Nd) : ss a (t :: y) = sc a t + ss a y := sum_cons _ _ _
theorem ss_nil (a : Nat) : ss a [] = 0 := rfl
theorem St.lt {w : World} {ts : List Nd} (h : St w ts) {a : Nat} (ha : ss a ts ≠ 0) : a < w.heap.size := by
  obtain ⟨t, ht, hs⟩ := sum_ne (sc a) ha
  exact (h.sh t ht).lt hs
theorem St.below {w w' : World} {ts : List Nd} (h : St w ts) (hb : Below w.heap.size w w') : St w' ts := ⟨fun t ht => (h.sh t ht).below hb, h.one⟩
theorem St.sc_one {w : World} {ts : List Nd} (h : St w ts) {t : Nd} (ht : t ∈ ts) (a : Nat) : sc a t ≤ 1 := Nat.le_trans (le_sum (sc a) ht) (h.one a)
theorem Stp.refl {w : World} {ts : List Nd} (h : St w ts) : Stp w ts w ts := ⟨h, .refl _ _, fun _ _ => Nat.le_refl _⟩
theorem Stp.below {w w' : World} {ts : List Nd} (h : St w ts) (hb : Below w.heap.size w w') : Stp w ts w' ts := ⟨h.below hb, .below hb, fun _ _ => Nat.le_refl _⟩
theorem Stp.trans {w w1 w2 : World} {ts ts1 ts2 : List Nd} (h : Stp w ts w1 ts1) (k : Stp w1 ts1 w2 ts2) : Stp w ts w2 ts2 :=
  ⟨k.st, h.chg.trans k.chg fun x hx hf => Nat.le_zero.1 (Nat.le_trans (h.cnt x hx) (Nat.le_of_eq hf)), fun a ha => Nat.le_trans (k.cnt a (Nat.lt_of_lt_of_le ha h.chg.size)) (h.cnt a ha)⟩
/-- one of them becomes another one; what it may take is what was, when all began, or new. -/
theorem Stp.turn {w w1 w2 : World} {ts A D : List Nd} {R R2 : Nd} (h : Stp w ts w1 (A ++ R :: D)) (h0 : ∀ a, w.heap.size ≤ a → sc a R2 ≠ 0 → ss a (A ++ D) = 0) (sh : Sh w2 R2) (hc : Chg (fun a => sc a R) w1 w2) (cnt : ∀ a, a < w.heap.size → sc a R2 ≤ sc a R) (one : ∀ a, sc a R2 ≤ 1) : Stp w ts w2 (A ++ R2 :: D) := by
  have h1 : ∀ a, ss a (A ++ R :: D) = ss a (A ++ D) + sc a R := fun a => by rw [ss_app, ss_cons, ss_app]; omega
  have h2 : ∀ a, ss a (A ++ R2 :: D) = ss a (A ++ D) + sc a R2 := fun a => by rw [ss_app, ss_cons, ss_app]; omega
  refine ⟨⟨fun t ht => ?_, fun a => ?_⟩, h.chg.trans hc fun x hx hf => ?_, fun a ha => ?_⟩
  · have key : t ∈ A ++ D → Sh w2 t := fun ht => by
      have hs := h.st.sh t (by rcases List.mem_append.1 ht with h | h <;> simp [h])
      refine hs.keep fun a ha => hc.block a (hs.lt ha) ?_
      have h3 := h.st.one a
      have h4 : sc a t ≤ ss a (A ++ D) := le_sum (sc a) ht
      have h5 := h1 a
      show sc a R = 0
      omega
    rcases List.mem_append.1 ht with ht | ht
    · exact key (by simp [ht])
    · rcases List.mem_cons.1 ht with rfl | ht
      · exact sh
      · exact key (by simp [ht])
  · have h3 := h.st.one a
    have h4 := one a
    have h5 := h1 a
    have h6 := h2 a
    by_cases ha : a < w.heap.size
    · have := cnt a ha; omega
    · by_cases hz : sc a R2 = 0
      · omega
      · have := h0 a (by omega) hz; omega
  · have := h.cnt x hx
    have h5 := h1 x
    have hf : ss x ts = 0 := hf
    show sc x R = 0
    omega
  · have := h.cnt a ha
    have h5 := h1 a
    have h6 := h2 a
    have := cnt a ha
    omega
theorem St.at {w w' : World} {A D : List Nd} {t t' : Nd} (h : St w (A ++ t :: D)) (e : Ev1 w t w' t') : Stp w (A ++ t :: D) w' (A ++ t' :: D) :=
  (Stp.refl h).turn (fun a ha _ => Classical.byContradiction fun hc => by
    have : ss a (A ++ t :: D) ≠ 0 := by rw [ss_app, ss_cons]; rw [ss_app] at hc; omega
    have := h.lt this
    omega) e.sh e.chg e.cnt e.one
/-- a new one beside them. -/
theorem Stp.new {w w1 w2 : World} {ts ts1 : List Nd} {R : Nd} (h : Stp w ts w1 ts1) (h0 : ∀ a, w.heap.size ≤ a → ss a ts1 = 0) (sh : Sh w2 R) (hb : Below w1.heap.size w1 w2) (hR : ∀ a, sc a R ≠ 0 → w.heap.size ≤ a) (one : ∀ a, sc a R ≤ 1) : Stp w ts w2 (ts1 ++ [R]) := by
  have h2 : ∀ a, ss a (ts1 ++ [R]) = ss a ts1 + sc a R := fun a => by rw [ss_app, ss_cons, ss_nil]; omega
  refine ⟨⟨fun t ht => ?_, fun a => ?_⟩, h.chg.trans (.below hb) fun _ _ hf => hf, fun a ha => ?_⟩
  · rcases List.mem_append.1 ht with ht | ht
    · exact (h.st.sh t ht).below hb
    · rw [List.mem_singleton.1 ht]; exact sh
  · have h3 := h2 a
    have h4 := h.st.one a
    have h5 := one a
    by_cases hz : sc a R = 0
    · omega
    · have := h0 a (hR a hz); omega
  · have h3 := h2 a
    have h4 := h.cnt a ha
    have h5 : sc a R = 0 := Classical.byContradiction fun hc => by have := hR a hc; omega
    omega

theorem Ev1.late {w w1 w2 : World} {t t1 : Nd} (h : Ev1 w t w1 t1) (hb : Below w.heap.size w1 w2) (h0 : ∀ a, sc a t1 ≠ 0 → a < w.heap.size) : Ev1 w t w2 t1 :=
  ⟨h.sh.keep fun a ha => hb.block a (h0 a ha), h.b, ⟨hb.os.trans h.chg.os, hb.tape.trans h.chg.tape, hb.output.trans h.chg.output, Nat.le_trans h.chg.size hb.size, fun a ha h2 => (hb.block a ha).trans (h.chg.block a ha h2)⟩, h.cnt, h.one⟩

/-- all below some nodes. -/
def gc : Nat → Nat → List Nd → Nat
  | 0, _, _ => 0
  | n + 1, a, l => ((l.flatMap Nd.kids).map (tc n a)).sum
theorem sum_flat (f : Nd → Nat) : ∀ l : List Nd, (l.map fun x => (x.kids.map f).sum).sum = ((l.flatMap Nd.kids).map f).sum
  | [] => rfl
  | x :: l => by rw [List.map_cons, List.sum_cons, List.flatMap_cons, sum_app, sum_flat f l]
theorem sum_add {α : Type} (f g : α → Nat) : ∀ l : List α, (l.map fun x => f x + g x).sum = (l.map f).sum + (l.map g).sum
  | [] => rfl
  | x :: l => by rw [List.map_cons, List.map_cons, List.map_cons, List.sum_cons, List.sum_cons, List.sum_cons, sum_add f g l]; omega
theorem sum_tc (n a : Nat) (l : List Nd) : (l.map (tc n a)).sum = ss a l + gc n a l := by
  cases n with
  | zero => rfl
  | succ n =>
    show (l.map fun x => sc a x + (x.kids.map (tc n a)).sum).sum = _
    rw [sum_add, sum_flat]
    rfl
theorem Sh.kids_b {w : World} {t : Nd} {ks : List Nd} (h : Sh w t) (hk : ks.map Nd.b = t.kids.map Nd.b) : Sh w { t with kids := ks } := by
  have hl : ks.length = t.kids.length := by have := congrArg List.length hk; simpa using this
  refine ⟨h.node, h.es, ?_, fun hn => h.nil ?_⟩
  · show World.ownsRow _ 0 _ 1 t.k ks.length (encPs (ks.map Nd.b))
    rw [hl, hk]; exact h.ks
  · have hn : ks = [] := hn
    rw [hn] at hl
    exact List.length_eq_zero_iff.1 hl.symm
/-- a node and some of its kids, beside one another, become others; all that is below those is as it was. -/
theorem evo_regroup {n : Nat} {w w' : World} {t t1 : Nd} {A D mid mid' : List Nd} (h : Own (n + 1) w t) (hk : t.kids = A ++ mid ++ D) (e : Stp w (t :: mid) w' (t1 :: mid')) (hb : t1.b = t.b) (hk1 : (A ++ mid' ++ D).map Nd.b = t1.kids.map Nd.b) (hl : (A ++ mid' ++ D).length = t1.es.length + 1)
    (hf : mid'.flatMap Nd.kids = mid.flatMap Nd.kids) (hs : n ≠ 0 → ∀ x ∈ mid', x.kids.length = x.es.length + 1) : Evo (n + 1) w t w' { t1 with kids := A ++ mid' ++ D } := by
  have hL := h.1
  have tot : ∀ a, tc (n + 1) a t = ss a (t :: mid) + (A.map (tc n a)).sum + (D.map (tc n a)).sum + gc n a mid := fun a => by
    show sc a t + (t.kids.map (tc n a)).sum = _
    rw [hk, sum_app, sum_app, sum_tc n a mid, ss_cons]; omega
  have hg : ∀ a, gc n a mid' = gc n a mid := fun a => by
    cases n with
    | zero => rfl
    | succ n => show ((mid'.flatMap Nd.kids).map _).sum = _; rw [hf]; rfl
  have tot' : ∀ a, tc (n + 1) a { t1 with kids := A ++ mid' ++ D } = ss a (t1 :: mid') + (A.map (tc n a)).sum + (D.map (tc n a)).sum + gc n a mid := fun a => by
    show sc a t1 + ((A ++ mid' ++ D).map (tc n a)).sum = _
    rw [sum_app, sum_app, sum_tc n a mid', ss_cons, hg]; omega
  have one := fun a => h.2 a
  have keepx : ∀ x, x ∈ A ∨ x ∈ D → Live n w' x := fun x hx => by
    have hxl : Live n w x := hL.2.2 x (by rw [hk]; rcases hx with hx | hx <;> simp [hx])
    refine hxl.keep fun a ha => e.chg.block a (hxl.lt ha) ?_
    have h1 := one a
    have h2 := tot a
    show ss a (t :: mid) = 0
    rcases hx with hx | hx
    · have := le_sum (tc n a) hx; omega
    · have := le_sum (tc n a) hx; omega
  have keepm : ∀ x ∈ mid', Live n w' x := fun x hx => by
    have hsh : Sh w' x := e.st.sh x (List.mem_cons_of_mem _ hx)
    cases n with
    | zero =>
      refine ⟨hsh, ?_⟩
      have h1 : mid.flatMap Nd.kids = [] := by
        rw [List.flatMap_eq_nil_iff]
        intro y hy
        exact (hL.2.2 y (by rw [hk]; simp [hy])).2
      rw [h1, List.flatMap_eq_nil_iff] at hf
      exact hf x hx
    | succ n =>
      refine ⟨hsh, hs (by omega) x hx, fun y hy => ?_⟩
      have h1 : y ∈ mid.flatMap Nd.kids := by rw [← hf]; exact List.mem_flatMap.2 ⟨x, hx, hy⟩
      obtain ⟨z, hz, hyz⟩ := List.mem_flatMap.1 h1
      have h2 : Live n w y := (hL.2.2 z (by rw [hk]; simp [hz])).2.2 y hyz
      refine h2.keep fun a ha => e.chg.block a (h2.lt ha) ?_
      have h3 := one a
      have h4 := tot a
      have h5 : tc n a y ≤ gc (n + 1) a mid := le_sum (tc n a) h1
      show ss a (t :: mid) = 0
      omega
  refine ⟨⟨⟨(e.st.sh t1 (by simp)).kids_b hk1, hl, fun x hx => ?_⟩, fun a => ?_⟩, hb, e.chg.mono fun a _ ha => ?_, fun a ha => ?_⟩
  · have hx : x ∈ A ++ mid' ++ D := hx
    rcases List.mem_append.1 hx with hx | hx
    · rcases List.mem_append.1 hx with hx | hx
      · exact keepx x (.inl hx)
      · exact keepm x hx
    · exact keepx x (.inr hx)
  · rw [tot']
    have h1 := one a
    have h2 := tot a
    by_cases ha : a < w.heap.size
    · have := e.cnt a ha; omega
    · have h3 : tc (n + 1) a t = 0 := Classical.byContradiction fun hc => ha (hL.lt hc)
      have := e.st.one a
      omega
  · have h2 := tot a
    have ha : tc (n + 1) a t = 0 := ha
    show ss a (t :: mid) = 0
    omega
  · have := e.cnt a ha
    have h2 := tot a
    have h3 := tot' a
    omega
/-- a node and two of its kids stand apart. -/
theorem own_st {n : Nat} {w : World} {t : Nd} {A D mid : List Nd} (h : Own (n + 1) w t) (hk : t.kids = A ++ mid ++ D) : St w (t :: mid) := by
  refine ⟨fun x hx => ?_, fun a => ?_⟩
  · rcases List.mem_cons.1 hx with rfl | hx
    · exact h.1.1
    · exact (h.1.2.2 x (by rw [hk]; simp [hx])).sh
  · have h1 := h.2 a
    have h2 : tc (n + 1) a t = sc a t + (t.kids.map (tc n a)).sum := rfl
    rw [hk, sum_app, sum_app, sum_tc n a mid] at h2
    rw [ss_cons]
    omega

section
variable {w : World} {t : Nd} {i : Nat}
/-- what a walk wants of a node. -/
theorem Sh.view (h : Sh w t) : ∃ sa c ka d, t.s = .slice sa t.es.length c ∧ t.k = .slice ka t.kids.length d ∧ w.cell? ⟨t.b, 0, none⟩ = some (.slice sa t.es.length c) ∧ w.cell? ⟨t.b, 1, none⟩ = some (.slice ka t.kids.length d) ∧ ∀ j, w.frozen? ⟨t.b, j, none⟩ = false := by
  have key : ∀ {k m : Nat} {ty : TypeId} {v : Value} {xs : List Value}, w.ownsRow 0 ty k v m xs → ∃ a c, v = .slice a m c := by
    intro k m ty v xs h
    rcases h.2 with ⟨rfl, rfl⟩ | ⟨g, cap, cur, rfl, _⟩
    · exact ⟨_, _, rfl⟩
    · exact ⟨_, _, rfl⟩
  obtain ⟨sa, c, e1⟩ := key h.es
  obtain ⟨ka, d, e2⟩ := key h.ks
  refine ⟨sa, c, ka, d, e1, e2, ?_, ?_, fun j => ?_⟩
  · rw [← e1]; simp [World.cell?, h.node]
  · rw [← e2]; simp [World.cell?, h.node]
  · simp [World.frozen?, h.node]
theorem own_cells {k m : Nat} {ty : TypeId} {v : Value} {xs : List Value} (h : w.ownsRow 0 ty k v m xs) (hm : 0 < m) : ∃ B c, v = .slice (some ⟨B, 0, none⟩) m c ∧ m ≤ c ∧ c ≤ 9223372036854775807 ∧ (∀ j u, xs[j]? = some u → w.cell? ⟨B, j, none⟩ = some u) ∧ ∀ j, w.frozen? ⟨B, j, none⟩ = false := by
  rcases h.2 with ⟨rfl, rfl⟩ | ⟨g, cap, cur, rfl, hb, hg, h1, h2, h3, h4⟩
  · omega
  · refine ⟨g, cap, rfl, h1, by unfold maxLen at h2; omega, fun j u hj => ?_, fun j => by simp [World.frozen?, hg]⟩
    have := h.cells (g := g) rfl j u hj
    rwa [Addr.add_lit, Nat.zero_add] at this
theorem Sh.entry {x : En} (h : Sh w t) (hx : t.es[i]? = some x) : ∃ B c, t.s = .slice (some ⟨B, 0, none⟩) t.es.length c ∧ t.es.length ≤ c ∧ c ≤ 9223372036854775807 ∧ w.cell? ⟨B, i * 2, none⟩ = some (.string x.1) ∧ w.cell? ⟨B, i * 2 + 1, none⟩ = some (.int .i64 x.2) ∧ ∀ j, w.frozen? ⟨B, j, none⟩ = false := by
  have hi := (List.getElem?_eq_some_iff.1 hx).1
  obtain ⟨B, c, e, h1, h2, h3, h4⟩ := own_cells h.es (by omega)
  exact ⟨B, c, e, h1, h2, h3 _ _ (flat_at encEn_len _ i 0 x _ hx rfl), h3 _ _ (flat_at encEn_len _ i 1 x _ hx rfl), h4⟩
theorem Sh.kid {k : Nd} (h : Sh w t) (hx : t.kids[i]? = some k) : ∃ B c, t.k = .slice (some ⟨B, 0, none⟩) t.kids.length c ∧ t.kids.length ≤ c ∧ c ≤ 9223372036854775807 ∧ w.cell? ⟨B, i, none⟩ = some (.pointer (some ⟨k.b, 0, none⟩)) ∧ ∀ j, w.frozen? ⟨B, j, none⟩ = false := by
  have hi := (List.getElem?_eq_some_iff.1 hx).1
  obtain ⟨B, c, e, h1, h2, h3, h4⟩ := own_cells h.ks (by omega)
  refine ⟨B, c, e, h1, h2, ?_, h4⟩
  have := h3 _ _ (flat_at encP_len (t.kids.map Nd.b) i 0 k.b _ (by rw [List.getElem?_map, hx]; rfl) rfl)
  rwa [Nat.mul_one, Nat.add_zero] at this
end
end Go.Proofs.Ytoaekmighinmhaa

namespace Go.Proofs.Ytoaekmighinmhaa
open Go.RowKit

theorem Or_any (B : Nat) (x y : Int) (t : TypeId) (w : World) (h : w.heap[B]? = some (.cells #[.int .i64 x, .int .i64 y] t (0, 0))) :
    Calls Try.prog 59 #[.slice (some ⟨B, 0, none⟩) 2 2] w fun e w' => e = .returned (.int .i64 (if x = 0 then y else x)) ∧ w' = w := by
  have c0 : w.cell? ⟨B, 0, none⟩ = some (.int .i64 x) := by simp [World.cell?, h]
  have c1 : w.cell? ⟨B, 1, none⟩ = some (.int .i64 y) := by simp [World.cell?, h]
  clear h
  by_cases hx : x = 0
  · subst hx
    rw [if_pos rfl]
    by_cases hy : y = 0
    · subst hy
      go_enter Try.func59, Try.ntmps59
      go_wp2
      refine wp_loop_rounds 3 ?_
      rw [rounds_succ]
      go_wp2
      rw [rounds_succ]
      go_wp2
      rw [rounds_succ]
      go_wp2
      go_ret
      exact ⟨rfl, rfl⟩
    · go_enter Try.func59, Try.ntmps59
      go_wp2
      refine wp_loop_rounds 2 ?_
      rw [rounds_succ]
      go_wp2
      rw [rounds_succ]
      go_wp2
      go_ret
      exact ⟨rfl, rfl⟩
  · rw [if_neg hx]
    go_enter Try.func59, Try.ntmps59
    go_wp2
    refine wp_loop_rounds 1 ?_
    rw [rounds_succ]
    go_wp2
    go_ret
    exact ⟨rfl, rfl⟩

theorem mixed : Try.prog.follows .mixedOrders = true := by kernel_rfl
set_option maxRecDepth 100000 in
theorem compare_any (a b : En) (w : World) : Calls Try.prog 44 #[.agg #[.string a.1, .int .i64 a.2], .agg #[.string b.1, .int .i64 b.2]] w fun e w' => e = .returned (.int .i64 (cmpE a b)) ∧ Below w.heap.size w w' := by
  obtain ⟨ak, ai⟩ := a
  obtain ⟨bk, bi⟩ := b
  have h1 := fun W => Compare_any ak bk W
  have h2 := fun W => cmpN_any ai bi W
  have e0 : cmpE (ak, ai) (bk, bi) = if cmpT ak bk = 0 then cmpI ai bi else cmpT ak bk := rfl
  rw [e0]
  obtain ⟨c, hc⟩ : ∃ c, cmpT ak bk = c := ⟨_, rfl⟩
  obtain ⟨d, hd⟩ : ∃ d, cmpI ai bi = d := ⟨_, rfl⟩
  rw [hc] at h1 ⊢
  rw [hd] at h2 ⊢
  obtain ⟨z, hz⟩ : ∃ z, (if c = 0 then d else c) = z := ⟨_, rfl⟩
  have hO : Hid (∀ (B : Nat) (W' : World), W'.heap[B]? = some (.cells #[.int .i64 c, .int .i64 d] 3 (0, 0)) → Calls Try.prog 59 #[.slice (some ⟨B, 0, none⟩) 2 2] W' fun e w' => e = .returned (.int .i64 z) ∧ w' = W') := fun B W' h => by rw [← hz]; exact Or_any _ c d _ _ h
  rw [hz]
  clear e0 hc hd hz
  go_enter Try.func44, Try.ntmps44
  go_wp2_with fail
  obtain ⟨W, hW⟩ : ∃ W, (w.alloc (.cells #[.string ak, .int .i64 ai] 34)).alloc (.cells #[.string bk, .int .i64 bi] 34) = W := ⟨_, rfl⟩
  have hB : Below w.heap.size w W := by rw [← hW]; exact ((Below.refl _ _).alloc (Nat.le_refl _) _).alloc (by simp) _
  have hs : W.heap.size = w.heap.size + 2 := by rw [← hW]; simp
  have r0 : W.heap[w.heap.size]? = some (.cells #[.string ak, .int .i64 ai] 34) := by rw [← hW, Below.heap_alloc _ _ _ (by simp)]; exact heap_alloc_new _ _
  have r1 : W.heap[w.heap.size + 1]? = some (.cells #[.string bk, .int .i64 bi] 34) := by
    rw [← hW]
    have := heap_alloc_new (w.alloc (.cells #[.string ak, .int .i64 ai] 34)) (.cells #[.string bk, .int .i64 bi] 34)
    simpa using this
  rw [hW]
  have P0 := fun (w' : World) (h : Below W.heap.size W w') => (h.cell (p := ⟨w.heap.size, 0, none⟩) (by rw [hs]; simp)).trans (show W.cell? ⟨w.heap.size, 0, none⟩ = some (.string ak) by simp [World.cell?, r0])
  have P1 := fun (w' : World) (h : Below W.heap.size W w') => (h.cell (p := ⟨w.heap.size, 1, none⟩) (by rw [hs]; simp)).trans (show W.cell? ⟨w.heap.size, 1, none⟩ = some (.int .i64 ai) by simp [World.cell?, r0])
  have P2 := fun (w' : World) (h : Below W.heap.size W w') => (h.cell (p := ⟨w.heap.size + 1, 0, none⟩) (by rw [hs]; simp)).trans (show W.cell? ⟨w.heap.size + 1, 0, none⟩ = some (.string bk) by simp [World.cell?, r1])
  have P3 := fun (w' : World) (h : Below W.heap.size W w') => (h.cell (p := ⟨w.heap.size + 1, 1, none⟩) (by rw [hs]; simp)).trans (show W.cell? ⟨w.heap.size + 1, 1, none⟩ = some (.int .i64 bi) by simp [World.cell?, r1])
  have HB := (show Hid _ from And.intro hB hs)
  clear hB hs hW r0 r1
  have h0 : (fun w' : World => Below W.heap.size W w') W.drew := (Below.refl _ _).drew
  refine wp_region_held (S := fun w' => Below W.heap.size W w') mixed ?_
  refine wpAnyH_take (i := 0) (oi := ⟨_, _, _, _, _, _⟩) (v := ?v1) rfl (by kernel_rfl) (by kernel_rfl) (by kernel_rfl) (fun _ _ _ h => h) (Or.inl ⟨by rfl, ?hy1⟩) h0 ?rest1
  case hy1 => (intro w hSw; (try dsimp only at hSw); go_simp; try with_reducible rfl)
  simp only [Act.put, List.setIfInBounds_toArray, List.set_cons_zero, List.set_cons_succ]
  refine wpAnyH_take (i := 1) (oi := ⟨_, _, _, _, _, _⟩) (v := ?v2) rfl (by kernel_rfl) (by kernel_rfl) (by kernel_rfl) (fun _ _ _ h => h) (Or.inl ⟨by rfl, ?hy2⟩) h0 ?rest2
  case hy2 => (intro w hSw; (try dsimp only at hSw); go_simp; try with_reducible rfl)
  simp only [Act.put, List.setIfInBounds_toArray, List.set_cons_zero, List.set_cons_succ]
  refine wpAnyH_take (i := 2) (oi := ⟨_, _, _, _, _, _⟩) (v := ?v3) rfl (by kernel_rfl) (by kernel_rfl) (by kernel_rfl) (fun _ _ _ h => h) (Or.inl ⟨by rfl, ?hy3⟩) h0 ?rest3
  case hy3 => (intro w hSw; (try dsimp only at hSw); go_simp; try with_reducible rfl)
  simp only [Act.put, List.setIfInBounds_toArray, List.set_cons_zero, List.set_cons_succ]
  refine wpAnyH_take (i := 3) (oi := ⟨_, _, _, _, _, _⟩) (v := ?v4) rfl (by kernel_rfl) (by kernel_rfl) (by kernel_rfl) (fun _ _ _ h => h) (Or.inl ⟨by rfl, ?hy4⟩) h0 ?rest4
  case hy4 => (intro w hSw; (try dsimp only at hSw); go_simp; try with_reducible rfl)
  simp only [Act.put, List.setIfInBounds_toArray, List.set_cons_zero, List.set_cons_succ]
  refine wpAnyH_take (i := 5) (oi := ⟨_, _, _, _, _, _⟩) (v := ?v5) rfl (by kernel_rfl) (by kernel_rfl) (by kernel_rfl) (fun _ _ _ h => h) (Or.inl ⟨by rfl, ?hy5⟩) h0 ?rest5
  case hy5 => (intro w hSw; (try dsimp only at hSw); go_simp; try with_reducible rfl)
  simp only [Act.put, List.setIfInBounds_toArray, List.set_cons_zero, List.set_cons_succ]
  refine wpAnyH_take (i := 6) (oi := ⟨_, _, _, _, _, _⟩) (v := ?v6) rfl (by kernel_rfl) (by kernel_rfl) (by kernel_rfl) (fun _ _ _ h => h) (Or.inl ⟨by rfl, ?hy6⟩) h0 ?rest6
  case hy6 => (intro w hSw; (try dsimp only at hSw); go_simp; try with_reducible rfl)
  simp only [Act.put, List.setIfInBounds_toArray, List.set_cons_zero, List.set_cons_succ]
  refine wpAnyH_take (i := 7) (oi := ⟨_, _, _, _, _, _⟩) (v := ?v7) rfl (by kernel_rfl) (by kernel_rfl) (by kernel_rfl) (fun _ _ _ h => h) (Or.inl ⟨by rfl, ?hy7⟩) h0 ?rest7
  case hy7 => (intro w hSw; (try dsimp only at hSw); go_simp; try with_reducible rfl)
  simp only [Act.put, List.setIfInBounds_toArray, List.set_cons_zero, List.set_cons_succ]
  refine wpAnyH_take (i := 8) (oi := ⟨_, _, _, _, _, _⟩) (v := ?v8) rfl (by kernel_rfl) (by kernel_rfl) (by kernel_rfl) (fun _ _ _ h => h) (Or.inl ⟨by rfl, ?hy8⟩) h0 ?rest8
  case hy8 => (intro w hSw; (try dsimp only at hSw); go_simp; try with_reducible rfl)
  simp only [Act.put, List.setIfInBounds_toArray, List.set_cons_zero, List.set_cons_succ]
  refine wpAnyH_ready (rs := [4]) (by kernel_rfl) (by simp) ?_
  refine AllReadyH.cons (o := ⟨_, _, _, _, _, _⟩) rfl (fun K hK => ?_) AllReadyH.nil
  go_simp
  refine (h1 _).mono ?_
  rintro e w1 ⟨rfl, rfl⟩
  refine hK.out _ _ h0 (fun hHeld => ?_)
  clear hK K hHeld
  try simp only [Act.put, List.setIfInBounds_toArray, List.set_cons_zero, List.set_cons_succ]
  refine wpAnyH_ready (rs := [9]) (by kernel_rfl) (by simp) ?_
  refine AllReadyH.cons (o := ⟨_, _, _, _, _, _⟩) rfl (fun K hK => ?_) AllReadyH.nil
  go_simp
  refine (h2 _).mono ?_
  rintro e w1 ⟨rfl, rfl⟩
  refine hK.out _ _ h0 (fun hHeld => ?_)
  clear hK K hHeld
  try simp only [Act.put, List.setIfInBounds_toArray, List.set_cons_zero, List.set_cons_succ]
  refine wpAnyH_ready (rs := [10]) (by kernel_rfl) (by simp) ?_
  refine AllReadyH.cons (o := ⟨_, _, _, _, _, _⟩) rfl (fun K hK => ?_) AllReadyH.nil
  go_simp
  have h1 : Below W.heap.size W (W.alloc (.cells #[.int .i64 c, .int .i64 d] 3)).drew := ((Below.refl _ _).alloc (Nat.le_refl _) _).drew
  refine hK.out _ _ h1 (fun hHeld => ?_)
  clear hK K hHeld
  try simp only [Act.put, List.setIfInBounds_toArray, List.set_cons_zero, List.set_cons_succ]
  refine wpAnyH_ready (rs := [11]) (by kernel_rfl) (by simp) ?_
  refine AllReadyH.cons (o := ⟨_, _, _, _, _, _⟩) rfl (fun K hK => ?_) AllReadyH.nil
  go_simp
  refine (hO.out _ (W.alloc (.cells #[.int .i64 c, .int .i64 d] 3)).drew (heap_alloc_new W _)).mono ?_
  rintro e w1 ⟨rfl, rfl⟩
  refine hK.out _ _ h1 (fun hHeld => ?_)
  clear hK K hHeld
  try simp only [Act.put, List.setIfInBounds_toArray, List.set_cons_zero, List.set_cons_succ]
  refine wpAnyH_ready (rs := [12]) (by kernel_rfl) (by simp) ?_
  refine AllReadyH.cons (o := ⟨_, _, _, _, _, _⟩) rfl (fun K hK => ?_) AllReadyH.nil
  go_simp
  refine hK.out _ _ h1 (fun hHeld => ?_)
  clear hK K hHeld
  try simp only [Act.put, List.setIfInBounds_toArray, List.set_cons_zero, List.set_cons_succ]
  refine wpAnyH_done (by kernel_rfl) ?_ _
  go_wp2
  go_ret
  exact ⟨rfl, HB.out.1.trans (h1.mono HB.out.1.size)⟩
end Go.Proofs.Ytoaekmighinmhaa
