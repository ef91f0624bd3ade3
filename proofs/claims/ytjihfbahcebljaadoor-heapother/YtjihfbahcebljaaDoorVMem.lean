/-
  Values of documents as they lie in memory: rows of cells, so deep. No conditions beyond those stated.
-/
import Derived.Test.YtjihfbahcebljaaDoorProg
import Derived.Test.YtjihfbahcebljaaDoorVPure
import Derived.WalkKit
import Derived.Below
import Derived.LoopTactic
import Derived.WalkSmall
namespace Go.Proofs.YtjihfbahcebljaaDoor
open Go.RowKit

/-- a value in a list: what it is, where its list and its fields lie. -/
structure El where
  v : V
  l : Value
  f : Value
/-- a field. -/
structure Fl where
  name : ByteArray
  v : V
  l : Value
  f : Value
def El.enc (e : El) : List Value := [.int .i64 e.v.kind, .int .i64 e.v.num, .string e.v.text, e.l, e.f]
def Fl.enc (e : Fl) : List Value := [.string e.name, .int .i64 e.v.kind, .int .i64 e.v.num, .string e.v.text, e.l, e.f]
def Fl.pair (e : Fl) : ByteArray × V := (e.name, e.v)
def encEs (es : List El) : List Value := es.flatMap El.enc
def encFs (fs : List Fl) : List Value := fs.flatMap Fl.enc

/-- a slice that begins at the head of a row; its block is one of those that are let be. -/
def RowAt (ok : Nat → Prop) (W : World) (t k : Nat) (s : Value) (n : Nat) (xs : List Value) : Prop :=
  W.ownsRow 0 t k s n xs ∧ n ≤ 1000000 ∧ ∀ b, s.ownBlock = some b → ok b
/-- a value's list and fields, so deep. -/
def Rep (ok : Nat → Prop) : Nat → World → V → Value → Value → Prop
  | 0, _, v, l, f => v.list = [] ∧ v.fields = [] ∧ l = .slice none 0 0 ∧ f = .slice none 0 0
  | n + 1, W, v, l, f =>
    (∃ es : List El, es.map El.v = v.list ∧ RowAt ok W 38 5 l es.length (encEs es) ∧ ∀ e ∈ es, Rep ok n W e.v e.l e.f) ∧
    (∃ fs : List Fl, fs.map Fl.pair = v.fields ∧ RowAt ok W 75 6 f fs.length (encFs fs) ∧ ∀ e ∈ fs, Rep ok n W e.v e.l e.f)
/-- wherever it lies. -/
def Lies (n : Nat) (W : World) (v : V) (l f : Value) : Prop := Rep (fun _ => True) n W v l f

theorem lt_of_cell {w : World} {a : Addr} {v : Value} (h : w.cell? a = some v) : a.block < w.heap.size := by
  rcases Nat.lt_or_ge a.block w.heap.size with h' | h'
  · exact h'
  · simp [World.cell?, Array.getElem?_eq_none h'] at h
theorem lt_of_heap {w : World} {b : Nat} {o : Obj} (h : w.heap[b]? = some o) : b < w.heap.size := (Array.getElem?_eq_some_iff.1 h).1

section
variable {ok ok' : Nat → Prop} {W W' : World} {t k n : Nat} {s : Value} {xs : List Value}
theorem ownsRow_move {base : Nat} (hm : ∀ b, s.ownBlock = some b → b < W.heap.size → base ≤ b ∧ W'.heap[b]? = W.heap[b]?) {base0 : Nat} (h : W.ownsRow base0 t k s n xs) : W'.ownsRow base t k s n xs := by
  refine ⟨h.1, ?_⟩
  rcases h.2 with hn | ⟨g, cap, cur, rfl, hb, hgg, rest⟩
  · exact .inl hn
  · obtain ⟨h1, h2⟩ := hm g rfl (lt_of_heap hgg)
    exact .inr ⟨g, cap, cur, rfl, h1, h2.trans hgg, rest⟩
theorem RowAt.move (hm : ∀ b, ok b → b < W.heap.size → ok' b ∧ W'.heap[b]? = W.heap[b]?) (h : RowAt ok W t k s n xs) : RowAt ok' W' t k s n xs := by
  refine ⟨ownsRow_move (fun b hb hl => ⟨Nat.zero_le _, (hm b (h.2.2 b hb) hl).2⟩) h.1, h.2.1, fun b hb => (hm b (h.2.2 b hb) (h.1.lt b hb).2).1⟩
theorem RowAt.slice (h : RowAt ok W t k s n xs) : ∃ a c, s = .slice a n c := by
  rcases h.1.2 with ⟨rfl, rfl⟩ | ⟨g, cap, cur, rfl, _⟩
  · exact ⟨_, _, rfl⟩
  · exact ⟨_, _, rfl⟩
theorem RowAt.nil : RowAt ok W t k (.slice none 0 0) 0 [] := ⟨World.ownsRow_nil _ _ _ _, Nat.zero_le _, fun b hb => by cases hb⟩
/-- what a row with something in it is. -/
theorem RowAt.cells (h : RowAt ok W t k s n xs) (hn : 0 < n) : ∃ b c, s = .slice (some ⟨b, 0, none⟩) n c ∧ b < W.heap.size ∧ ok b ∧ n ≤ c ∧ c ≤ 9223372036854775807 ∧ ∀ j u, xs[j]? = some u → W.cell? ⟨b, j, none⟩ = some u := by
  rcases h.1.2 with ⟨rfl, rfl⟩ | ⟨g, cap, cur, rfl, hb, hg, h1, h2, h3, h4⟩
  · omega
  · refine ⟨g, cap, rfl, lt_of_heap hg, h.2.2 g rfl, h1, by unfold maxLen at h2; omega, fun j u hj => ?_⟩
    have := h.1.cells (g := g) rfl j u hj
    rwa [Addr.add_lit, Nat.zero_add] at this
end

theorem Rep.move {ok ok' : Nat → Prop} {W W' : World} (hm : ∀ b, ok b → b < W.heap.size → ok' b ∧ W'.heap[b]? = W.heap[b]?) : ∀ {n : Nat} {v : V} {l f : Value}, Rep ok n W v l f → Rep ok' n W' v l f
  | 0, _, _, _, h => h
  | _n + 1, _, _, _, ⟨⟨es, e1, e2, e3⟩, ⟨fs, f1, f2, f3⟩⟩ =>
    ⟨⟨es, e1, e2.move hm, fun e he => Rep.move hm (e3 e he)⟩, ⟨fs, f1, f2.move hm, fun e he => Rep.move hm (f3 e he)⟩⟩
theorem Rep.below {ok : Nat → Prop} {W W' : World} (hb : Below W.heap.size W W') {n : Nat} {v : V} {l f : Value} (h : Rep ok n W v l f) : Rep ok n W' v l f :=
  h.move fun b hk hl => ⟨hk, hb.block b hl⟩
theorem Rep.lies {ok : Nat → Prop} {W : World} {n : Nat} {v : V} {l f : Value} (h : Rep ok n W v l f) : Lies n W v l f := h.move fun _ _ _ => ⟨trivial, rfl⟩
theorem Lies.below {W W' : World} (hb : Below W.heap.size W W') {n : Nat} {v : V} {l f : Value} (h : Lies n W v l f) : Lies n W' v l f := Rep.below hb h
theorem Rep.up {ok : Nat → Prop} {W : World} : ∀ {n : Nat} {v : V} {l f : Value}, Rep ok n W v l f → Rep ok (n + 1) W v l f
  | 0, v, l, f, ⟨h1, h2, h3, h4⟩ => by
    subst h3 h4
    exact ⟨⟨[], h1.symm, RowAt.nil, fun e he => by cases he⟩, ⟨[], h2.symm, RowAt.nil, fun e he => by cases he⟩⟩
  | n + 1, _, _, _, ⟨⟨es, e1, e2, e3⟩, ⟨fs, f1, f2, f3⟩⟩ =>
    ⟨⟨es, e1, e2, fun e he => Rep.up (e3 e he)⟩, ⟨fs, f1, f2, fun e he => Rep.up (f3 e he)⟩⟩
theorem Rep.le {ok : Nat → Prop} {W : World} {n m : Nat} {v : V} {l f : Value} (h : Rep ok n W v l f) (hm : n ≤ m) : Rep ok m W v l f := by
  induction hm with
  | refl => exact h
  | step _ ih => exact ih.up
theorem Rep.slices {ok : Nat → Prop} {W : World} {n : Nat} {v : V} {l f : Value} (h : Rep ok n W v l f) : ∃ al cl af cf, l = .slice al v.list.length cl ∧ f = .slice af v.fields.length cf := by
  obtain ⟨⟨es, e1, e2, e3⟩, ⟨fs, f1, f2, f3⟩⟩ := h.up
  obtain ⟨a, c, h1⟩ := e2.slice
  obtain ⟨a', c', h2⟩ := f2.slice
  exact ⟨a, c, a', c', by rw [h1, ← e1, List.length_map], by rw [h2, ← f1, List.length_map]⟩

theorem encEs_length : ∀ es : List El, (encEs es).length = es.length * 5
  | [] => rfl
  | e :: es => by
    have ih := encEs_length es
    unfold encEs at ih ⊢
    rw [List.flatMap_cons, List.length_append, ih, List.length_cons]
    simp [El.enc]; omega
theorem encFs_length : ∀ fs : List Fl, (encFs fs).length = fs.length * 6
  | [] => rfl
  | e :: es => by
    have ih := encFs_length es
    unfold encFs at ih ⊢
    rw [List.flatMap_cons, List.length_append, ih, List.length_cons]
    simp [Fl.enc]; omega
/-- the cells of the value at a place. -/
theorem encEs_at : ∀ (es : List El) (i j : Nat) (e : El) (u : Value), es[i]? = some e → e.enc[j]? = some u → (encEs es)[i * 5 + j]? = some u
  | [], _, _, _, _, h, _ => by simp at h
  | e :: es, 0, j, e', u, h, hu => by
    simp at h; subst h
    have : j < e.enc.length := (List.getElem?_eq_some_iff.1 hu).1
    unfold encEs
    rw [List.flatMap_cons, List.getElem?_append_left (by omega), Nat.zero_mul, Nat.zero_add]; exact hu
  | e :: es, i + 1, j, e', u, h, hu => by
    have ih := encEs_at es i j e' u (by simpa using h) hu
    unfold encEs at ih ⊢
    rw [List.flatMap_cons, List.getElem?_append_right (by simp [El.enc]; omega)]
    rw [← ih]; congr 1; simp [El.enc]; omega
theorem encFs_at : ∀ (es : List Fl) (i j : Nat) (e : Fl) (u : Value), es[i]? = some e → e.enc[j]? = some u → (encFs es)[i * 6 + j]? = some u
  | [], _, _, _, _, h, _ => by simp at h
  | e :: es, 0, j, e', u, h, hu => by
    simp at h; subst h
    have : j < e.enc.length := (List.getElem?_eq_some_iff.1 hu).1
    unfold encFs
    rw [List.flatMap_cons, List.getElem?_append_left (by omega), Nat.zero_mul, Nat.zero_add]; exact hu
  | e :: es, i + 1, j, e', u, h, hu => by
    have ih := encFs_at es i j e' u (by simpa using h) hu
    unfold encFs at ih ⊢
    rw [List.flatMap_cons, List.getElem?_append_right (by simp [Fl.enc]; omega)]
    rw [← ih]; congr 1; simp [Fl.enc]; omega
/-- the five cells of the value at place i of a row. -/
theorem RowAt.el {ok : Nat → Prop} {W : World} {t b c n : Nat} {es : List El} (h : RowAt ok W t 5 (.slice (some ⟨b, 0, none⟩) n c) n (encEs es)) {i : Nat} {e : El} (he : es[i]? = some e) :
    W.cell? ⟨b, i * 5, none⟩ = some (.int .i64 e.v.kind) ∧ W.cell? ⟨b, i * 5 + 1, none⟩ = some (.int .i64 e.v.num) ∧ W.cell? ⟨b, i * 5 + 2, none⟩ = some (.string e.v.text) ∧ W.cell? ⟨b, i * 5 + 3, none⟩ = some e.l ∧ W.cell? ⟨b, i * 5 + 4, none⟩ = some e.f := by
  have hc : ∀ j u, (encEs es)[j]? = some u → W.cell? ⟨b, j, none⟩ = some u := fun j u hj => by
    have := h.1.cells (g := b) rfl j u hj
    rwa [Addr.add_lit, Nat.zero_add] at this
  exact ⟨hc _ _ (encEs_at es i 0 e _ he rfl), hc _ _ (encEs_at es i 1 e _ he rfl), hc _ _ (encEs_at es i 2 e _ he rfl), hc _ _ (encEs_at es i 3 e _ he rfl), hc _ _ (encEs_at es i 4 e _ he rfl)⟩
theorem RowAt.fl {ok : Nat → Prop} {W : World} {t b c n : Nat} {es : List Fl} (h : RowAt ok W t 6 (.slice (some ⟨b, 0, none⟩) n c) n (encFs es)) {i : Nat} {e : Fl} (he : es[i]? = some e) :
    W.cell? ⟨b, i * 6, none⟩ = some (.string e.name) ∧ W.cell? ⟨b, i * 6 + 1, none⟩ = some (.int .i64 e.v.kind) ∧ W.cell? ⟨b, i * 6 + 2, none⟩ = some (.int .i64 e.v.num) ∧ W.cell? ⟨b, i * 6 + 3, none⟩ = some (.string e.v.text) ∧ W.cell? ⟨b, i * 6 + 4, none⟩ = some e.l ∧ W.cell? ⟨b, i * 6 + 5, none⟩ = some e.f := by
  have hc : ∀ j u, (encFs es)[j]? = some u → W.cell? ⟨b, j, none⟩ = some u := fun j u hj => by
    have := h.1.cells (g := b) rfl j u hj
    rwa [Addr.add_lit, Nat.zero_add] at this
  exact ⟨hc _ _ (encFs_at es i 0 e _ he rfl), hc _ _ (encFs_at es i 1 e _ he rfl), hc _ _ (encFs_at es i 2 e _ he rfl), hc _ _ (encFs_at es i 3 e _ he rfl), hc _ _ (encFs_at es i 4 e _ he rfl), hc _ _ (encFs_at es i 5 e _ he rfl)⟩
end Go.Proofs.YtjihfbahcebljaaDoor
