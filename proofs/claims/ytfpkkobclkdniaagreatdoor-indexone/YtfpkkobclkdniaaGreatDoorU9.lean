/-
  Values whose rows are apart from one another; a place in one of them, as a hole in the whole. No conditions beyond those stated.
  Closed facts on the model's entries for internal/reflectlite, and on method sets, at this program's types; small laws on the entries that read or write memory. No conditions.
  Errors in errors: a list of places around a last error, as it lies in memory; what errors.as makes of it. No conditions beyond those stated.
-/
import Derived.Test.YtfpkkobclkdniaaGreatDoorU4
import Derived.Test.YtfpkkobclkdniaaGreatDoorChecked
import Derived.WalkKit
import Derived.LaidEql
import Derived.Stop.Asserts
import Derived.RowKitTokens
import Derived.Deep.LoopGhost
import Derived.Below
namespace Go.Proofs.YtfpkkobclkdniaaGreatDoor
open Go.RowKit

/-- a child's blocks, and those of all else, apart from one another and from the row. -/
def Parts (ok okc keep : Nat → Prop) (s : Value) : Prop :=
  (∀ b, okc b → ok b ∧ ¬ keep b ∧ s.ownBlock ≠ some b) ∧ (∀ b, keep b → ok b ∧ s.ownBlock ≠ some b)
/-- a value's rows, each apart from all others. -/
def Own : Nat → (Nat → Prop) → World → V → Value → Value → Prop
  | 0, _, _, v, l, f => v.list = [] ∧ v.fields = [] ∧ l = .slice none 0 0 ∧ f = .slice none 0 0
  | n + 1, ok, W, v, l, f => ∃ (es : List El) (fs : List Fl), es.map El.v = v.list ∧ fs.map Fl.pair = v.fields ∧
      RowAt ok W 40 5 l es.length (encEs es) ∧ RowAt ok W 72 6 f fs.length (encFs fs) ∧ (∀ e ∈ es, Rep ok n W e.v e.l e.f) ∧ (∀ e ∈ fs, Rep ok n W e.v e.l e.f) ∧
      (∀ (i : Nat) (e : El), es[i]? = some e → ∃ okc keep, Own n okc W e.v e.l e.f ∧ Parts ok okc keep l ∧ RowAt keep W 72 6 f fs.length (encFs fs) ∧
        (∀ (j : Nat) (e' : El), j ≠ i → es[j]? = some e' → Rep keep n W e'.v e'.l e'.f) ∧ ∀ e' ∈ fs, Rep keep n W e'.v e'.l e'.f) ∧
      (∀ (i : Nat) (e : Fl), fs[i]? = some e → ∃ okc keep, Own n okc W e.v e.l e.f ∧ Parts ok okc keep f ∧ RowAt keep W 40 5 l es.length (encEs es) ∧
        (∀ e' ∈ es, Rep keep n W e'.v e'.l e'.f) ∧ ∀ (j : Nat) (e' : Fl), j ≠ i → fs[j]? = some e' → Rep keep n W e'.v e'.l e'.f)

theorem Own.rep {ok : Nat → Prop} {W : World} : ∀ {n : Nat} {v : V} {l f : Value}, Own n ok W v l f → Rep ok n W v l f
  | 0, _, _, _, h => h
  | _n + 1, _, _, _, ⟨es, fs, h1, h2, h3, h4, h5, h6, _, _⟩ => ⟨⟨es, h1, h3, h5⟩, ⟨fs, h2, h4, h6⟩⟩
theorem Own.move {ok ok' : Nat → Prop} {W W' : World} (hi : ∀ b, ok b → ok' b) (hm : ∀ b, ok b → b < W.heap.size → W'.heap[b]? = W.heap[b]?) : ∀ {n : Nat} {v : V} {l f : Value}, Own n ok W v l f → Own n ok' W' v l f
  | 0, _, _, _, h => h
  | n + 1, _, _, _, ⟨es, fs, h1, h2, h3, h4, h5, h6, h7, h8⟩ => by
    have hq : ∀ b, ok b → b < W.heap.size → ok' b ∧ W'.heap[b]? = W.heap[b]? := fun b hb hl => ⟨hi b hb, hm b hb hl⟩
    have hk : ∀ {s} {okc keep : Nat → Prop}, Parts ok okc keep s → ∀ b, keep b → b < W.heap.size → keep b ∧ W'.heap[b]? = W.heap[b]? := fun h b hb hl => ⟨hb, hm b (h.2 b hb).1 hl⟩
    refine ⟨es, fs, h1, h2, h3.move hq, h4.move hq, fun e he => (h5 e he).move hq, fun e he => (h6 e he).move hq, fun i e he => ?_, fun i e he => ?_⟩
    · obtain ⟨okc, keep, c1, c2, c3, c4, c5⟩ := h7 i e he
      exact ⟨okc, keep, Own.move (fun b hb => hb) (fun b hb hl => hm b (c2.1 b hb).1 hl) c1, ⟨fun b hb => ⟨hi b (c2.1 b hb).1, (c2.1 b hb).2⟩, fun b hb => ⟨hi b (c2.2 b hb).1, (c2.2 b hb).2⟩⟩, c3.move (hk c2), fun j e' hj he' => (c4 j e' hj he').move (hk c2), fun e' he' => (c5 e' he').move (hk c2)⟩
    · obtain ⟨okc, keep, c1, c2, c3, c4, c5⟩ := h8 i e he
      exact ⟨okc, keep, Own.move (fun b hb => hb) (fun b hb hl => hm b (c2.1 b hb).1 hl) c1, ⟨fun b hb => ⟨hi b (c2.1 b hb).1, (c2.1 b hb).2⟩, fun b hb => ⟨hi b (c2.2 b hb).1, (c2.2 b hb).2⟩⟩, c3.move (hk c2), fun e' he' => (c4 e' he').move (hk c2), fun j e' hj he' => (c5 j e' hj he').move (hk c2)⟩
theorem Own.slices {ok : Nat → Prop} {W : World} {n : Nat} {v : V} {l f : Value} (h : Own n ok W v l f) : ∃ al cl af cf, l = .slice al v.list.length cl ∧ f = .slice af v.fields.length cf := h.rep.slices
/-- with nothing in it a value is apart. -/
theorem own_bare {ok : Nat → Prop} {W : World} {n : Nat} {v : V} {l f : Value} (h : Rep ok n W v l f) (h1 : v.list = []) (h2 : v.fields = []) : Own n ok W v l f := by
  cases n with
  | zero => exact h
  | succ n =>
    obtain ⟨⟨es, e1, e2, e3⟩, ⟨fs, f1, f2, f3⟩⟩ := h
    rw [h1] at e1; rw [h2] at f1
    obtain rfl := List.map_eq_nil_iff.1 e1
    obtain rfl := List.map_eq_nil_iff.1 f1
    exact ⟨[], [], h1.symm, h2.symm, e2, f2, e3, f3, fun i e he => by simp at he, fun i e he => by simp at he⟩

/-- a value that lies at a place. -/
def At (m : Nat) (W : World) (B o : Nat) (v : V) (l f : Value) : Prop :=
  W.cell? ⟨B, o, none⟩ = some (.int .i64 v.kind) ∧ W.cell? ⟨B, o + 1, none⟩ = some (.int .i64 v.num) ∧ W.cell? ⟨B, o + 2, none⟩ = some (.string v.text) ∧ W.cell? ⟨B, o + 3, none⟩ = some l ∧ W.cell? ⟨B, o + 4, none⟩ = some f ∧ Lies m W v l f
/-- two worlds that have a block the same but for the five cells of a place. -/
def Same5 (W W' : World) (B o : Nat) : Prop :=
  ∃ (cur : Array Value) (t : Nat) (a0 a1 a2 a3 a4 : Value), W.heap[B]? = some (.cells cur t (0, 0)) ∧ o + 5 ≤ cur.size ∧ W'.heap[B]? = some (.cells (cur.toList.take o ++ [a0, a1, a2, a3, a4] ++ cur.toList.drop (o + 5)).toArray t (0, 0))
/-- a value with a hole at a place: whatever is put there, the value has it. -/
def Hole (W : World) (keep : Nat → Prop) (B o : Nat) (l f : Value) (G : V → V) : Prop :=
  ∀ W' m x lx fx, (∀ b, keep b → W'.heap[b]? = W.heap[b]?) → Same5 W W' B o → At m W' B o x lx fx → ∃ M, Lies M W' (G x) l f

theorem split5 {α : Type} (L : List α) (o : Nat) (h : o + 5 ≤ L.length) : ∃ a0 a1 a2 a3 a4, L = L.take o ++ [a0, a1, a2, a3, a4] ++ L.drop (o + 5) := by
  obtain ⟨a0, a1, a2, a3, a4, h5⟩ : ∃ a0 a1 a2 a3 a4, (L.drop o).take 5 = [a0, a1, a2, a3, a4] := by
    have hl : ((L.drop o).take 5).length = 5 := by simp; omega
    match hL : (L.drop o).take 5, hl with
    | [a0, a1, a2, a3, a4], _ => exact ⟨a0, a1, a2, a3, a4, rfl⟩
  refine ⟨a0, a1, a2, a3, a4, ?_⟩
  rw [← h5, List.append_assoc, ← List.drop_drop, List.take_append_drop, List.take_append_drop]
theorem Same5.refl {W W' : World} {B o : Nat} {cur : Array Value} {t : Nat} (h : W.heap[B]? = some (.cells cur t (0, 0))) (ho : o + 5 ≤ cur.size) (he : W'.heap[B]? = W.heap[B]?) : Same5 W W' B o := by
  obtain ⟨a0, a1, a2, a3, a4, h5⟩ := split5 cur.toList o (by simpa using ho)
  refine ⟨cur, t, a0, a1, a2, a3, a4, h, ho, ?_⟩
  rw [he, h, ← h5]
theorem five_at {a0 a1 a2 a3 a4 : Value} (L : List Value) (o : Nat) (h : o + 5 ≤ L.length) {W : World} {B t : Nat} {fr : Nat × Nat} (hg : W.heap[B]? = some (.cells (L.take o ++ [a0, a1, a2, a3, a4] ++ L.drop (o + 5)).toArray t fr)) :
    W.cell? ⟨B, o, none⟩ = some a0 ∧ W.cell? ⟨B, o + 1, none⟩ = some a1 ∧ W.cell? ⟨B, o + 2, none⟩ = some a2 ∧ W.cell? ⟨B, o + 3, none⟩ = some a3 ∧ W.cell? ⟨B, o + 4, none⟩ = some a4 := by
  have hl : (L.take o).length = o := by simp; omega
  have g : ∀ i u, [a0, a1, a2, a3, a4][i]? = some u → W.cell? ⟨B, o + i, none⟩ = some u := by
    intro i u hu
    have hi : i < 5 := (List.getElem?_eq_some_iff.1 hu).1
    simp only [World.cell?, hg, List.getElem?_toArray]
    rw [List.append_assoc, List.getElem?_append_right (by omega), List.getElem?_append_left (by simp; omega)]
    rw [hl, Nat.add_sub_cancel_left]; exact hu
  exact ⟨g 0 _ rfl, g 1 _ rfl, g 2 _ rfl, g 3 _ rfl, g 4 _ rfl⟩
/-- what lies at the place, and what the block is. -/
theorem Same5.at {W W' : World} {B o m : Nat} {x : V} {l f : Value} (h : Same5 W W' B o) (ha : At m W' B o x l f) :
    ∃ (cur : Array Value) (t : Nat), W.heap[B]? = some (.cells cur t (0, 0)) ∧ o + 5 ≤ cur.size ∧ W'.heap[B]? = some (.cells (cur.toList.take o ++ [.int .i64 x.kind, .int .i64 x.num, .string x.text, l, f] ++ cur.toList.drop (o + 5)).toArray t (0, 0)) := by
  obtain ⟨cur, t, a0, a1, a2, a3, a4, h1, h2, h3⟩ := h
  obtain ⟨c0, c1, c2, c3, c4⟩ := five_at cur.toList o (by simpa using h2) h3
  obtain ⟨d0, d1, d2, d3, d4, _⟩ := ha
  rw [c0] at d0; rw [c1] at d1; rw [c2] at d2; rw [c3] at d3; rw [c4] at d4
  cases d0; cases d1; cases d2; cases d3; cases d4
  exact ⟨cur, t, h1, h2, h3⟩
theorem encEs_set (fs : List El) (j : Nat) (e e' : El) (h : fs[j]? = some e) : encEs (fs.set j e') = encEs (fs.take j) ++ e'.enc ++ encEs (fs.drop (j + 1)) ∧ encEs fs = encEs (fs.take j) ++ e.enc ++ encEs (fs.drop (j + 1)) := by
  have hj : j < fs.length := (List.getElem?_eq_some_iff.1 h).1
  have e1 : fs.set j e' = fs.take j ++ e' :: fs.drop (j + 1) := by rw [List.set_eq_take_append_cons_drop, if_pos hj]
  have e2 : fs = fs.take j ++ e :: fs.drop (j + 1) := by
    have h3 := (List.getElem?_eq_some_iff.1 h).2
    rw [← h3, ← List.drop_eq_getElem_cons hj, List.take_append_drop]
  constructor
  · rw [e1, encEs_append, List.append_assoc]; rfl
  · have h4 : encEs fs = encEs (fs.take j ++ e :: fs.drop (j + 1)) := congrArg encEs e2
    rw [h4, encEs_append, List.append_assoc]; rfl
/-- a row of which five cells are others. -/
theorem row_hole {ok ok' : Nat → Prop} {W W' : World} {T K B c n o m : Nat} {xs P S : List Value} {x : V} {l f : Value} {Q : List Value}
    (hr : RowAt ok W T K (.slice (some ⟨B, 0, none⟩) n c) n xs) (hs : Same5 W W' B o) (ha : At m W' B o x l f) (hx : xs = P ++ Q ++ S) (hP : P.length = o) (hQ : Q.length = 5) (hB : ok' B) :
    RowAt ok' W' T K (.slice (some ⟨B, 0, none⟩) n c) n (P ++ [.int .i64 x.kind, .int .i64 x.num, .string x.text, l, f] ++ S) := by
  obtain ⟨⟨h1, h2⟩, h3, h4⟩ := hr
  obtain ⟨cur, t, g1, g2, g3⟩ := hs.at ha
  rcases h2 with ⟨h2, _⟩ | ⟨g, cap, cur0, e, hb, hg, h5, h6, h7, h8⟩
  · cases h2
  · cases e
    rw [g1] at hg
    cases hg
    refine ⟨⟨?_, .inr ⟨B, _, _, rfl, Nat.zero_le _, g3, h5, h6, ?_, ?_⟩⟩, h3, fun b hb => by cases hb; exact hB⟩
    · rw [← h1, hx]; simp [hQ]; omega
    · rw [← h7]; simp; omega
    · have e1 : cur.toList = P ++ Q ++ S ++ cur.toList.drop (n * K) := by rw [← hx, ← h8, List.take_append_drop]
      have e2 : cur.toList.take o = P := by rw [e1, ← hP, List.append_assoc, List.append_assoc, List.take_left]
      have e3 : cur.toList.drop (o + 5) = S ++ cur.toList.drop (n * K) := by
        have : (P ++ Q).length = o + 5 := by simp [hP, hQ]
        conv => lhs; rw [e1, ← this, List.append_assoc (P ++ Q), List.drop_left]
      have e4 : (P ++ [.int .i64 x.kind, .int .i64 x.num, .string x.text, l, f] ++ S).length = n * K := by rw [← h1, hx]; simp [hQ]; omega
      rw [List.toList_toArray, e2, e3, ← List.append_assoc, ← e4, List.take_left]
theorem hole_field {ok keep : Nat → Prop} {n : Nat} {W : World} {v : V} {l : Value} {C c j : Nat} {es : List El} {fs : List Fl} {e : Fl} (h1 : es.map El.v = v.list) (h2 : fs.map Fl.pair = v.fields) (hr : RowAt ok W 72 6 (.slice (some ⟨C, 0, none⟩) fs.length c) fs.length (encFs fs))
    (hj : fs[j]? = some e) (k1 : RowAt keep W 40 5 l es.length (encEs es)) (k2 : ∀ e' ∈ es, Rep keep n W e'.v e'.l e'.f) (k3 : ∀ (i : Nat) (e' : Fl), i ≠ j → fs[i]? = some e' → Rep keep n W e'.v e'.l e'.f) :
    Hole W keep C (j * 6 + 1) l (.slice (some ⟨C, 0, none⟩) fs.length c) (fun x => { v with fields := v.fields.set j (e.name, x) }) := by
  intro W' m x lx fx hk hs ha
  have hjl : j < fs.length := (List.getElem?_eq_some_iff.1 hj).1
  have hq : ∀ b, keep b → b < W.heap.size → True ∧ W'.heap[b]? = W.heap[b]? := fun b hb _ => ⟨trivial, hk b hb⟩
  refine ⟨max n m + 1, ⟨es, h1, k1.move hq, fun e' he' => ((k2 e' he').move hq).le (Nat.le_max_left _ _)⟩, ⟨fs.set j ⟨e.name, x, lx, fx⟩, ?_, ?_, fun u hu => ?_⟩⟩
  · rw [List.map_set, h2]; rfl
  · rw [List.length_set]
    obtain ⟨s1, s2⟩ := encFs_set fs j e ⟨e.name, x, lx, fx⟩ hj
    have hX : (encFs (fs.take j)).length = j * 6 := by rw [encFs_length, List.length_take]; congr 1; omega
    have := row_hole (ok' := fun _ => True) (P := encFs (fs.take j) ++ [.string e.name]) (Q := [.int .i64 e.v.kind, .int .i64 e.v.num, .string e.v.text, e.l, e.f]) (S := encFs (fs.drop (j + 1))) hr hs ha (by rw [s2]; simp [Fl.enc]) (by simp [hX]) rfl trivial
    rw [s1]
    simpa [Fl.enc] using this
  · obtain ⟨i, hi⟩ := List.mem_iff_getElem?.1 hu
    by_cases hij : i = j
    · subst hij
      rw [List.getElem?_set_self hjl] at hi
      cases hi
      exact ha.2.2.2.2.2.le (Nat.le_max_right _ _)
    · rw [List.getElem?_set_ne (by omega)] at hi
      exact ((k3 i u hij hi).move hq).le (Nat.le_max_left _ _)
theorem hole_list {ok keep : Nat → Prop} {n : Nat} {W : World} {v : V} {f : Value} {C c j : Nat} {es : List El} {fs : List Fl} {e : El} (h1 : es.map El.v = v.list) (h2 : fs.map Fl.pair = v.fields) (hr : RowAt ok W 40 5 (.slice (some ⟨C, 0, none⟩) es.length c) es.length (encEs es))
    (hj : es[j]? = some e) (k1 : RowAt keep W 72 6 f fs.length (encFs fs)) (k2 : ∀ e' ∈ fs, Rep keep n W e'.v e'.l e'.f) (k3 : ∀ (i : Nat) (e' : El), i ≠ j → es[i]? = some e' → Rep keep n W e'.v e'.l e'.f) :
    Hole W keep C (j * 5) (.slice (some ⟨C, 0, none⟩) es.length c) f (fun x => { v with list := v.list.set j x }) := by
  intro W' m x lx fx hk hs ha
  have hjl : j < es.length := (List.getElem?_eq_some_iff.1 hj).1
  have hq : ∀ b, keep b → b < W.heap.size → True ∧ W'.heap[b]? = W.heap[b]? := fun b hb _ => ⟨trivial, hk b hb⟩
  refine ⟨max n m + 1, ⟨es.set j ⟨x, lx, fx⟩, ?_, ?_, fun u hu => ?_⟩, ⟨fs, h2, k1.move hq, fun e' he' => ((k2 e' he').move hq).le (Nat.le_max_left _ _)⟩⟩
  · rw [List.map_set, h1]
  · rw [List.length_set]
    obtain ⟨s1, s2⟩ := encEs_set es j e ⟨x, lx, fx⟩ hj
    have hX : (encEs (es.take j)).length = j * 5 := by rw [encEs_length, List.length_take]; congr 1; omega
    have := row_hole (ok' := fun _ => True) (P := encEs (es.take j)) (Q := e.enc) (S := encEs (es.drop (j + 1))) hr hs ha s2 hX rfl trivial
    rw [s1]
    exact this
  · obtain ⟨i, hi⟩ := List.mem_iff_getElem?.1 hu
    by_cases hij : i = j
    · subst hij
      rw [List.getElem?_set_self hjl] at hi
      cases hi
      exact ha.2.2.2.2.2.le (Nat.le_max_right _ _)
    · rw [List.getElem?_set_ne (by omega)] at hi
      exact ((k3 i u hij hi).move hq).le (Nat.le_max_left _ _)

/-- a child of a value, with the value as a hole around it. -/
def Kid (ok : Nat → Prop) (W : World) (l f : Value) (B o : Nat) (u : V) (ul uf : Value) (G : V → V) : Prop :=
  ∃ (n : Nat) (okc keep : Nat → Prop), At n W B o u ul uf ∧ Own n okc W u ul uf ∧ Hole W keep B o l f G ∧ (∃ cur t, W.heap[B]? = some (.cells cur t (0, 0)) ∧ o + 5 ≤ cur.size) ∧
    (∀ b, okc b → ok b ∧ ¬ keep b ∧ b ≠ B) ∧ (∀ b, keep b → ok b ∧ b ≠ B) ∧ ok B
theorem RowAt.block {ok : Nat → Prop} {W : World} {t k n b c : Nat} {xs : List Value} (h : RowAt ok W t k (.slice (some ⟨b, 0, none⟩) n c) n xs) : ok b ∧ ∃ cur, W.heap[b]? = some (.cells cur t (0, 0)) ∧ n * k ≤ cur.size := by
  refine ⟨h.2.2 b rfl, ?_⟩
  rcases h.1.2 with ⟨h2, _⟩ | ⟨g, cap, cur0, e, hb, hg, h5, h6, h7, h8⟩
  · cases h2
  · cases e
    exact ⟨cur0, hg, by rw [h7]; exact Nat.mul_le_mul_right _ h5⟩
theorem own_field {ok : Nat → Prop} {n : Nat} {W : World} {v : V} {l f : Value} (h : Own n ok W v l f) {j : Nat} {q : ByteArray} {y : V} (hj : v.fields[j]? = some (q, y)) :
    ∃ C c ul uf, f = .slice (some ⟨C, 0, none⟩) v.fields.length c ∧ Kid ok W l f C (j * 6 + 1) y ul uf (fun x => { v with fields := v.fields.set j (q, x) }) := by
  cases n with
  | zero => rw [h.2.1] at hj; simp at hj
  | succ n =>
    obtain ⟨es, fs, h1, h2, h3, h4, h5, h6, h7, h8⟩ := h
    have hjl : j < v.fields.length := (List.getElem?_eq_some_iff.1 hj).1
    have hfl : fs.length = v.fields.length := by rw [← h2, List.length_map]
    obtain ⟨C, c, rfl, -⟩ := h4.cells (by omega)
    obtain ⟨⟨en, ev, el, ef⟩, he⟩ : ∃ e, fs[j]? = some e := ⟨_, List.getElem?_eq_getElem (by omega)⟩
    rw [← h2, List.getElem?_map, he] at hj
    simp only [Option.map_some, Fl.pair, Option.some.injEq, Prod.mk.injEq] at hj
    obtain ⟨rfl, rfl⟩ := hj
    obtain ⟨okc, keep, c1, c2, c3, c4, c5⟩ := h8 j _ he
    obtain ⟨b1, cur, b2, b3⟩ := h4.block
    obtain ⟨a0, a1, a2, a3, a4, a5⟩ := h4.fl he
    refine ⟨C, c, el, ef, by rw [hfl], n, okc, keep, ⟨a1, a2, a3, a4, a5, c1.rep.lies⟩, c1, hole_field h1 h2 h4 he c3 c4 c5, ⟨cur, _, b2, by omega⟩, fun b hb => ?_, fun b hb => ?_, b1⟩
    · obtain ⟨d1, d2, d3⟩ := c2.1 b hb
      exact ⟨d1, d2, fun e => d3 (by rw [e]; rfl)⟩
    · obtain ⟨d1, d3⟩ := c2.2 b hb
      exact ⟨d1, fun e => d3 (by rw [e]; rfl)⟩
theorem own_list {ok : Nat → Prop} {n : Nat} {W : World} {v : V} {l f : Value} (h : Own n ok W v l f) {j : Nat} {y : V} (hj : v.list[j]? = some y) :
    ∃ C c ul uf, l = .slice (some ⟨C, 0, none⟩) v.list.length c ∧ Kid ok W l f C (j * 5) y ul uf (fun x => { v with list := v.list.set j x }) := by
  cases n with
  | zero => rw [h.1] at hj; simp at hj
  | succ n =>
    obtain ⟨es, fs, h1, h2, h3, h4, h5, h6, h7, h8⟩ := h
    have hjl : j < v.list.length := (List.getElem?_eq_some_iff.1 hj).1
    have hfl : es.length = v.list.length := by rw [← h1, List.length_map]
    obtain ⟨C, c, rfl, -⟩ := h3.cells (by omega)
    obtain ⟨⟨ev, el, ef⟩, he⟩ : ∃ e, es[j]? = some e := ⟨_, List.getElem?_eq_getElem (by omega)⟩
    rw [← h1, List.getElem?_map, he] at hj
    simp only [Option.map_some, Option.some.injEq] at hj
    subst hj
    obtain ⟨okc, keep, c1, c2, c3, c4, c5⟩ := h7 j _ he
    obtain ⟨b1, cur, b2, b3⟩ := h3.block
    obtain ⟨a1, a2, a3, a4, a5⟩ := h3.el he
    refine ⟨C, c, el, ef, by rw [hfl], n, okc, keep, ⟨a1, a2, a3, a4, a5, c1.rep.lies⟩, c1, hole_list h1 h2 h3 he c3 c5 c4, ⟨cur, _, b2, by omega⟩, fun b hb => ?_, fun b hb => ?_, b1⟩
    · obtain ⟨d1, d2, d3⟩ := c2.1 b hb
      exact ⟨d1, d2, fun e => d3 (by rw [e]; rfl)⟩
    · obtain ⟨d1, d3⟩ := c2.2 b hb
      exact ⟨d1, fun e => d3 (by rw [e]; rfl)⟩
end Go.Proofs.YtfpkkobclkdniaaGreatDoor

namespace Go.Proofs.YtfpkkobclkdniaaGreatDoor
open Go.RowKit Go.Extern.Stop Go.Stop Go.Extern

theorem Tryz.methodKind (h : Value) (w : World) : (Go.method 357 145 (.agg #[h]) "Kind").run Tryz.prog w = .ok (159, h) w := by kernel_rfl
theorem Tryz.methodElem (h : Value) (w : World) : (Go.method 357 145 (.agg #[h]) "Elem").run Tryz.prog w = .ok (172, .agg #[h]) w := by kernel_rfl
theorem Tryz.methodImplements (h : Value) (w : World) : (Go.method 357 145 (.agg #[h]) "Implements").run Tryz.prog w = .ok (173, .agg #[h]) w := by kernel_rfl
theorem Tryz.methodAssignableTo (h : Value) (w : World) : (Go.method 357 145 (.agg #[h]) "AssignableTo").run Tryz.prog w = .ok (170, .agg #[h]) w := by kernel_rfl
theorem Tryz.methodComparable (h : Value) (w : World) : (Go.method 357 145 (.agg #[h]) "Comparable").run Tryz.prog w = .ok (171, .agg #[h]) w := by kernel_rfl
theorem Tryz.methodUnwrap (v : Value) (w : World) : (Go.method 357 104 v "Unwrap").run Tryz.prog w = .ok (165, v) w := by kernel_rfl
theorem Tryz.methodErrorF (v : Value) (w : World) : (Go.method 357 104 v "Error").run Tryz.prog w = .ok (164, v) w := by kernel_rfl
theorem Tryz.methodErrorE (v : Value) (w : World) : (Go.method 357 32 v "Error").run Tryz.prog w = .ok (162, v) w := by kernel_rfl

/- ValueOf a pointer to the target; its Type; IsNil; Elem -/
theorem Tryz.valueOf45 (t : Addr) (w : World) : (ReflectliteValue.unpack (.iface 79 (.pointer (some t)))).run Tryz.prog w
    = .ok (.agg #[.pointer (some ⟨11, 79, none⟩), .pointer (some ⟨w.heap.size, 0, none⟩), .int .u64 150]) (w.alloc (.cells #[.pointer (some t)] 79)) := by kernel_rfl
theorem Tryz.valueOf39 (t : Addr) (w : World) : (ReflectliteValue.unpack (.iface 104 (.pointer (some t)))).run Tryz.prog w
    = .ok (.agg #[.pointer (some ⟨11, 104, none⟩), .pointer (some ⟨w.heap.size, 0, none⟩), .int .u64 150]) (w.alloc (.cells #[.pointer (some t)] 104)) := by kernel_rfl
theorem Tryz.valueOf27 (c : Int) (w : World) : (ReflectliteValue.unpack (.iface 32 (.int .i64 c))).run Tryz.prog w
    = .ok (.agg #[.pointer (some ⟨11, 32, none⟩), .pointer (some ⟨w.heap.size, 0, none⟩), .int .u64 130]) (w.alloc (.cells #[.int .i64 c] 32)) := by kernel_rfl
theorem Tryz.type45 (a : Addr) (w : World) : (ReflectliteValue.methodAny (ReflectliteValue.valueError "reflectlite.Value.Type" 0) (fun t _ _ _ => ReflectliteType.toType t) #[.agg #[.pointer (some ⟨11, 79, none⟩), .pointer (some a), .int .u64 150]]).run Tryz.prog w
    = .ok (.iface 145 (.agg #[.pointer (some ⟨11, 79, none⟩)])) w := by kernel_rfl
theorem Tryz.kind45 (w : World) : ((ReflectliteType.abiMethod fun t => (fun a : Nat => Value.int IntKind.u8 (a : Int)) <$> Rtype.kind t) #[.pointer (some ⟨11, 79, none⟩)]).run Tryz.prog w = .ok (.int .u8 22) w := by kernel_rfl
theorem Tryz.kind39 (w : World) : ((ReflectliteType.abiMethod fun t => (fun a : Nat => Value.int IntKind.u8 (a : Int)) <$> Rtype.kind t) #[.pointer (some ⟨11, 104, none⟩)]).run Tryz.prog w = .ok (.int .u8 22) w := by kernel_rfl
theorem Tryz.kind27 (w : World) : ((ReflectliteType.abiMethod fun t => (fun a : Nat => Value.int IntKind.u8 (a : Int)) <$> Rtype.kind t) #[.pointer (some ⟨11, 32, none⟩)]).run Tryz.prog w = .ok (.int .u8 2) w := by kernel_rfl
theorem rlm (z : Sem Value) (f : TypeId → Addr → Nat → Nat → Sem Value) (v : Value) :
    ReflectliteValue.method z f #[v] = (do match ← ReflectliteValue.parts v with | none => z | some (t, a, fl) => f t a fl (fl % 32)) := rfl
theorem Tryz.parts45 (a : Addr) (w : World) : (ReflectliteValue.parts (.agg #[.pointer (some ⟨11, 79, none⟩), .pointer (some a), .int .u64 150])).run Tryz.prog w = .ok (some (79, a, 150)) w := by kernel_rfl
theorem Tryz.isNil45 (a p : Addr) (W : World) (ha : W.cell? a = some (.pointer (some p))) :
    (ReflectliteValue.method (ReflectliteValue.valueError "reflectlite.Value.IsNil" 0) ReflectliteValue.isNil #[.agg #[.pointer (some ⟨11, 79, none⟩), .pointer (some a), .int .u64 150]]).run Tryz.prog W = .ok (.bool false) W := by
  rw [rlm]
  simp only [Sem.run_bind, Tryz.parts45, Result.andThen]
  simp [ReflectliteValue.isNil, loadVar, isAgg, underlying, Tryz.underlying79, ha, Result.andThen]
theorem Tryz.elem45 (w : World) : (ReflectliteType.method ReflectliteType.elem #[.agg #[.pointer (some ⟨11, 79, none⟩)]]).run Tryz.prog w = .ok (.iface 145 (.agg #[.pointer (some ⟨11, 32, none⟩)])) w := by kernel_rfl
theorem Tryz.implements27 (w : World) : (ReflectliteType.relation "Implements" ReflectliteType.implements_ #[.agg #[.pointer (some ⟨11, 32, none⟩)], .iface 145 (.agg #[.pointer (some ⟨11, 28, none⟩)])]).run Tryz.prog w = .ok (.bool true) w := by kernel_rfl
theorem Tryz.implements39 (w : World) : (ReflectliteType.relation "Implements" ReflectliteType.implements_ #[.agg #[.pointer (some ⟨11, 104, none⟩)], .iface 145 (.agg #[.pointer (some ⟨11, 28, none⟩)])]).run Tryz.prog w = .ok (.bool true) w := by kernel_rfl
theorem Tryz.typeOf39 (v : Value) (w : World) : (ReflectliteType.typeOf #[.iface 104 v]).run Tryz.prog w = .ok (.iface 145 (.agg #[.pointer (some ⟨11, 104, none⟩)])) w := by kernel_rfl
theorem Tryz.typeOf27 (v : Value) (w : World) : (ReflectliteType.typeOf #[.iface 32 v]).run Tryz.prog w = .ok (.iface 145 (.agg #[.pointer (some ⟨11, 32, none⟩)])) w := by kernel_rfl
theorem Tryz.asg39_39 (w : World) : (ReflectliteType.relation "AssignableTo" ReflectliteType.assignableTo #[.agg #[.pointer (some ⟨11, 104, none⟩)], .iface 145 (.agg #[.pointer (some ⟨11, 104, none⟩)])]).run Tryz.prog w = .ok (.bool true) w := by kernel_rfl
theorem Tryz.asg27_27 (w : World) : (ReflectliteType.relation "AssignableTo" ReflectliteType.assignableTo #[.agg #[.pointer (some ⟨11, 32, none⟩)], .iface 145 (.agg #[.pointer (some ⟨11, 32, none⟩)])]).run Tryz.prog w = .ok (.bool true) w := by kernel_rfl
theorem Tryz.asg39_27 (w : World) : (ReflectliteType.relation "AssignableTo" ReflectliteType.assignableTo #[.agg #[.pointer (some ⟨11, 104, none⟩)], .iface 145 (.agg #[.pointer (some ⟨11, 32, none⟩)])]).run Tryz.prog w = .ok (.bool false) w := by kernel_rfl
theorem Tryz.asg27_39 (w : World) : (ReflectliteType.relation "AssignableTo" ReflectliteType.assignableTo #[.agg #[.pointer (some ⟨11, 32, none⟩)], .iface 145 (.agg #[.pointer (some ⟨11, 104, none⟩)])]).run Tryz.prog w = .ok (.bool false) w := by kernel_rfl
theorem Tryz.comparable27 (w : World) : ((ReflectliteType.method fun t => (fun a => Value.bool a.comparable) <$> typeInfo t) #[.agg #[.pointer (some ⟨11, 32, none⟩)]]).run Tryz.prog w = .ok (.bool true) w := by kernel_rfl
theorem Tryz.elemOf45 (w : World) : (Rtype.elem? 79).run Tryz.prog w = .ok (some 32) w := by kernel_rfl
theorem Tryz.mk27 (p : Addr) (w : World) : (ReflectliteValue.mk 32 p ReflectliteValue.flagAddr).run Tryz.prog w = .ok (.agg #[.pointer (some ⟨11, 32, none⟩), .pointer (some p), .int .u64 386]) w := by kernel_rfl
theorem Tryz.mk39 (p : Addr) (w : World) : (ReflectliteValue.mk 104 p ReflectliteValue.flagAddr).run Tryz.prog w = .ok (.agg #[.pointer (some ⟨11, 104, none⟩), .pointer (some p), .int .u64 406]) w := by kernel_rfl
theorem Tryz.elemV45 (a p : Addr) (W : World) (ha : W.cell? a = some (.pointer (some p))) :
    (ReflectliteValue.method (ReflectliteValue.valueError "reflectlite.Value.Elem" 0) ReflectliteValue.elem #[.agg #[.pointer (some ⟨11, 79, none⟩), .pointer (some a), .int .u64 150]]).run Tryz.prog W
      = .ok (.agg #[.pointer (some ⟨11, 32, none⟩), .pointer (some p), .int .u64 386]) W := by
  rw [rlm]
  simp only [Sem.run_bind, Tryz.parts45, Result.andThen]
  simp [ReflectliteValue.elem, loadVar, isAgg, underlying, Tryz.underlying79, ha, Result.andThen, Tryz.elemOf45, Tryz.mk27]
theorem rls (v x : Value) : ReflectliteValue.set #[v, x] = (do
    let (some (dst, a, fl), some (src, b, _)) := (← ReflectliteValue.parts v, ← ReflectliteValue.parts x)
      | unsupported (.noEntry "extern/(internal/reflectlite.Value).Set.zeroValue")
    if fl / ReflectliteValue.flagAddr % 2 == 0 then unsupported (.noEntry "extern/(internal/reflectlite.Value).Set.unaddressable")
    let val ← loadVar src b
    if ← Rtype.directlyAssignable dst src then storeVar dst a val
    else if ← Rtype.implements dst src then
      if (← Rtype.kind src) == 20 then
        match val with
        | .nilIface => unsupported (.noEntry "extern/reflectlite: a nil value of one interface type handed on as a value of another")
        | _ => storeVar dst a val
      else storeVar dst a (.iface src val)
    else panicString ("reflectlite.Set: value of type " ++ (← Rtype.spelt src) ++ " is not assignable to type " ++ (← Rtype.spelt dst))
    pure (.tuple #[])) := rfl
theorem Tryz.parts39a (a : Addr) (w : World) : (ReflectliteValue.parts (.agg #[.pointer (some ⟨11, 104, none⟩), .pointer (some a), .int .u64 406])).run Tryz.prog w = .ok (some (104, a, 406)) w := by kernel_rfl
theorem Tryz.parts39 (a : Addr) (w : World) : (ReflectliteValue.parts (.agg #[.pointer (some ⟨11, 104, none⟩), .pointer (some a), .int .u64 150])).run Tryz.prog w = .ok (some (104, a, 150)) w := by kernel_rfl
theorem Tryz.parts27a (a : Addr) (w : World) : (ReflectliteValue.parts (.agg #[.pointer (some ⟨11, 32, none⟩), .pointer (some a), .int .u64 386])).run Tryz.prog w = .ok (some (32, a, 386)) w := by kernel_rfl
theorem Tryz.parts27 (a : Addr) (w : World) : (ReflectliteValue.parts (.agg #[.pointer (some ⟨11, 32, none⟩), .pointer (some a), .int .u64 130])).run Tryz.prog w = .ok (some (32, a, 130)) w := by kernel_rfl
theorem Tryz.direct39 (w : World) : (Rtype.directlyAssignable 104 104).run Tryz.prog w = .ok true w := by kernel_rfl
theorem Tryz.direct27 (w : World) : (Rtype.directlyAssignable 32 32).run Tryz.prog w = .ok true w := by kernel_rfl
theorem Tryz.set39 (ta b e : Addr) (old : Value) (W : World) (hb : W.cell? b = some (.pointer (some e))) (ht : W.cell? ta = some old) (hf : W.frozen? ta = false) :
    (ReflectliteValue.set #[.agg #[.pointer (some ⟨11, 104, none⟩), .pointer (some ta), .int .u64 406], .agg #[.pointer (some ⟨11, 104, none⟩), .pointer (some b), .int .u64 150]]).run Tryz.prog W
      = .ok (.tuple #[]) (W.setCell ta (.pointer (some e))) := by
  rw [rls]
  simp only [Sem.run_bind, Tryz.parts39a, Tryz.parts39, Result.andThen]
  simp [ReflectliteValue.flagAddr, loadVar, isAgg, underlying, Tryz.underlying104, hb, Result.andThen, Tryz.direct39, storeVar, Value.cells, storeCells, Addr.add]
  rw [run_store Tryz.prog W ta _ _ (by rfl)]
  simp [ht, hf]
theorem Tryz.set27 (ta b : Addr) (c : Int) (old : Value) (W : World) (hb : W.cell? b = some (.int .i64 c)) (ht : W.cell? ta = some old) (hf : W.frozen? ta = false) :
    (ReflectliteValue.set #[.agg #[.pointer (some ⟨11, 32, none⟩), .pointer (some ta), .int .u64 386], .agg #[.pointer (some ⟨11, 32, none⟩), .pointer (some b), .int .u64 130]]).run Tryz.prog W
      = .ok (.tuple #[]) (W.setCell ta (.int .i64 c)) := by
  rw [rls]
  simp only [Sem.run_bind, Tryz.parts27a, Tryz.parts27, Result.andThen]
  simp [ReflectliteValue.flagAddr, loadVar, isAgg, underlying, Tryz.underlying32, hb, Result.andThen, Tryz.direct27, storeVar, Value.cells, storeCells, Addr.add]
  rw [run_store Tryz.prog W ta _ _ (by rfl)]
  simp [ht, hf]

/- the assertions of errors.as and errors.is -/
theorem Tryz.noAsF (v : Value) (xT : TypeId) (w : World) : (Instr.typeAssert (.iface 104 v) xT 149 true).run Tryz.prog w = .ok (.tuple #[.nilIface, .bool false]) w := run_typeAssert_lacksB Tryz.underlying149 (by kernel_rfl) (by kernel_rfl) v xT w
theorem Tryz.noAsE (v : Value) (xT : TypeId) (w : World) : (Instr.typeAssert (.iface 32 v) xT 149 true).run Tryz.prog w = .ok (.tuple #[.nilIface, .bool false]) w := run_typeAssert_lacksB Tryz.underlying149 (by kernel_rfl) (by kernel_rfl) v xT w
theorem Tryz.hasUnwrapF (v : Value) (xT : TypeId) (w : World) : (Instr.typeAssert (.iface 104 v) xT 152 true).run Tryz.prog w = .ok (.tuple #[.iface 104 v, .bool true]) w := run_typeAssert_hasB Tryz.underlying152 (by kernel_rfl) v xT w
theorem Tryz.noUnwrapE (v : Value) (xT : TypeId) (w : World) : (Instr.typeAssert (.iface 32 v) xT 152 true).run Tryz.prog w = .ok (.tuple #[.nilIface, .bool false]) w := run_typeAssert_lacksB Tryz.underlying152 (by kernel_rfl) (by kernel_rfl) v xT w
theorem Tryz.noUnwrapsE (v : Value) (xT : TypeId) (w : World) : (Instr.typeAssert (.iface 32 v) xT 154 true).run Tryz.prog w = .ok (.tuple #[.nilIface, .bool false]) w := run_typeAssert_lacksB Tryz.underlying154 (by kernel_rfl) (by kernel_rfl) v xT w
theorem Tryz.noIsE (v : Value) (xT : TypeId) (w : World) : (Instr.typeAssert (.iface 32 v) xT 171 true).run Tryz.prog w = .ok (.tuple #[.nilIface, .bool false]) w := run_typeAssert_lacksB Tryz.underlying171 (by kernel_rfl) (by kernel_rfl) v xT w

/- the library functions without a Go body -/
theorem Tryz.ext54 (args : Array Value) (w : World) : (callFunc 54 args).run Tryz.prog w = (((fun args => ReflectliteValue.unpack (args.getD 0 (.tuple #[]))) args : Sem Value).run Tryz.prog w).andThen fun v w' => .ok (.value v) w' :=
  @run_callFunc_extern Tryz.prog 54 _ (fun args => ReflectliteValue.unpack (args.getD 0 (.tuple #[]))) Tryz.func54 (by kernel_rfl) (by kernel_rfl) (by kernel_rfl) (by kernel_rfl) args w
theorem Tryz.ext55 (args : Array Value) (w : World) : (callFunc 55 args).run Tryz.prog w = (((ReflectliteValue.methodAny (ReflectliteValue.valueError "reflectlite.Value.Type" 0) (fun t _ _ _ => ReflectliteType.toType t)) args : Sem Value).run Tryz.prog w).andThen fun v w' => .ok (.value v) w' :=
  run_callFunc_extern Tryz.func55 (by kernel_rfl) (by kernel_rfl) (by kernel_rfl) (by kernel_rfl) args w
theorem Tryz.ext56 (args : Array Value) (w : World) : (callFunc 56 args).run Tryz.prog w = (((ReflectliteValue.method (ReflectliteValue.valueError "reflectlite.Value.IsNil" 0) ReflectliteValue.isNil) args : Sem Value).run Tryz.prog w).andThen fun v w' => .ok (.value v) w' :=
  run_callFunc_extern Tryz.func56 (by kernel_rfl) (by kernel_rfl) (by kernel_rfl) (by kernel_rfl) args w
theorem Tryz.ext172 (args : Array Value) (w : World) : (callFunc 172 args).run Tryz.prog w = (((ReflectliteType.method ReflectliteType.elem) args : Sem Value).run Tryz.prog w).andThen fun v w' => .ok (.value v) w' :=
  run_callFunc_extern Tryz.func172 (by kernel_rfl) (by kernel_rfl) (by kernel_rfl) (by kernel_rfl) args w
theorem Tryz.ext173 (args : Array Value) (w : World) : (callFunc 173 args).run Tryz.prog w = (((ReflectliteType.relation "Implements" ReflectliteType.implements_) args : Sem Value).run Tryz.prog w).andThen fun v w' => .ok (.value v) w' :=
  run_callFunc_extern Tryz.func173 (by kernel_rfl) (by kernel_rfl) (by kernel_rfl) (by kernel_rfl) args w
theorem Tryz.ext73 (args : Array Value) (w : World) : (callFunc 73 args).run Tryz.prog w = ((ReflectliteType.typeOf args : Sem Value).run Tryz.prog w).andThen fun v w' => .ok (.value v) w' :=
  run_callFunc_extern Tryz.func73 (by kernel_rfl) (by kernel_rfl) (by kernel_rfl) (by kernel_rfl) args w
theorem Tryz.ext170 (args : Array Value) (w : World) : (callFunc 170 args).run Tryz.prog w = (((ReflectliteType.relation "AssignableTo" ReflectliteType.assignableTo) args : Sem Value).run Tryz.prog w).andThen fun v w' => .ok (.value v) w' :=
  run_callFunc_extern Tryz.func170 (by kernel_rfl) (by kernel_rfl) (by kernel_rfl) (by kernel_rfl) args w
theorem Tryz.ext79 (args : Array Value) (w : World) : (callFunc 79 args).run Tryz.prog w = (((ReflectliteValue.method (ReflectliteValue.valueError "reflectlite.Value.Elem" 0) ReflectliteValue.elem) args : Sem Value).run Tryz.prog w).andThen fun v w' => .ok (.value v) w' :=
  run_callFunc_extern Tryz.func79 (by kernel_rfl) (by kernel_rfl) (by kernel_rfl) (by kernel_rfl) args w
theorem Tryz.ext80 (args : Array Value) (w : World) : (callFunc 80 args).run Tryz.prog w = ((ReflectliteValue.set args : Sem Value).run Tryz.prog w).andThen fun v w' => .ok (.value v) w' :=
  run_callFunc_extern Tryz.func80 (by kernel_rfl) (by kernel_rfl) (by kernel_rfl) (by kernel_rfl) args w
end Go.Proofs.YtfpkkobclkdniaaGreatDoor

namespace Go.Proofs.YtfpkkobclkdniaaGreatDoor
open Go.RowKit Go.Extern.Stop Go.Stop Go.Extern

/-- 'v' is an error of the places 'ps', the outermost first, around 'fin'. -/
def Chain (w : World) (fin : Value) : List ByteArray → Value → Prop
  | [], v => v = fin
  | p :: ps, v => ∃ (b : Nat) (x : Value), v = .iface 104 (.pointer (some ⟨b, 0, none⟩)) ∧ w.heap[b]? = some (.cells #[.string p, x] 106 (0, 0)) ∧ Chain w fin ps x

theorem Chain.below {w w' : World} {fin : Value} (hb : Below w.heap.size w w') : ∀ {ps : List ByteArray} {v : Value}, Chain w fin ps v → Chain w' fin ps v
  | [], _, h => h
  | p :: ps, v, ⟨b, x, e, hc, h⟩ => by
    have hlt : b < w.heap.size := by
      rcases Nat.lt_or_ge b w.heap.size with h' | h'
      · exact h'
      · rw [Array.getElem?_eq_none h'] at hc; cases hc
    exact ⟨b, x, e, by rw [hb.block b hlt]; exact hc, Chain.below hb h⟩

theorem Chain.iface {w : World} {t : TypeId} {y : Value} {ps : List ByteArray} {v : Value} (h : Chain w (.iface t y) ps v) : ∃ u z, v = .iface u z := by
  cases ps with
  | nil => exact ⟨t, y, h⟩
  | cons p ps => obtain ⟨b, x, e, _⟩ := h; exact ⟨_, _, e⟩

theorem lt_of_cellT {w : World} {a : Addr} {v : Value} (h : w.cell? a = some v) : a.block < w.heap.size := by
  rcases Nat.lt_or_ge a.block w.heap.size with h' | h'
  · exact h'
  · simp [World.cell?, Array.getElem?_eq_none h'] at h
theorem cell_alloc_old {w : World} {a : Addr} {v : Value} (h : w.cell? a = some v) (o : Obj) : (w.alloc o).cell? a = some v := by
  rw [World.cell?_alloc_lt _ _ a (lt_of_cellT h)]; exact h
theorem frozen_alloc_old {w : World} {a : Addr} {v : Value} (h : w.cell? a = some v) (o : Obj) : (w.alloc o).frozen? a = w.frozen? a :=
  World.frozen?_alloc_old _ _ a (Nat.ne_of_lt (lt_of_cellT h))
theorem cell_of_heap {w : World} {b : Nat} {cs : Array Value} {t : TypeId} {x : Value} {k : Nat} (h : w.heap[b]? = some (.cells cs t (0, 0))) (hk : cs[k]? = some x) : w.cell? ⟨b, k, none⟩ = some x := by
  simp [World.cell?, h, hk]

set_option maxHeartbeats 1000000 in
theorem as_code (ps : List ByteArray) (c : Int) (v : Value) (t a : Addr) (old : Value) (w : World) (hch : Chain w (.iface 32 (.int .i64 c)) ps v) (ha : w.cell? a = some (.pointer (some t))) (ht : w.cell? t = some old) (hf : w.frozen? t = false) :
    Calls Tryz.prog 57 #[v, .iface 79 (.pointer (some t)), .agg #[.pointer (some ⟨11, 79, none⟩), .pointer (some a), .int .u64 150], .iface 145 (.agg #[.pointer (some ⟨11, 32, none⟩)])] w
      fun e w' => e = .returned (.bool true) ∧ ∃ w1, Below w.heap.size w w1 ∧ w' = w1.setCell t (.int .i64 c) := by
  have h31 := Tryz.ext73
  have h74 := Tryz.ext170
  have h34 := Tryz.ext79
  have h25 := Tryz.ext54
  have h35 := Tryz.ext80
  have mA := Tryz.methodAssignableTo
  have mU := Tryz.methodUnwrap
  have tO := Tryz.typeOf27
  have tF := Tryz.typeOf39
  have aE := Tryz.asg27_27
  have aF := Tryz.asg39_27
  have nA := Tryz.noAsF
  have hU := Tryz.hasUnwrapF
  have vE := Tryz.valueOf27
  go_enter Tryz.func57, Tryz.ntmps57
  go_wp2
  go_loopg [0] ps.length (fun k e wr => wr = w.alloc (.cells #[.pointer (some ⟨11, 79, none⟩), .pointer (some a), .int .u64 150] 113) ∧ ∃ qs : List ByteArray, qs.length = k ∧ Chain w (.iface 32 (.int .i64 c)) qs e)
  case atStart => exact ⟨rfl, ps, rfl, hch⟩
  case round =>
    obtain ⟨rfl, qs, hk, hq⟩ := hrel
    have HK : Hid (qs.length = gk) := hk
    clear hk hch
    cases qs with
    | nil =>
      obtain rfl : _ = Value.iface 32 (.int .i64 c) := hq
      have el := Tryz.elemV45 a t (w.alloc (.cells #[.pointer (some ⟨11, 79, none⟩), .pointer (some a), .int .u64 150] 113)) (cell_alloc_old ha _)
      have st := Tryz.set27 t ⟨w.heap.size + 1, 0, none⟩ c old ((w.alloc (.cells #[.pointer (some ⟨11, 79, none⟩), .pointer (some a), .int .u64 150] 113)).alloc (.cells #[.int .i64 c] 32)) (by rw [World.cell?_alloc_at _ _ _ _ (by simp)]; rfl) (cell_alloc_old (cell_alloc_old ht _) _) (by rw [frozen_alloc_old (cell_alloc_old ht _), frozen_alloc_old ht]; exact hf)
      go_wp2
      go_ret
      exact ⟨rfl, _, ((Below.refl _ _).alloc (Nat.le_refl _) _).alloc (by simp) _, rfl⟩
    | cons p qs =>
      obtain ⟨b, x, rfl, hcell, hq⟩ := hq
      obtain ⟨u, z, rfl⟩ := hq.iface
      have hc1 : (w.alloc (.cells #[.pointer (some ⟨11, 79, none⟩), .pointer (some a), .int .u64 150] 113)).cell? ⟨b, 1, none⟩ = some (.iface u z) := cell_alloc_old (cell_of_heap hcell rfl) _
      go_wp2
      go_roundg qs.length
      case measure => have := HK.out; simp at this; omega
      case rel => exact ⟨rfl, qs, rfl, hq⟩
end Go.Proofs.YtfpkkobclkdniaaGreatDoor
