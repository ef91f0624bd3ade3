/-
  A heap of records as it lies in memory. No conditions beyond those stated.
-/
import Derived.Test.YtjihfbahcebljaaDoorVTwin3
import Derived.Test.YtjihfbahcebljaaDoorHPure
import Derived.Laws.OwnMore
namespace Go.Proofs.YtjihfbahcebljaaDoor
open Go.RowKit

/-- a record: its number, what it is, where its list and its fields lie. -/
structure Dl where
  id : Int
  v : V
  l : Value
  f : Value
def Dl.enc (e : Dl) : List Value := [.int .i64 e.id, .int .i64 e.v.kind, .int .i64 e.v.num, .string e.v.text, e.l, e.f]
def Dl.pairR (e : Dl) : Rec := (e.id, e.v)
def encDs (ds : List Dl) : List Value := ds.flatMap Dl.enc

theorem encDs_length : ∀ ds : List Dl, (encDs ds).length = ds.length * 6
  | [] => rfl
  | e :: ds => by
    have ih := encDs_length ds
    unfold encDs at ih ⊢
    rw [List.flatMap_cons, List.length_append, ih, List.length_cons]
    simp [Dl.enc]; omega
theorem encDs_append (a b : List Dl) : encDs (a ++ b) = encDs a ++ encDs b := by simp [encDs]
theorem encDs_at : ∀ (ds : List Dl) (i j : Nat) (e : Dl) (u : Value), ds[i]? = some e → e.enc[j]? = some u → (encDs ds)[i * 6 + j]? = some u
  | [], _, _, _, _, h, _ => by simp at h
  | e :: ds, 0, j, e', u, h, hu => by
    simp at h; subst h
    have : j < e.enc.length := (List.getElem?_eq_some_iff.1 hu).1
    unfold encDs
    rw [List.flatMap_cons, List.getElem?_append_left (by omega), Nat.zero_mul, Nat.zero_add]; exact hu
  | e :: ds, i + 1, j, e', u, h, hu => by
    have ih := encDs_at ds i j e' u (by simpa using h) hu
    unfold encDs at ih ⊢
    have hl : e.enc.length = 6 := rfl
    rw [List.flatMap_cons, List.getElem?_append_right (by omega), hl, show (i + 1) * 6 + j - 6 = i * 6 + j by omega]
    exact ih
theorem encDs_take : ∀ (fs : List Dl) (i : Nat), (encDs fs).take (i * 6) = encDs (fs.take i)
  | [], i => by simp [encDs]
  | f :: fs, 0 => by simp [encDs]
  | f :: fs, i + 1 => by
    have ih := encDs_take fs i
    unfold encDs at ih ⊢
    rw [List.take_succ_cons, List.flatMap_cons, List.flatMap_cons, show (i + 1) * 6 = f.enc.length + i * 6 by simp [Dl.enc]; omega, List.take_length_add_append, ih]
theorem encDs_drop : ∀ (fs : List Dl) (i : Nat), (encDs fs).drop (i * 6) = encDs (fs.drop i)
  | [], i => by simp [encDs]
  | f :: fs, 0 => by simp [encDs]
  | f :: fs, i + 1 => by
    have ih := encDs_drop fs i
    unfold encDs at ih ⊢
    rw [List.drop_succ_cons, List.flatMap_cons, show (i + 1) * 6 = f.enc.length + i * 6 by simp [Dl.enc]; omega, List.drop_length_add_append, ih]
theorem encDs_one {ds : List Dl} (h : ∀ e ∈ ds, ∃ a1 n1 c1 a2 n2 c2, e.l = .slice a1 n1 c1 ∧ e.f = .slice a2 n2 c2) : ∀ u ∈ encDs ds, u.oneCell' = true := by
  intro u hu
  obtain ⟨e, he, hu⟩ := List.mem_flatMap.1 hu
  obtain ⟨a1, n1, c1, a2, n2, c2, h1, h2⟩ := h e he
  simp only [Dl.enc, h1, h2, List.mem_cons, List.not_mem_nil, or_false] at hu
  rcases hu with rfl | rfl | rfl | rfl | rfl | rfl <;> rfl
theorem encDs_set (ds : List Dl) (j : Nat) (e e' : Dl) (h : ds[j]? = some e) : encDs (ds.set j e') = encDs (ds.take j) ++ e'.enc ++ encDs (ds.drop (j + 1)) := by
  have hj := (List.getElem?_eq_some_iff.1 h).1
  rw [List.set_eq_take_append_cons_drop, if_pos hj, encDs_append]
  simp [encDs]

/-- whatever is a row of cells stays as it was. -/
def Cells (w w' : World) : Prop := ∀ (b : Nat) (cur : Array Value) (t : TypeId), w.heap[b]? = some (Obj.cells cur t (0, 0)) → w'.heap[b]? = w.heap[b]?
/-- all stays as it was but heaps and their rows of records. -/
def Kept (w w' : World) : Prop := ∀ (b : Nat) (o : Obj), w.heap[b]? = some o → (∀ cur, o ≠ Obj.cells cur 57 (0, 0)) → (∀ cur, o ≠ Obj.cells cur 46 (0, 0)) → w'.heap[b]? = some o
theorem Kept.refl (w : World) : Kept w w := fun _ _ h _ _ => h
theorem Kept.trans {a b c : World} (h : Kept a b) (k : Kept b c) : Kept a c := fun i o ho h1 h2 => k i o (h i o ho h1 h2) h1 h2
theorem below_kept {w w' : World} (h : Below w.heap.size w w') : Kept w w' := fun b o ho _ _ => by rw [h.block b (lt_of_heap ho)]; exact ho
theorem Cells.refl (w : World) : Cells w w := fun _ _ _ _ => rfl
theorem Cells.trans {a b c : World} (h : Cells a b) (k : Cells b c) : Cells a c := fun i cur t ho => by
  have h1 := h i cur t ho
  rw [k i cur t (h1.trans ho), h1]
theorem below_cells {w w' : World} (h : Below w.heap.size w w') : Cells w w' := fun b _ _ ho => h.block b (lt_of_heap ho)
theorem Cells.of_map {w w' : World} {M k : Nat} {es : Array MapEntry} (hm : w.heap[M]? = some (.map es k)) (hg : w.grownBy w' (some M)) : Cells w w' := fun b cur t ho =>
  hg.block b (lt_of_heap ho) fun e => by cases e; rw [hm] at ho; cases ho
theorem Cells.of_iter {w w' : World} {r s c : Nat} {m : Option Nat} {seen : Array Nat} (hm : w.heap[r]? = some (.mapIter m s seen c)) (hg : w.grownBy w' (some r)) : Cells w w' := fun b cur t ho =>
  hg.block b (lt_of_heap ho) fun e => by cases e; rw [hm] at ho; cases ho

theorem RowAt.keepT {ok : Nat → Prop} {W W' : World} {t k n : Nat} {s : Value} {xs : List Value} (hk : ∀ (b : Nat) (cur : Array Value), W.heap[b]? = some (Obj.cells cur t (0, 0)) → W'.heap[b]? = W.heap[b]?) (h : RowAt ok W t k s n xs) : RowAt ok W' t k s n xs := by
  refine ⟨⟨h.1.1, ?_⟩, h.2.1, h.2.2⟩
  rcases h.1.2 with hn | ⟨g, cap, cur, e, hb, hg, rest⟩
  · exact .inl hn
  · exact .inr ⟨g, cap, cur, e, hb, (hk g cur hg).trans hg, rest⟩
theorem Rep.keepT {ok : Nat → Prop} {W W' : World} (h1 : ∀ (b : Nat) (cur : Array Value), W.heap[b]? = some (Obj.cells cur 38 (0, 0)) → W'.heap[b]? = W.heap[b]?) (h2 : ∀ (b : Nat) (cur : Array Value), W.heap[b]? = some (Obj.cells cur 75 (0, 0)) → W'.heap[b]? = W.heap[b]?) :
    ∀ {n : Nat} {v : V} {l f : Value}, Rep ok n W v l f → Rep ok n W' v l f
  | 0, _, _, _, h => h
  | _n + 1, _, _, _, ⟨⟨es, e1, e2, e3⟩, ⟨fs, f1, f2, f3⟩⟩ =>
    ⟨⟨es, e1, e2.keepT h1, fun e he => Rep.keepT h1 h2 (e3 e he)⟩, ⟨fs, f1, f2.keepT h2, fun e he => Rep.keepT h1 h2 (f3 e he)⟩⟩
theorem Lies.cells {n : Nat} {W W' : World} {v : V} {l f : Value} (h : Lies n W v l f) (k : Cells W W') : Lies n W' v l f := Rep.keepT (fun b cur hb => k b cur _ hb) (fun b cur hb => k b cur _ hb) h
theorem Lies.kept {n : Nat} {W W' : World} {v : V} {l f : Value} (h : Lies n W v l f) (k : Kept W W') : Lies n W' v l f :=
  Rep.keepT (fun b cur hb => (k b _ hb (fun _ e => by cases e) (fun _ e => by cases e)).trans hb.symm) (fun b cur hb => (k b _ hb (fun _ e => by cases e) (fun _ e => by cases e)).trans hb.symm) h

/-- a heap behind a pointer: its records, the number given last; all that it writes to lies from a block on. -/
def HeapAt (base : Nat) (W : World) (B : Nat) (rs : List Rec) (last : Int) : Prop :=
  base ≤ B ∧ ∃ (s : Value) (ds : List Dl), ds.map Dl.pairR = rs ∧ W.heap[B]? = some (Obj.cells #[s, .int .i64 last] 57 (0, 0)) ∧ W.ownsRow base 46 6 s ds.length (encDs ds) ∧ ∀ d ∈ ds, Lies 4 W d.v d.l d.f
theorem ownsRow_cells {base : Nat} {W W' : World} {t k n : Nat} {s : Value} {xs : List Value} (hk : Cells W W') (h : W.ownsRow base t k s n xs) : W'.ownsRow base t k s n xs := by
  refine ⟨h.1, ?_⟩
  rcases h.2 with hn | ⟨g, cap, cur, e, hb, hg, rest⟩
  · exact .inl hn
  · exact .inr ⟨g, cap, cur, e, hb, (hk g cur _ hg).trans hg, rest⟩
theorem HeapAt.cells {base : Nat} {W W' : World} {B : Nat} {rs : List Rec} {last : Int} (h : HeapAt base W B rs last) (k : Cells W W') : HeapAt base W' B rs last := by
  obtain ⟨h0, s, ds, h1, h2, h3, h4⟩ := h
  exact ⟨h0, s, ds, h1, (k B _ _ h2).trans h2, ownsRow_cells k h3, fun d hd => (h4 d hd).cells k⟩
theorem HeapAt.below {base : Nat} {W W' : World} {B : Nat} {rs : List Rec} {last : Int} (h : HeapAt base W B rs last) (k : Below W.heap.size W W') : HeapAt base W' B rs last := h.cells (below_cells k)
theorem HeapAt.lt {base : Nat} {W : World} {B : Nat} {rs : List Rec} {last : Int} (h : HeapAt base W B rs last) : B < W.heap.size := by
  obtain ⟨h0, s, ds, h1, h2, _⟩ := h
  exact lt_of_heap h2

theorem slice_of_row {base : Nat} {W : World} {t k n : Nat} {s : Value} {xs : List Value} (h : W.ownsRow base t k s n xs) : ∃ a c, s = .slice a n c := by
  rcases h.2 with ⟨rfl, rfl⟩ | ⟨g, cap, cur, rfl, _⟩
  · exact ⟨_, _, rfl⟩
  · exact ⟨_, _, rfl⟩
/-- what a row with something in it is. -/
theorem cells_of_row {base : Nat} {W : World} {t k n : Nat} {s : Value} {xs : List Value} (h : W.ownsRow base t k s n xs) (hn : 0 < n) :
    ∃ b c cur, s = .slice (some ⟨b, 0, none⟩) n c ∧ base ≤ b ∧ W.heap[b]? = some (Obj.cells cur t (0, 0)) ∧ n ≤ c ∧ c ≤ 9223372036854775807 ∧ cur.size = c * k ∧ cur.toList.take (n * k) = xs ∧ ∀ j u, xs[j]? = some u → W.cell? ⟨b, j, none⟩ = some u := by
  rcases h.2 with ⟨rfl, rfl⟩ | ⟨g, cap, cur, rfl, hb, hg, h1, h2, h3, h4⟩
  · omega
  · refine ⟨g, cap, cur, rfl, hb, hg, h1, by unfold maxLen at h2; omega, h3, h4, fun j u hj => ?_⟩
    have := h.cells (g := g) rfl j u hj
    rwa [Addr.add_lit, Nat.zero_add] at this
/-- the cells of the record at a place. -/
theorem row_doc {base : Nat} {W : World} {b c n : Nat} {ds : List Dl} (h : W.ownsRow base 46 6 (.slice (some ⟨b, 0, none⟩) n c) n (encDs ds)) {i : Nat} {e : Dl} (he : ds[i]? = some e) :
    W.cell? ⟨b, i * 6, none⟩ = some (.int .i64 e.id) ∧ W.cell? ⟨b, i * 6 + 1, none⟩ = some (.int .i64 e.v.kind) ∧ W.cell? ⟨b, i * 6 + 2, none⟩ = some (.int .i64 e.v.num) ∧ W.cell? ⟨b, i * 6 + 3, none⟩ = some (.string e.v.text) ∧ W.cell? ⟨b, i * 6 + 4, none⟩ = some e.l ∧ W.cell? ⟨b, i * 6 + 5, none⟩ = some e.f := by
  have hc := fun j u hu => by
    have := h.cells (g := b) rfl (i * 6 + j) u (encDs_at ds i j e u he hu)
    rwa [Addr.add_lit, Nat.zero_add] at this
  exact ⟨hc 0 _ rfl, hc 1 _ rfl, hc 2 _ rfl, hc 3 _ rfl, hc 4 _ rfl, hc 5 _ rfl⟩
end Go.Proofs.YtjihfbahcebljaaDoor
