/-
  Values of documents as they lie in memory: rows of cells, so deep. No conditions beyond those stated.
  Rows that are written in place; package twin's list by its contract. No conditions beyond those stated.
  package twin's fields and Value by their contracts. No conditions beyond those stated.
-/
import Derived.Test.YtgcccihnlecpnaaGreatDoorProg
import Derived.Test.YtgcccihnlecpnaaGreatDoorU1
import Derived.WalkKit
import Derived.Below
import Derived.LoopTactic
import Derived.WalkSmall
import Derived.Deep.LoopGhost
import Derived.Deep.RegionWith
import Derived.WalkLawsBesides
import Derived.WalkSpells
import Derived.Lib.LazyBuf
namespace Go.Proofs.YtgcccihnlecpnaaGreatDoor
open Go.RowKit

/-- a value in a list: what it is, where its list and its fields lie. -/
structure El where
  v : V
  l : Value
  f : Value
/-- a field. -/
structure Fl where
  name : ByteArray
  v : V
  l : Value
  f : Value
def El.enc (e : El) : List Value := [.int .i64 e.v.kind, .int .i64 e.v.num, .string e.v.text, e.l, e.f]
def Fl.enc (e : Fl) : List Value := [.string e.name, .int .i64 e.v.kind, .int .i64 e.v.num, .string e.v.text, e.l, e.f]
def Fl.pair (e : Fl) : ByteArray × V := (e.name, e.v)
def encEs (es : List El) : List Value := es.flatMap El.enc
def encFs (fs : List Fl) : List Value := fs.flatMap Fl.enc

/-- a slice that begins at the head of a row; its block is one of those that are let be. -/
def RowAt (ok : Nat → Prop) (W : World) (t k : Nat) (s : Value) (n : Nat) (xs : List Value) : Prop :=
  W.ownsRow 0 t k s n xs ∧ n ≤ 1000000 ∧ ∀ b, s.ownBlock = some b → ok b
/-- a value's list and fields, so deep. -/
def Rep (ok : Nat → Prop) : Nat → World → V → Value → Value → Prop
  | 0, _, v, l, f => v.list = [] ∧ v.fields = [] ∧ l = .slice none 0 0 ∧ f = .slice none 0 0
  | n + 1, W, v, l, f =>
    (∃ es : List El, es.map El.v = v.list ∧ RowAt ok W 28 5 l es.length (encEs es) ∧ ∀ e ∈ es, Rep ok n W e.v e.l e.f) ∧
    (∃ fs : List Fl, fs.map Fl.pair = v.fields ∧ RowAt ok W 44 6 f fs.length (encFs fs) ∧ ∀ e ∈ fs, Rep ok n W e.v e.l e.f)
/-- wherever it lies. -/
def Lies (n : Nat) (W : World) (v : V) (l f : Value) : Prop := Rep (fun _ => True) n W v l f

theorem lt_of_cell {w : World} {a : Addr} {v : Value} (h : w.cell? a = some v) : a.block < w.heap.size := by
  rcases Nat.lt_or_ge a.block w.heap.size with h' | h'
  · exact h'
  · simp [World.cell?, Array.getElem?_eq_none h'] at h
theorem lt_of_heap {w : World} {b : Nat} {o : Obj} (h : w.heap[b]? = some o) : b < w.heap.size := (Array.getElem?_eq_some_iff.1 h).1

section
variable {ok ok' : Nat → Prop} {W W' : World} {t k n : Nat} {s : Value} {xs : List Value}
theorem ownsRow_move {base : Nat} (hm : ∀ b, s.ownBlock = some b → b < W.heap.size → base ≤ b ∧ W'.heap[b]? = W.heap[b]?) {base0 : Nat} (h : W.ownsRow base0 t k s n xs) : W'.ownsRow base t k s n xs := by
  refine ⟨h.1, ?_⟩
  rcases h.2 with hn | ⟨g, cap, cur, rfl, hb, hgg, rest⟩
  · exact .inl hn
  · obtain ⟨h1, h2⟩ := hm g rfl (lt_of_heap hgg)
    exact .inr ⟨g, cap, cur, rfl, h1, h2.trans hgg, rest⟩
theorem RowAt.move (hm : ∀ b, ok b → b < W.heap.size → ok' b ∧ W'.heap[b]? = W.heap[b]?) (h : RowAt ok W t k s n xs) : RowAt ok' W' t k s n xs := by
  refine ⟨ownsRow_move (fun b hb hl => ⟨Nat.zero_le _, (hm b (h.2.2 b hb) hl).2⟩) h.1, h.2.1, fun b hb => (hm b (h.2.2 b hb) (h.1.lt b hb).2).1⟩
theorem RowAt.slice (h : RowAt ok W t k s n xs) : ∃ a c, s = .slice a n c := by
  rcases h.1.2 with ⟨rfl, rfl⟩ | ⟨g, cap, cur, rfl, _⟩
  · exact ⟨_, _, rfl⟩
  · exact ⟨_, _, rfl⟩
theorem RowAt.nil : RowAt ok W t k (.slice none 0 0) 0 [] := ⟨World.ownsRow_nil _ _ _ _, Nat.zero_le _, fun b hb => by cases hb⟩
/-- what a row with something in it is. -/
theorem RowAt.cells (h : RowAt ok W t k s n xs) (hn : 0 < n) : ∃ b c, s = .slice (some ⟨b, 0, none⟩) n c ∧ b < W.heap.size ∧ ok b ∧ n ≤ c ∧ c ≤ 9223372036854775807 ∧ ∀ j u, xs[j]? = some u → W.cell? ⟨b, j, none⟩ = some u := by
  rcases h.1.2 with ⟨rfl, rfl⟩ | ⟨g, cap, cur, rfl, hb, hg, h1, h2, h3, h4⟩
  · omega
  · refine ⟨g, cap, rfl, lt_of_heap hg, h.2.2 g rfl, h1, by unfold maxLen at h2; omega, fun j u hj => ?_⟩
    have := h.1.cells (g := g) rfl j u hj
    rwa [Addr.add_lit, Nat.zero_add] at this
end

theorem Rep.move {ok ok' : Nat → Prop} {W W' : World} (hm : ∀ b, ok b → b < W.heap.size → ok' b ∧ W'.heap[b]? = W.heap[b]?) : ∀ {n : Nat} {v : V} {l f : Value}, Rep ok n W v l f → Rep ok' n W' v l f
  | 0, _, _, _, h => h
  | _n + 1, _, _, _, ⟨⟨es, e1, e2, e3⟩, ⟨fs, f1, f2, f3⟩⟩ =>
    ⟨⟨es, e1, e2.move hm, fun e he => Rep.move hm (e3 e he)⟩, ⟨fs, f1, f2.move hm, fun e he => Rep.move hm (f3 e he)⟩⟩
theorem Rep.below {ok : Nat → Prop} {W W' : World} (hb : Below W.heap.size W W') {n : Nat} {v : V} {l f : Value} (h : Rep ok n W v l f) : Rep ok n W' v l f :=
  h.move fun b hk hl => ⟨hk, hb.block b hl⟩
theorem Rep.lies {ok : Nat → Prop} {W : World} {n : Nat} {v : V} {l f : Value} (h : Rep ok n W v l f) : Lies n W v l f := h.move fun _ _ _ => ⟨trivial, rfl⟩
theorem Lies.below {W W' : World} (hb : Below W.heap.size W W') {n : Nat} {v : V} {l f : Value} (h : Lies n W v l f) : Lies n W' v l f := Rep.below hb h
theorem Rep.up {ok : Nat → Prop} {W : World} : ∀ {n : Nat} {v : V} {l f : Value}, Rep ok n W v l f → Rep ok (n + 1) W v l f
  | 0, v, l, f, ⟨h1, h2, h3, h4⟩ => by
    subst h3 h4
    exact ⟨⟨[], h1.symm, RowAt.nil, fun e he => by cases he⟩, ⟨[], h2.symm, RowAt.nil, fun e he => by cases he⟩⟩
  | n + 1, _, _, _, ⟨⟨es, e1, e2, e3⟩, ⟨fs, f1, f2, f3⟩⟩ =>
    ⟨⟨es, e1, e2, fun e he => Rep.up (e3 e he)⟩, ⟨fs, f1, f2, fun e he => Rep.up (f3 e he)⟩⟩
theorem Rep.le {ok : Nat → Prop} {W : World} {n m : Nat} {v : V} {l f : Value} (h : Rep ok n W v l f) (hm : n ≤ m) : Rep ok m W v l f := by
  induction hm with
  | refl => exact h
  | step _ ih => exact ih.up
theorem Rep.slices {ok : Nat → Prop} {W : World} {n : Nat} {v : V} {l f : Value} (h : Rep ok n W v l f) : ∃ al cl af cf, l = .slice al v.list.length cl ∧ f = .slice af v.fields.length cf := by
  obtain ⟨⟨es, e1, e2, e3⟩, ⟨fs, f1, f2, f3⟩⟩ := h.up
  obtain ⟨a, c, h1⟩ := e2.slice
  obtain ⟨a', c', h2⟩ := f2.slice
  exact ⟨a, c, a', c', by rw [h1, ← e1, List.length_map], by rw [h2, ← f1, List.length_map]⟩

theorem encEs_length : ∀ es : List El, (encEs es).length = es.length * 5
  | [] => rfl
  | e :: es => by
    have ih := encEs_length es
    unfold encEs at ih ⊢
    rw [List.flatMap_cons, List.length_append, ih, List.length_cons]
    simp [El.enc]; omega
theorem encFs_length : ∀ fs : List Fl, (encFs fs).length = fs.length * 6
  | [] => rfl
  | e :: es => by
    have ih := encFs_length es
    unfold encFs at ih ⊢
    rw [List.flatMap_cons, List.length_append, ih, List.length_cons]
    simp [Fl.enc]; omega
/-- the cells of the value at a place. -/
theorem encEs_at : ∀ (es : List El) (i j : Nat) (e : El) (u : Value), es[i]? = some e → e.enc[j]? = some u → (encEs es)[i * 5 + j]? = some u
  | [], _, _, _, _, h, _ => by simp at h
  | e :: es, 0, j, e', u, h, hu => by
    simp at h; subst h
    have : j < e.enc.length := (List.getElem?_eq_some_iff.1 hu).1
    unfold encEs
    rw [List.flatMap_cons, List.getElem?_append_left (by omega), Nat.zero_mul, Nat.zero_add]; exact hu
  | e :: es, i + 1, j, e', u, h, hu => by
    have ih := encEs_at es i j e' u (by simpa using h) hu
    unfold encEs at ih ⊢
    rw [List.flatMap_cons, List.getElem?_append_right (by simp [El.enc]; omega)]
    rw [← ih]; congr 1; simp [El.enc]; omega
theorem encFs_at : ∀ (es : List Fl) (i j : Nat) (e : Fl) (u : Value), es[i]? = some e → e.enc[j]? = some u → (encFs es)[i * 6 + j]? = some u
  | [], _, _, _, _, h, _ => by simp at h
  | e :: es, 0, j, e', u, h, hu => by
    simp at h; subst h
    have : j < e.enc.length := (List.getElem?_eq_some_iff.1 hu).1
    unfold encFs
    rw [List.flatMap_cons, List.getElem?_append_left (by omega), Nat.zero_mul, Nat.zero_add]; exact hu
  | e :: es, i + 1, j, e', u, h, hu => by
    have ih := encFs_at es i j e' u (by simpa using h) hu
    unfold encFs at ih ⊢
    rw [List.flatMap_cons, List.getElem?_append_right (by simp [Fl.enc]; omega)]
    rw [← ih]; congr 1; simp [Fl.enc]; omega
/-- the five cells of the value at place i of a row. -/
theorem RowAt.el {ok : Nat → Prop} {W : World} {t b c n : Nat} {es : List El} (h : RowAt ok W t 5 (.slice (some ⟨b, 0, none⟩) n c) n (encEs es)) {i : Nat} {e : El} (he : es[i]? = some e) :
    W.cell? ⟨b, i * 5, none⟩ = some (.int .i64 e.v.kind) ∧ W.cell? ⟨b, i * 5 + 1, none⟩ = some (.int .i64 e.v.num) ∧ W.cell? ⟨b, i * 5 + 2, none⟩ = some (.string e.v.text) ∧ W.cell? ⟨b, i * 5 + 3, none⟩ = some e.l ∧ W.cell? ⟨b, i * 5 + 4, none⟩ = some e.f := by
  have hc : ∀ j u, (encEs es)[j]? = some u → W.cell? ⟨b, j, none⟩ = some u := fun j u hj => by
    have := h.1.cells (g := b) rfl j u hj
    rwa [Addr.add_lit, Nat.zero_add] at this
  exact ⟨hc _ _ (encEs_at es i 0 e _ he rfl), hc _ _ (encEs_at es i 1 e _ he rfl), hc _ _ (encEs_at es i 2 e _ he rfl), hc _ _ (encEs_at es i 3 e _ he rfl), hc _ _ (encEs_at es i 4 e _ he rfl)⟩
theorem RowAt.fl {ok : Nat → Prop} {W : World} {t b c n : Nat} {es : List Fl} (h : RowAt ok W t 6 (.slice (some ⟨b, 0, none⟩) n c) n (encFs es)) {i : Nat} {e : Fl} (he : es[i]? = some e) :
    W.cell? ⟨b, i * 6, none⟩ = some (.string e.name) ∧ W.cell? ⟨b, i * 6 + 1, none⟩ = some (.int .i64 e.v.kind) ∧ W.cell? ⟨b, i * 6 + 2, none⟩ = some (.int .i64 e.v.num) ∧ W.cell? ⟨b, i * 6 + 3, none⟩ = some (.string e.v.text) ∧ W.cell? ⟨b, i * 6 + 4, none⟩ = some e.l ∧ W.cell? ⟨b, i * 6 + 5, none⟩ = some e.f := by
  have hc : ∀ j u, (encFs es)[j]? = some u → W.cell? ⟨b, j, none⟩ = some u := fun j u hj => by
    have := h.1.cells (g := b) rfl j u hj
    rwa [Addr.add_lit, Nat.zero_add] at this
  exact ⟨hc _ _ (encFs_at es i 0 e _ he rfl), hc _ _ (encFs_at es i 1 e _ he rfl), hc _ _ (encFs_at es i 2 e _ he rfl), hc _ _ (encFs_at es i 3 e _ he rfl), hc _ _ (encFs_at es i 4 e _ he rfl), hc _ _ (encFs_at es i 5 e _ he rfl)⟩
end Go.Proofs.YtgcccihnlecpnaaGreatDoor

namespace Go.Proofs.YtgcccihnlecpnaaGreatDoor
open Go.RowKit

theorem infoV : (Tryz.prog.info? 28).map (fun i => (i.zero, i.size, i.bytes)) = some (some (.agg #[.int .i64 0, .int .i64 0, .string ⟨#[]⟩, .slice none 0 0, .slice none 0 0]), 5, 80) := by kernel_rfl
theorem infoF : (Tryz.prog.info? 44).map (fun i => (i.zero, i.size, i.bytes)) = some (some (.agg #[.string ⟨#[]⟩, .int .i64 0, .int .i64 0, .string ⟨#[]⟩, .slice none 0 0, .slice none 0 0]), 6, 96) := by kernel_rfl

theorem make_rows {t e : TypeId} {z : Value} {size bytes : Nat} (ht : Tryz.prog.underlying t = some (.slice e)) (hinfo : (Tryz.prog.info? e).map (fun i => (i.zero, i.size, i.bytes)) = some (some z, size, bytes)) (n : Nat) (hb : bytes * n ≤ 281474976710656) (h63 : n ≤ 9223372036854775807) (w : World) :
    (Instr.makeSlice t (.int .i64 (n : Int)) (.int .i64 (n : Int))).run Tryz.prog w = .ok (.slice (some ⟨w.heap.size, 0, none⟩) n n) (w.alloc (.cells (madeCells z.cells (n * size)) e)) := by
  obtain ⟨i, hi, hzz⟩ := Option.map_eq_some_iff.1 hinfo
  simp only [Prod.mk.injEq] at hzz
  obtain ⟨hz, hs, hby⟩ := hzz
  subst hs hby
  have hb' : (i.bytes : Int) * (n : Int) ≤ 281474976710656 := by
    have h : ((i.bytes * n : Nat) : Int) ≤ 281474976710656 := by omega
    rwa [Int.natCast_mul] at h
  have hr := run_make (P := Tryz.prog) w t e i z ht hi hz .i64 .i64 n n (by omega) (Int.le_refl _) hb' (by omega)
  simpa only [Int.toNat_natCast] using hr

section
variable {W : World} {B t : Nat} {fr : Nat × Nat} {cur : Array Value} {i : Nat}
theorem set5_eq (h : i + 5 ≤ cur.size) (a0 a1 a2 a3 a4 : Value) : (((((cur.setIfInBounds i a0).setIfInBounds (i + 1) a1).setIfInBounds (i + 2) a2).setIfInBounds (i + 3) a3).setIfInBounds (i + 4) a4).toList = cur.toList.take i ++ [a0, a1, a2, a3, a4] ++ cur.toList.drop (i + 5) := by
  have hl : i + 5 ≤ cur.toList.length := by simpa using h
  simp only [Array.toList_setIfInBounds]
  have s1 := list_seg_step cur.toList i a0 [a1, a2, a3, a4] (by simpa using hl)
  have s2 := list_seg_step (cur.toList.set i a0) (i + 1) a1 [a2, a3, a4] (by simp; omega)
  have s3 := list_seg_step ((cur.toList.set i a0).set (i + 1) a1) (i + 2) a2 [a3, a4] (by simp; omega)
  have s4 := list_seg_step (((cur.toList.set i a0).set (i + 1) a1).set (i + 2) a2) (i + 3) a3 [a4] (by simp; omega)
  have s5 := list_seg_step ((((cur.toList.set i a0).set (i + 1) a1).set (i + 2) a2).set (i + 3) a3) (i + 4) a4 [] (by simp; omega)
  simp only [List.length_cons, List.length_nil, Nat.add_assoc, Nat.reduceAdd, List.append_nil, List.take_append_drop] at s1 s2 s3 s4 s5
  rw [s5, s4, s3, s2, s1]
theorem set6_eq (h : i + 6 ≤ cur.size) (a0 a1 a2 a3 a4 a5 : Value) : ((((((cur.setIfInBounds i a0).setIfInBounds (i + 1) a1).setIfInBounds (i + 2) a2).setIfInBounds (i + 3) a3).setIfInBounds (i + 4) a4).setIfInBounds (i + 5) a5).toList = cur.toList.take i ++ [a0, a1, a2, a3, a4, a5] ++ cur.toList.drop (i + 6) := by
  have hl : i + 6 ≤ cur.toList.length := by simpa using h
  simp only [Array.toList_setIfInBounds]
  have s1 := list_seg_step cur.toList i a0 [a1, a2, a3, a4, a5] (by simpa using hl)
  have s2 := list_seg_step (cur.toList.set i a0) (i + 1) a1 [a2, a3, a4, a5] (by simp; omega)
  have s3 := list_seg_step ((cur.toList.set i a0).set (i + 1) a1) (i + 2) a2 [a3, a4, a5] (by simp; omega)
  have s4 := list_seg_step (((cur.toList.set i a0).set (i + 1) a1).set (i + 2) a2) (i + 3) a3 [a4, a5] (by simp; omega)
  have s5 := list_seg_step ((((cur.toList.set i a0).set (i + 1) a1).set (i + 2) a2).set (i + 3) a3) (i + 4) a4 [a5] (by simp; omega)
  have s6 := list_seg_step (((((cur.toList.set i a0).set (i + 1) a1).set (i + 2) a2).set (i + 3) a3).set (i + 4) a4) (i + 5) a5 [] (by simp; omega)
  simp only [List.length_cons, List.length_nil, Nat.add_assoc, Nat.reduceAdd, List.append_nil, List.take_append_drop] at s1 s2 s3 s4 s5 s6
  rw [s6, s5, s4, s3, s2, s1]
theorem setCell_row (hg : W.heap[B]? = some (.cells cur t fr)) (v : Value) : (W.setCell ⟨B, i, none⟩ v).heap[B]? = some (.cells (cur.setIfInBounds i v) t fr) := by
  rw [setCell_eq_setRow W B i cur t fr v hg]
  exact setRow_heap W B cur _ t fr hg
/-- five cells of a row, written one behind the other. -/
theorem set5 (hg : W.heap[B]? = some (.cells cur t fr)) (h : i + 5 ≤ cur.size) (a0 a1 a2 a3 a4 : Value) :
    (((((W.setCell ⟨B, i, none⟩ a0).setCell ⟨B, i + 1, none⟩ a1).setCell ⟨B, i + 2, none⟩ a2).setCell ⟨B, i + 3, none⟩ a3).setCell ⟨B, i + 4, none⟩ a4).heap[B]? = some (.cells (cur.toList.take i ++ [a0, a1, a2, a3, a4] ++ cur.toList.drop (i + 5)).toArray t fr) := by
  rw [setCell_row (setCell_row (setCell_row (setCell_row (setCell_row hg a0) a1) a2) a3) a4, ← set5_eq h]
theorem set6 (hg : W.heap[B]? = some (.cells cur t fr)) (h : i + 6 ≤ cur.size) (a0 a1 a2 a3 a4 a5 : Value) :
    ((((((W.setCell ⟨B, i, none⟩ a0).setCell ⟨B, i + 1, none⟩ a1).setCell ⟨B, i + 2, none⟩ a2).setCell ⟨B, i + 3, none⟩ a3).setCell ⟨B, i + 4, none⟩ a4).setCell ⟨B, i + 5, none⟩ a5).heap[B]? = some (.cells (cur.toList.take i ++ [a0, a1, a2, a3, a4, a5] ++ cur.toList.drop (i + 6)).toArray t fr) := by
  rw [setCell_row (setCell_row (setCell_row (setCell_row (setCell_row (setCell_row hg a0) a1) a2) a3) a4) a5, ← set6_eq h]
theorem cell_row (hg : W.heap[B]? = some (.cells cur t fr)) (h : i < cur.size) : ∃ v, W.cell? ⟨B, i, none⟩ = some v := ⟨cur[i], by simp [World.cell?, hg, h]⟩
theorem frozen_row (hg : W.heap[B]? = some (.cells cur t (0, 0))) (j : Nat) : W.frozen? ⟨B, j, none⟩ = false := by simp [World.frozen?, hg]
end

theorem heap_setCell_ne (W : World) (a : Addr) (v : Value) {k : Nat} (h : k ≠ a.block) : (W.setCell a v).heap[k]? = W.heap[k]? := Below.heap_setCell W a v k h

theorem encEs_append (xs ys : List El) : encEs (xs ++ ys) = encEs xs ++ encEs ys := List.flatMap_append
theorem encFs_append (xs ys : List Fl) : encFs (xs ++ ys) = encFs xs ++ encFs ys := List.flatMap_append

/-- what a copy's row is while it is made: so many are done. -/
structure PartV (W : World) (B n k : Nat) (ds : List El) : Prop where
  len : ds.length = k
  row : ∃ cur, W.heap[B]? = some (.cells cur 28 (0, 0)) ∧ cur.size = n * 5 ∧ cur.toList.take (k * 5) = encEs ds

theorem PartV.step {W : World} {B n k : Nat} {ds : List El} (h : PartV W B n k ds) (hk : k < n) (v : V) (l f : Value) :
    PartV (((((W.setCell ⟨B, k * 5, none⟩ (.int .i64 v.kind)).setCell ⟨B, k * 5 + 1, none⟩ (.int .i64 v.num)).setCell ⟨B, k * 5 + 2, none⟩ (.string v.text)).setCell ⟨B, k * 5 + 3, none⟩ l).setCell ⟨B, k * 5 + 4, none⟩ f) B n (k + 1) (ds ++ [⟨v, l, f⟩]) := by
  obtain ⟨hl, cur, h1, h2, h3⟩ := h
  refine ⟨by simp [hl], _, set5 h1 (by omega) _ _ _ _ _, ?_, ?_⟩
  · simp; omega
  · rw [h3, encEs_append]
    have e : (encEs ds).length = k * 5 := by rw [encEs_length, hl]
    have e2 : (encEs ds ++ [Value.int .i64 v.kind, .int .i64 v.num, .string v.text, l, f]).length = (k + 1) * 5 := by rw [List.length_append, e]; simp; omega
    show List.take ((k + 1) * 5) (encEs ds ++ [Value.int .i64 v.kind, .int .i64 v.num, .string v.text, l, f] ++ cur.toList.drop (k * 5 + 5)) = _
    rw [← e2, List.take_left]
    rfl
theorem PartV.keep {W W' : World} {B n k : Nat} {ds : List El} (h : PartV W B n k ds) (hb : W'.heap[B]? = W.heap[B]?) : PartV W' B n k ds := by
  obtain ⟨hl, cur, h1, h2, h3⟩ := h
  exact ⟨hl, cur, hb.trans h1, h2, h3⟩
theorem PartV.done {W : World} {B n : Nat} {ds : List El} (h : PartV W B n n ds) (hn : n ≤ 1000000) {ok : Nat → Prop} (hB : ok B) : RowAt ok W 28 5 (.slice (some ⟨B, 0, none⟩) n n) ds.length (encEs ds) := by
  obtain ⟨hl, cur, h1, h2, h3⟩ := h
  subst hl
  exact ⟨⟨encEs_length ds, .inr ⟨B, _, cur, rfl, Nat.zero_le _, h1, Nat.le_refl _, by unfold maxLen; omega, h2, h3⟩⟩, hn, fun b hb => by cases hb; exact hB⟩

/-- a copy of a list, in memory of its own. -/
def CopyL (m : Nat) (w w' : World) (es : List El) (l' : Value) : Prop :=
  ∃ es' : List El, es'.map El.v = es.map El.v ∧ RowAt (fun k => w.heap.size ≤ k) w' 28 5 l' es'.length (encEs es') ∧ ∀ e ∈ es', Rep (fun k => w.heap.size ≤ k) m w' e.v e.l e.f

set_option maxHeartbeats 2000000 in
theorem twinList_any (n m : Nat) (es : List El) (l : Value) (w : World) (hrow : RowAt (fun _ => True) w 28 5 l es.length (encEs es)) (hle : ∀ e ∈ es, Lies n w e.v e.l e.f)
    (hv : ∀ e ∈ es, ∀ W, Below w.heap.size w W → Calls Tryz.prog 19 #[.agg #[.int .i64 e.v.kind, .int .i64 e.v.num, .string e.v.text, e.l, e.f]] W fun r w' => ∃ l' f', r = .returned (.agg #[.int .i64 e.v.kind, .int .i64 e.v.num, .string e.v.text, l', f']) ∧ Rep (fun k => W.heap.size ≤ k) m w' e.v l' f' ∧ Below W.heap.size W w') :
    Calls Tryz.prog 31 #[l] w fun r w' => ∃ l', r = .returned l' ∧ CopyL m w w' es l' ∧ Below w.heap.size w w' := by
  have hq : ∀ a m c W, (binOp .eql 25 (.slice a m c) (.slice none 0 0)).run Tryz.prog W = .ok (.bool a.isNone) W := fun a m c W => Lib.run_eql_slice_nil W _ _ a m c 0 0 Tryz.underlying25
  have hn := hrow.2.1
  rcases Nat.eq_zero_or_pos es.length with h0 | h0
  · obtain rfl := List.length_eq_zero_iff.1 h0
    clear hle hv
    rcases hrow.1.2 with ⟨rfl, _⟩ | ⟨g, cap, cur, rfl, _⟩
    · have q := hq none
      clear hrow
      go_enter Tryz.func31, Tryz.ntmps31
      go_wp2
      go_ret
      exact ⟨_, rfl, ⟨[], rfl, RowAt.nil, fun e he => by cases he⟩, Below.refl _ _⟩
    · have q := hq (some ⟨g, 0, none⟩)
      have hmk := make_rows Tryz.underlying25 infoV 0 (by omega) (by omega)
      rw [show ((0 : Nat) : Int) = 0 from rfl] at hmk
      clear hrow
      go_enter Tryz.func31, Tryz.ntmps31
      go_wp2
      refine wp_loop_rounds 1 ?_
      rw [rounds_succ]
      go_wp2
      go_ret
      refine ⟨_, rfl, ⟨[], rfl, ⟨⟨rfl, .inr ⟨w.heap.size, 0, _, rfl, Nat.zero_le _, heap_alloc_new w _, Nat.le_refl _, by unfold maxLen; omega, by simp [madeCells], by simp [encEs]⟩⟩, Nat.zero_le _, fun b hb => by cases hb; exact Nat.le_refl _⟩, fun e he => by cases he⟩, (Below.refl _ _).alloc (Nat.le_refl _) _⟩
  · obtain ⟨b, c, rfl, hbl, _, hc1, hc2, _⟩ := hrow.cells h0
    have hmk := make_rows Tryz.underlying25 infoV es.length (by omega) (by omega)
    have q := hq (some ⟨b, 0, none⟩)
    go_enter Tryz.func31, Tryz.ntmps31
    go_wp2
    go_loopg [4, 5, 13] es.length (fun gg _ _ i wr => ∃ (k : Nat) (ds : List El), k ≤ es.length ∧ es.length - k ≤ gg ∧ i = .int .i64 k ∧ Aside (Below w.heap.size w wr ∧ PartV wr w.heap.size es.length k ds ∧ ds.map El.v = (es.take k).map El.v ∧ ∀ e ∈ ds, Rep (fun b => w.heap.size < b) m wr e.v e.l e.f))
    case atStart =>
      refine ⟨0, [], Nat.zero_le _, by omega, rfl, (Below.refl _ _).alloc (Nat.le_refl _) _, ⟨rfl, _, heap_alloc_new w _, by simp [madeCells], by simp [encEs]⟩, rfl, fun e he => by cases he⟩
    case round =>
      obtain ⟨k, ds, hk, hgg, rfl, R⟩ := hrel
      by_cases hlt : k < es.length
      · obtain ⟨hB, hP, hd, hr⟩ := R.out
        obtain ⟨⟨xv, xl, xf⟩, hx⟩ : ∃ x, es[k]? = some x := ⟨_, List.getElem?_eq_getElem hlt⟩
        have hm : ∀ b, True → b < w.heap.size → True ∧ wr.heap[b]? = w.heap[b]? := fun b _ h => ⟨trivial, hB.block b h⟩
        obtain ⟨a0, a1, a2, a3, a4⟩ := (hrow.move hm).el hx
        have hlx : Lies n wr xv xl xf := (hle _ (List.mem_of_getElem? hx)).below hB
        simp only at a0 a1 a2 a3 a4
        have hcall := fun W (hW : Below wr.heap.size wr W) => hv _ (List.mem_of_getElem? hx) W (hB.trans (hW.mono hB.size))
        simp only at hcall
        obtain ⟨al, cl, af, cf, rfl, rfl⟩ := hlx.slices
        have zk : (k : Int) < (es.length : Int) := by omega
        clear hlx hm hv hle hrow hP hd hr hB
        go_wp2_with fail
        refine (hcall _ ((Below.refl _ _).alloc (Nat.le_refl _) _)).mono ?_
        rintro e w' ⟨l', f', rfl, hrep, hb'⟩
        obtain ⟨al', cl', af', cf', rfl, rfl⟩ := hrep.slices
        obtain ⟨hB, hP, hd, hr⟩ := R.out
        have hlt' : w.heap.size < wr.heap.size := lt_of_heap hP.row.choose_spec.1
        have hBw : Below wr.heap.size wr w' := ((Below.refl _ _).alloc (Nat.le_refl _) _).trans (hb'.mono (by simp))
        have hP' : PartV w' w.heap.size es.length k ds := hP.keep (hBw.block _ hlt')
        obtain ⟨cur, h1, h2, h3⟩ := hP'.row
        obtain ⟨o0, c0⟩ := cell_row h1 (i := k * 5) (by omega)
        obtain ⟨o1, c1⟩ := cell_row h1 (i := k * 5 + 1) (by omega)
        obtain ⟨o2, c2⟩ := cell_row h1 (i := k * 5 + 2) (by omega)
        obtain ⟨o3, c3⟩ := cell_row h1 (i := k * 5 + 3) (by omega)
        obtain ⟨o4, c4⟩ := cell_row h1 (i := k * 5 + 4) (by omega)
        have f0 := frozen_row h1
        have S := (show Aside _ from And.intro hrep hb')
        have T := (show Aside _ from And.intro hBw hP')
        clear h1 h2 h3 hP hP' hrep hb' hBw hB hd hr
        go_wp2
        go_roundg (es.length - (k + 1))
        case measure => omega
        case rel =>
          obtain ⟨hrep, hb'⟩ := S.out
          obtain ⟨hBw, hP'⟩ := T.out
          obtain ⟨hB, hP, hd, hr⟩ := R.out
          have hBB : Below w.heap.size w w' := hB.trans (hBw.mono hB.size)
          refine ⟨k + 1, ds ++ [⟨xv, _, _⟩], by omega, by omega, by go_num, ?_, hP'.step hlt xv _ _, ?_, ?_⟩
          · exact ((((hBB.setCell (Nat.le_refl _) _).setCell (Nat.le_refl _) _).setCell (Nat.le_refl _) _).setCell (Nat.le_refl _) _).setCell (Nat.le_refl _) _
          · rw [List.map_append, hd, List.take_add_one, hx]; simp
          · have hne : ∀ (b : Nat), w.heap.size < b → (((((w'.setCell ⟨w.heap.size, k * 5, none⟩ (.int .i64 xv.kind)).setCell ⟨w.heap.size, k * 5 + 1, none⟩ (.int .i64 xv.num)).setCell ⟨w.heap.size, k * 5 + 2, none⟩ (.string xv.text)).setCell ⟨w.heap.size, k * 5 + 3, none⟩ (.slice al' xv.list.length cl')).setCell ⟨w.heap.size, k * 5 + 4, none⟩ (.slice af' xv.fields.length cf')).heap[b]? = w'.heap[b]? := by
              intro b hb
              have : b ≠ w.heap.size := by omega
              rw [heap_setCell_ne _ _ _ this, heap_setCell_ne _ _ _ this, heap_setCell_ne _ _ _ this, heap_setCell_ne _ _ _ this, heap_setCell_ne _ _ _ this]
            intro e he
            rcases List.mem_append.1 he with he | he
            · exact (hr e he).move fun b hb hl => ⟨hb, (hne b hb).trans (hBw.block b hl)⟩
            · rw [List.mem_singleton.1 he]
              refine hrep.move fun b hb hl => ?_
              have : w.heap.size < b := by simp at hb; omega
              exact ⟨this, hne b this⟩
      · have zk : ¬ (k : Int) < (es.length : Int) := by omega
        clear hv hle hrow
        go_wp2
        go_ret
        obtain ⟨hB, hP, hd, hr⟩ := R.out
        have hk' : k = es.length := by omega
        subst hk'
        exact ⟨_, rfl, ⟨ds, by rw [hd, List.take_length], hP.done hn (Nat.le_refl _), fun e he => (hr e he).move fun b hb _ => ⟨by omega, rfl⟩⟩, hB⟩
end Go.Proofs.YtgcccihnlecpnaaGreatDoor

namespace Go.Proofs.YtgcccihnlecpnaaGreatDoor
open Go.RowKit

/-- what a copy's row is while it is made: so many are done. -/
structure PartF (W : World) (B n k : Nat) (ds : List Fl) : Prop where
  len : ds.length = k
  row : ∃ cur, W.heap[B]? = some (.cells cur 44 (0, 0)) ∧ cur.size = n * 6 ∧ cur.toList.take (k * 6) = encFs ds

theorem PartF.step {W : World} {B n k : Nat} {ds : List Fl} (h : PartF W B n k ds) (hk : k < n) (p : ByteArray) (v : V) (l f : Value) :
    PartF ((((((W.setCell ⟨B, k * 6, none⟩ (.string p)).setCell ⟨B, k * 6 + 1, none⟩ (.int .i64 v.kind)).setCell ⟨B, k * 6 + 2, none⟩ (.int .i64 v.num)).setCell ⟨B, k * 6 + 3, none⟩ (.string v.text)).setCell ⟨B, k * 6 + 4, none⟩ l).setCell ⟨B, k * 6 + 5, none⟩ f) B n (k + 1) (ds ++ [⟨p, v, l, f⟩]) := by
  obtain ⟨hl, cur, h1, h2, h3⟩ := h
  refine ⟨by simp [hl], _, set6 h1 (by omega) _ _ _ _ _ _, ?_, ?_⟩
  · simp; omega
  · rw [h3, encFs_append]
    have e : (encFs ds).length = k * 6 := by rw [encFs_length, hl]
    have e2 : (encFs ds ++ [Value.string p, .int .i64 v.kind, .int .i64 v.num, .string v.text, l, f]).length = (k + 1) * 6 := by rw [List.length_append, e]; simp; omega
    show List.take ((k + 1) * 6) (encFs ds ++ [Value.string p, .int .i64 v.kind, .int .i64 v.num, .string v.text, l, f] ++ cur.toList.drop (k * 6 + 6)) = _
    rw [← e2, List.take_left]
    rfl
theorem PartF.keep {W W' : World} {B n k : Nat} {ds : List Fl} (h : PartF W B n k ds) (hb : W'.heap[B]? = W.heap[B]?) : PartF W' B n k ds := by
  obtain ⟨hl, cur, h1, h2, h3⟩ := h
  exact ⟨hl, cur, hb.trans h1, h2, h3⟩
theorem PartF.done {W : World} {B n : Nat} {ds : List Fl} (h : PartF W B n n ds) (hn : n ≤ 1000000) {ok : Nat → Prop} (hB : ok B) : RowAt ok W 44 6 (.slice (some ⟨B, 0, none⟩) n n) ds.length (encFs ds) := by
  obtain ⟨hl, cur, h1, h2, h3⟩ := h
  subst hl
  exact ⟨⟨encFs_length ds, .inr ⟨B, _, cur, rfl, Nat.zero_le _, h1, Nat.le_refl _, by unfold maxLen; omega, h2, h3⟩⟩, hn, fun b hb => by cases hb; exact hB⟩

theorem PartF.cells {W : World} {B n k : Nat} {ds : List Fl} (h : PartF W B n k ds) (hk : k < n) : ∃ o0 o1 o2 o3 o4 o5, W.cell? ⟨B, k * 6, none⟩ = some o0 ∧ W.cell? ⟨B, k * 6 + 1, none⟩ = some o1 ∧ W.cell? ⟨B, k * 6 + 2, none⟩ = some o2 ∧ W.cell? ⟨B, k * 6 + 3, none⟩ = some o3 ∧ W.cell? ⟨B, k * 6 + 4, none⟩ = some o4 ∧ W.cell? ⟨B, k * 6 + 5, none⟩ = some o5 ∧ ∀ j, W.frozen? ⟨B, j, none⟩ = false := by
  obtain ⟨cur, h1, h2, h3⟩ := h.row
  obtain ⟨o0, c0⟩ := cell_row h1 (i := k * 6) (by omega)
  obtain ⟨o1, c1⟩ := cell_row h1 (i := k * 6 + 1) (by omega)
  obtain ⟨o2, c2⟩ := cell_row h1 (i := k * 6 + 2) (by omega)
  obtain ⟨o3, c3⟩ := cell_row h1 (i := k * 6 + 3) (by omega)
  obtain ⟨o4, c4⟩ := cell_row h1 (i := k * 6 + 4) (by omega)
  obtain ⟨o5, c5⟩ := cell_row h1 (i := k * 6 + 5) (by omega)
  exact ⟨o0, o1, o2, o3, o4, o5, c0, c1, c2, c3, c4, c5, frozen_row h1⟩
/-- a copy of fields: its row is the first new block, all that is in it lies behind. -/
def CopyF (m : Nat) (w w' : World) (es : List Fl) (l' : Value) : Prop :=
  ∃ es' : List Fl, es'.map Fl.pair = es.map Fl.pair ∧ RowAt (fun k => k = w.heap.size) w' 44 6 l' es'.length (encFs es') ∧ (∀ a m c, l' = .slice a m c → c = m) ∧ ∀ e ∈ es', Rep (fun k => w.heap.size < k) m w' e.v e.l e.f

set_option maxHeartbeats 2000000 in
theorem twinFields_any (n m : Nat) (es : List Fl) (l : Value) (w : World) (hrow : RowAt (fun _ => True) w 44 6 l es.length (encFs es)) (hle : ∀ e ∈ es, Lies n w e.v e.l e.f)
    (hv : ∀ e ∈ es, ∀ W, Below w.heap.size w W → Calls Tryz.prog 19 #[.agg #[.int .i64 e.v.kind, .int .i64 e.v.num, .string e.v.text, e.l, e.f]] W fun r w' => ∃ l' f', r = .returned (.agg #[.int .i64 e.v.kind, .int .i64 e.v.num, .string e.v.text, l', f']) ∧ Rep (fun k => W.heap.size ≤ k) m w' e.v l' f' ∧ Below W.heap.size W w') :
    Calls Tryz.prog 32 #[l] w fun r w' => ∃ l', r = .returned l' ∧ CopyF m w w' es l' ∧ Below w.heap.size w w' := by
  have hq : ∀ a m c W, (binOp .eql 26 (.slice a m c) (.slice none 0 0)).run Tryz.prog W = .ok (.bool a.isNone) W := fun a m c W => Lib.run_eql_slice_nil W _ _ a m c 0 0 Tryz.underlying26
  have hn := hrow.2.1
  rcases Nat.eq_zero_or_pos es.length with h0 | h0
  · obtain rfl := List.length_eq_zero_iff.1 h0
    clear hle hv
    rcases hrow.1.2 with ⟨rfl, _⟩ | ⟨g, cap, cur, rfl, _⟩
    · have q := hq none
      clear hrow
      go_enter Tryz.func32, Tryz.ntmps32
      go_wp2
      go_ret
      exact ⟨.slice none 0 0, rfl, ⟨[], rfl, RowAt.nil, fun _ _ _ h => by cases h; rfl, fun e he => by cases he⟩, Below.refl _ _⟩
    · have q := hq (some ⟨g, 0, none⟩)
      have hmk := make_rows Tryz.underlying26 infoF 0 (by omega) (by omega)
      rw [show ((0 : Nat) : Int) = 0 from rfl] at hmk
      clear hrow
      go_enter Tryz.func32, Tryz.ntmps32
      go_wp2
      refine wp_loop_rounds 1 ?_
      rw [rounds_succ]
      go_wp2
      go_ret
      refine ⟨.slice (some ⟨w.heap.size, 0, none⟩) 0 0, rfl, ⟨[], rfl, ⟨⟨rfl, .inr ⟨w.heap.size, 0, _, rfl, Nat.zero_le _, heap_alloc_new w _, Nat.le_refl _, by unfold maxLen; omega, by simp [madeCells], by simp [encFs]⟩⟩, Nat.zero_le _, fun b hb => by cases hb; rfl⟩, fun _ _ _ h => by cases h; rfl, fun e he => by cases he⟩, (Below.refl _ _).alloc (Nat.le_refl _) _⟩
  · obtain ⟨b, c, rfl, hbl, _, hc1, hc2, _⟩ := hrow.cells h0
    have hmk := make_rows Tryz.underlying26 infoF es.length (by omega) (by omega)
    have q := hq (some ⟨b, 0, none⟩)
    go_enter Tryz.func32, Tryz.ntmps32
    go_wp2
    go_loopg [4, 5, 13] es.length (fun gg _ _ i wr => ∃ (k : Nat) (ds : List Fl), k ≤ es.length ∧ es.length - k ≤ gg ∧ i = .int .i64 k ∧ Aside (Below w.heap.size w wr ∧ PartF wr w.heap.size es.length k ds ∧ ds.map Fl.pair = (es.take k).map Fl.pair ∧ ∀ e ∈ ds, Rep (fun b => w.heap.size < b) m wr e.v e.l e.f))
    case atStart =>
      refine ⟨0, [], Nat.zero_le _, by omega, rfl, (Below.refl _ _).alloc (Nat.le_refl _) _, ⟨rfl, _, heap_alloc_new w _, by simp [madeCells], by simp [encFs]⟩, rfl, fun e he => by cases he⟩
    case round =>
      obtain ⟨k, ds, hk, hgg, rfl, R⟩ := hrel
      by_cases hlt : k < es.length
      · obtain ⟨hB, hP, hd, hr⟩ := R.out
        obtain ⟨⟨xn, xv, xl, xf⟩, hx⟩ : ∃ x, es[k]? = some x := ⟨_, List.getElem?_eq_getElem hlt⟩
        have hm : ∀ b, True → b < w.heap.size → True ∧ wr.heap[b]? = w.heap[b]? := fun b _ h => ⟨trivial, hB.block b h⟩
        obtain ⟨a0, a1, a2, a3, a4, a5⟩ := (hrow.move hm).fl hx
        have hlx : Lies n wr xv xl xf := (hle _ (List.mem_of_getElem? hx)).below hB
        simp only at a0 a1 a2 a3 a4 a5
        have hcall := fun W (hW : Below wr.heap.size wr W) => hv _ (List.mem_of_getElem? hx) W (hB.trans (hW.mono hB.size))
        simp only at hcall
        obtain ⟨al, cl, af, cf, rfl, rfl⟩ := hlx.slices
        have zk : (k : Int) < (es.length : Int) := by omega
        have hlt' : w.heap.size < wr.heap.size := lt_of_heap hP.row.choose_spec.1
        have hK : ∀ w', Below wr.heap.size wr w' → PartF w' w.heap.size es.length k ds := fun w' hW => hP.keep (hW.block _ hlt')
        have hBa : ∀ o, Below wr.heap.size wr (wr.alloc o).drew := fun o => ((Below.refl _ _).alloc (Nat.le_refl _) _).drew
        clear hlx hm hv hle hrow hP hd hr hB
        go_wp2_with fail
        go_region_with (go_at_call 19; refine (hcall _ (hBa _)).mono ?_; rintro e w' ⟨l', f', rfl, hrep, hb'⟩; obtain ⟨al', cl', af', cf', rfl, rfl⟩ := hrep.slices; have k0 := hb'.cell (p := ⟨wr.heap.size, 0, none⟩) (by simp); simp at k0; have hBw := (hBa _).trans (hb'.mono (hBa _).size); have hP' := hK w' hBw; obtain ⟨o0, o1, o2, o3, o4, o5, c0, c1, c2, c3, c4, c5, f0⟩ := hP'.cells hlt; have S := (show Aside _ from And.intro hrep hb'); have T := (show Aside _ from And.intro hBw hP'); clear hrep hb' hBw hP')
        all_goals
          go_wp2
          go_roundg (es.length - (k + 1))
          case measure => omega
          case rel =>
            obtain ⟨hrep, hb'⟩ := S.out
            obtain ⟨hBw, hP'⟩ := T.out
            obtain ⟨hB, hP, hd, hr⟩ := R.out
            have hBB : Below w.heap.size w w' := hB.trans (hBw.mono hB.size)
            refine ⟨k + 1, ds ++ [⟨xn, xv, _, _⟩], by omega, by omega, by go_num, ?_, hP'.step hlt xn xv _ _, ?_, ?_⟩
            · exact (((((hBB.setCell (Nat.le_refl _) _).setCell (Nat.le_refl _) _).setCell (Nat.le_refl _) _).setCell (Nat.le_refl _) _).setCell (Nat.le_refl _) _).setCell (Nat.le_refl _) _
            · rw [List.map_append, hd, List.take_add_one, hx]; simp [Fl.pair]
            · have hne : ∀ (b : Nat), w.heap.size < b → ((((((w'.setCell ⟨w.heap.size, k * 6, none⟩ (.string xn)).setCell ⟨w.heap.size, k * 6 + 1, none⟩ (.int .i64 xv.kind)).setCell ⟨w.heap.size, k * 6 + 2, none⟩ (.int .i64 xv.num)).setCell ⟨w.heap.size, k * 6 + 3, none⟩ (.string xv.text)).setCell ⟨w.heap.size, k * 6 + 4, none⟩ (.slice al' xv.list.length cl')).setCell ⟨w.heap.size, k * 6 + 5, none⟩ (.slice af' xv.fields.length cf')).heap[b]? = w'.heap[b]? := by
                intro b hb
                have : b ≠ w.heap.size := by omega
                rw [heap_setCell_ne _ _ _ this, heap_setCell_ne _ _ _ this, heap_setCell_ne _ _ _ this, heap_setCell_ne _ _ _ this, heap_setCell_ne _ _ _ this, heap_setCell_ne _ _ _ this]
              intro e he
              rcases List.mem_append.1 he with he | he
              · exact (hr e he).move fun b hb hl => ⟨hb, (hne b hb).trans (hBw.block b hl)⟩
              · rw [List.mem_singleton.1 he]
                refine hrep.move fun b hb hl => ?_
                have : w.heap.size < b := by simp at hb; omega
                exact ⟨this, hne b this⟩
      · have zk : ¬ (k : Int) < (es.length : Int) := by omega
        clear hv hle hrow
        go_wp2
        go_ret
        obtain ⟨hB, hP, hd, hr⟩ := R.out
        have hk' : k = es.length := by omega
        subst hk'
        exact ⟨.slice (some ⟨w.heap.size, 0, none⟩) es.length es.length, rfl, ⟨ds, by rw [hd, List.take_length], hP.done hn rfl, fun _ _ _ h => by cases h; rfl, hr⟩, hB⟩
end Go.Proofs.YtgcccihnlecpnaaGreatDoor
