/-
  package value's Set by its contract. Condition: there is room for one more field (fewer than a million).
-/
import Derived.Test.YtjihfbahcebljaaDoorVGet
namespace Go.Proofs.YtjihfbahcebljaaDoor
open Go.RowKit

/-- a row that is full, and where it lies. -/
theorem RowAt.full {W : World} {B n : Nat} {s : Value} {xs : List Value} {t : Nat} (h : RowAt (fun k => k = B) W t 6 s n xs) (hc : ∀ a m c, s = .slice a m c → c = m) (hn : 0 < n ∨ s ≠ .slice none 0 0) : s = .slice (some ⟨B, 0, none⟩) n n ∧ ∃ cur, W.heap[B]? = some (.cells cur t (0, 0)) ∧ cur.toList = xs := by
  obtain ⟨⟨h1, h2⟩, h3, h4⟩ := h
  rcases h2 with ⟨rfl, h5⟩ | ⟨g, cap, cur, rfl, _, hg, h5, h6, h7, h8⟩
  · rcases hn with hn | hn
    · omega
    · exact absurd rfl hn
  · have e1 := h4 g rfl
    have e2 := hc _ _ _ rfl
    subst e1 e2
    refine ⟨rfl, cur, hg, ?_⟩
    rw [← h8, List.take_of_length_le (by simp; omega)]
theorem encFs_set (fs : List Fl) (j : Nat) (e e' : Fl) (h : fs[j]? = some e) : encFs (fs.set j e') = encFs (fs.take j) ++ e'.enc ++ encFs (fs.drop (j + 1)) ∧ encFs fs = encFs (fs.take j) ++ e.enc ++ encFs (fs.drop (j + 1)) := by
  have hj : j < fs.length := (List.getElem?_eq_some_iff.1 h).1
  have e1 : fs.set j e' = fs.take j ++ e' :: fs.drop (j + 1) := by rw [List.set_eq_take_append_cons_drop, if_pos hj]
  have e2 : fs = fs.take j ++ e :: fs.drop (j + 1) := by
    have h3 := (List.getElem?_eq_some_iff.1 h).2
    rw [← h3, ← List.drop_eq_getElem_cons hj, List.take_append_drop]
  constructor
  · rw [e1, encFs_append, List.append_assoc]; rfl
  · have h4 : encFs fs = encFs (fs.take j ++ e :: fs.drop (j + 1)) := congrArg encFs e2
    rw [h4, encFs_append, List.append_assoc]; rfl
/-- the value of a field is written in place. -/
theorem row_set {W : World} {B j : Nat} {cur : Array Value} {fs : List Fl} {e : Fl} (hg : W.heap[B]? = some (.cells cur 75 (0, 0))) (hcur : cur.toList = encFs fs) (h : fs[j]? = some e) (v : V) (l f : Value) :
    ∃ cur', (((((W.setCell ⟨B, j * 6 + 1, none⟩ (.int .i64 v.kind)).setCell ⟨B, j * 6 + 2, none⟩ (.int .i64 v.num)).setCell ⟨B, j * 6 + 3, none⟩ (.string v.text)).setCell ⟨B, j * 6 + 4, none⟩ l).setCell ⟨B, j * 6 + 5, none⟩ f).heap[B]? = some (.cells cur' 75 (0, 0)) ∧ cur'.toList = encFs (fs.set j ⟨e.name, v, l, f⟩) := by
  have hj : j < fs.length := (List.getElem?_eq_some_iff.1 h).1
  have hsz : cur.size = fs.length * 6 := by rw [← Array.length_toList, hcur, encFs_length]
  obtain ⟨h1, h2⟩ := encFs_set fs j e ⟨e.name, v, l, f⟩ h
  have hX : (encFs (fs.take j)).length = j * 6 := by rw [encFs_length, List.length_take]; congr 1; omega
  refine ⟨_, set5 hg (i := j * 6 + 1) (by omega) _ _ _ _ _, ?_⟩
  rw [List.toList_toArray, hcur, h1]
  rw [h2]
  obtain ⟨en, ev, el, ef⟩ := e
  have a1 : List.take (j * 6 + 1) (encFs (fs.take j) ++ Fl.enc ⟨en, ev, el, ef⟩ ++ encFs (fs.drop (j + 1))) = encFs (fs.take j) ++ [.string en] := by
    have : (encFs (fs.take j) ++ [Value.string en]).length = j * 6 + 1 := by simp [hX]
    rw [← this, show encFs (fs.take j) ++ Fl.enc ⟨en, ev, el, ef⟩ ++ encFs (fs.drop (j + 1)) = (encFs (fs.take j) ++ [Value.string en]) ++ ([.int .i64 ev.kind, .int .i64 ev.num, .string ev.text, el, ef] ++ encFs (fs.drop (j + 1))) by simp [Fl.enc], List.take_left]
  have a2 : List.drop (j * 6 + 1 + 5) (encFs (fs.take j) ++ Fl.enc ⟨en, ev, el, ef⟩ ++ encFs (fs.drop (j + 1))) = encFs (fs.drop (j + 1)) := by
    have : (encFs (fs.take j) ++ Fl.enc ⟨en, ev, el, ef⟩).length = j * 6 + 1 + 5 := by rw [List.length_append, hX]; rfl
    rw [← this, List.drop_left]
  rw [a1, a2]
  simp [Fl.enc]

/-- five cells of one block, written. -/
def set5W (W : World) (B i0 i1 i2 i3 i4 : Nat) (a0 a1 a2 a3 a4 : Value) : World := ((((W.setCell ⟨B, i0, none⟩ a0).setCell ⟨B, i1, none⟩ a1).setCell ⟨B, i2, none⟩ a2).setCell ⟨B, i3, none⟩ a3).setCell ⟨B, i4, none⟩ a4
theorem set5W_ne (W : World) (B i0 i1 i2 i3 i4 : Nat) (a0 a1 a2 a3 a4 : Value) {k : Nat} (h : k ≠ B) : (set5W W B i0 i1 i2 i3 i4 a0 a1 a2 a3 a4).heap[k]? = W.heap[k]? := by
  unfold set5W
  rw [heap_setCell_ne _ _ _ h, heap_setCell_ne _ _ _ h, heap_setCell_ne _ _ _ h, heap_setCell_ne _ _ _ h, heap_setCell_ne _ _ _ h]
theorem set5W_size (W : World) (B i0 i1 i2 i3 i4 : Nat) (a0 a1 a2 a3 a4 : Value) : (set5W W B i0 i1 i2 i3 i4 a0 a1 a2 a3 a4).heap.size = W.heap.size := by simp [set5W]
theorem set5W_below {w W : World} {C B : Nat} (hb : Below C w W) (h : C ≤ B) (i0 i1 i2 i3 i4 : Nat) (a0 a1 a2 a3 a4 : Value) : Below C w (set5W W B i0 i1 i2 i3 i4 a0 a1 a2 a3 a4) :=
  ((((hb.setCell h _).setCell h _).setCell h _).setCell h _).setCell h _

end Go.Proofs.YtjihfbahcebljaaDoor
