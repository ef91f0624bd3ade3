/-
  package twin's fields and Value by their contracts. No conditions beyond those stated.
-/
import Derived.Test.YtdcaohnaiepllaaGreatDoorVTwin1
namespace Go.Proofs.YtdcaohnaiepllaaGreatDoor
open Go.RowKit

/-- what a copy's row is while it is made: so many are done. -/
structure PartF (W : World) (B n k : Nat) (ds : List Fl) : Prop where
  len : ds.length = k
  row : ∃ cur, W.heap[B]? = some (.cells cur 49 (0, 0)) ∧ cur.size = n * 6 ∧ cur.toList.take (k * 6) = encFs ds

theorem PartF.step {W : World} {B n k : Nat} {ds : List Fl} (h : PartF W B n k ds) (hk : k < n) (p : ByteArray) (v : V) (l f : Value) :
    PartF ((((((W.setCell ⟨B, k * 6, none⟩ (.string p)).setCell ⟨B, k * 6 + 1, none⟩ (.int .i64 v.kind)).setCell ⟨B, k * 6 + 2, none⟩ (.int .i64 v.num)).setCell ⟨B, k * 6 + 3, none⟩ (.string v.text)).setCell ⟨B, k * 6 + 4, none⟩ l).setCell ⟨B, k * 6 + 5, none⟩ f) B n (k + 1) (ds ++ [⟨p, v, l, f⟩]) := by
  obtain ⟨hl, cur, h1, h2, h3⟩ := h
  refine ⟨by simp [hl], _, set6 h1 (by omega) _ _ _ _ _ _, ?_, ?_⟩
  · simp; omega
  · rw [h3, encFs_append]
    have e : (encFs ds).length = k * 6 := by rw [encFs_length, hl]
    have e2 : (encFs ds ++ [Value.string p, .int .i64 v.kind, .int .i64 v.num, .string v.text, l, f]).length = (k + 1) * 6 := by rw [List.length_append, e]; simp; omega
    show List.take ((k + 1) * 6) (encFs ds ++ [Value.string p, .int .i64 v.kind, .int .i64 v.num, .string v.text, l, f] ++ cur.toList.drop (k * 6 + 6)) = _
    rw [← e2, List.take_left]
    rfl
theorem PartF.keep {W W' : World} {B n k : Nat} {ds : List Fl} (h : PartF W B n k ds) (hb : W'.heap[B]? = W.heap[B]?) : PartF W' B n k ds := by
  obtain ⟨hl, cur, h1, h2, h3⟩ := h
  exact ⟨hl, cur, hb.trans h1, h2, h3⟩
theorem PartF.done {W : World} {B n : Nat} {ds : List Fl} (h : PartF W B n n ds) (hn : n ≤ 1000000) {ok : Nat → Prop} (hB : ok B) : RowAt ok W 49 6 (.slice (some ⟨B, 0, none⟩) n n) ds.length (encFs ds) := by
  obtain ⟨hl, cur, h1, h2, h3⟩ := h
  subst hl
  exact ⟨⟨encFs_length ds, .inr ⟨B, _, cur, rfl, Nat.zero_le _, h1, Nat.le_refl _, by unfold maxLen; omega, h2, h3⟩⟩, hn, fun b hb => by cases hb; exact hB⟩

theorem PartF.cells {W : World} {B n k : Nat} {ds : List Fl} (h : PartF W B n k ds) (hk : k < n) : ∃ o0 o1 o2 o3 o4 o5, W.cell? ⟨B, k * 6, none⟩ = some o0 ∧ W.cell? ⟨B, k * 6 + 1, none⟩ = some o1 ∧ W.cell? ⟨B, k * 6 + 2, none⟩ = some o2 ∧ W.cell? ⟨B, k * 6 + 3, none⟩ = some o3 ∧ W.cell? ⟨B, k * 6 + 4, none⟩ = some o4 ∧ W.cell? ⟨B, k * 6 + 5, none⟩ = some o5 ∧ ∀ j, W.frozen? ⟨B, j, none⟩ = false := by
  obtain ⟨cur, h1, h2, h3⟩ := h.row
  obtain ⟨o0, c0⟩ := cell_row h1 (i := k * 6) (by omega)
  obtain ⟨o1, c1⟩ := cell_row h1 (i := k * 6 + 1) (by omega)
  obtain ⟨o2, c2⟩ := cell_row h1 (i := k * 6 + 2) (by omega)
  obtain ⟨o3, c3⟩ := cell_row h1 (i := k * 6 + 3) (by omega)
  obtain ⟨o4, c4⟩ := cell_row h1 (i := k * 6 + 4) (by omega)
  obtain ⟨o5, c5⟩ := cell_row h1 (i := k * 6 + 5) (by omega)
  exact ⟨o0, o1, o2, o3, o4, o5, c0, c1, c2, c3, c4, c5, frozen_row h1⟩
/-- a copy of fields: its row is the first new block, all that is in it lies behind. -/
def CopyF (m : Nat) (w w' : World) (es : List Fl) (l' : Value) : Prop :=
  ∃ es' : List Fl, es'.map Fl.pair = es.map Fl.pair ∧ RowAt (fun k => k = w.heap.size) w' 49 6 l' es'.length (encFs es') ∧ (∀ a m c, l' = .slice a m c → c = m) ∧ ∀ e ∈ es', Rep (fun k => w.heap.size < k) m w' e.v e.l e.f

end Go.Proofs.YtdcaohnaiepllaaGreatDoor
