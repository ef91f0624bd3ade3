/-
  package twin's fields and Value by their contracts. No conditions beyond those stated.
-/
import Derived.Test.YtjihfbahcebljaaDoorVTwin1
namespace Go.Proofs.YtjihfbahcebljaaDoor
open Go.RowKit

/-- what a copy's row is while it is made: so many are done. -/
structure PartF (W : World) (B n k : Nat) (ds : List Fl) : Prop where
  len : ds.length = k
  row : ∃ cur, W.heap[B]? = some (.cells cur 75 (0, 0)) ∧ cur.size = n * 6 ∧ cur.toList.take (k * 6) = encFs ds

theorem PartF.step {W : World} {B n k : Nat} {ds : List Fl} (h : PartF W B n k ds) (hk : k < n) (p : ByteArray) (v : V) (l f : Value) :
    PartF ((((((W.setCell ⟨B, k * 6, none⟩ (.string p)).setCell ⟨B, k * 6 + 1, none⟩ (.int .i64 v.kind)).setCell ⟨B, k * 6 + 2, none⟩ (.int .i64 v.num)).setCell ⟨B, k * 6 + 3, none⟩ (.string v.text)).setCell ⟨B, k * 6 + 4, none⟩ l).setCell ⟨B, k * 6 + 5, none⟩ f) B n (k + 1) (ds ++ [⟨p, v, l, f⟩]) := by
  obtain ⟨hl, cur, h1, h2, h3⟩ := h
  refine ⟨by simp [hl], _, set6 h1 (by omega) _ _ _ _ _ _, ?_, ?_⟩
  · simp; omega
  · rw [h3, encFs_append]
    have e : (encFs ds).length = k * 6 := by rw [encFs_length, hl]
    have e2 : (encFs ds ++ [Value.string p, .int .i64 v.kind, .int .i64 v.num, .string v.text, l, f]).length = (k + 1) * 6 := by rw [List.length_append, e]; simp; omega
    show List.take ((k + 1) * 6) (encFs ds ++ [Value.string p, .int .i64 v.kind, .int .i64 v.num, .string v.text, l, f] ++ cur.toList.drop (k * 6 + 6)) = _
    rw [← e2, List.take_left]
    rfl
theorem PartF.keep {W W' : World} {B n k : Nat} {ds : List Fl} (h : PartF W B n k ds) (hb : W'.heap[B]? = W.heap[B]?) : PartF W' B n k ds := by
  obtain ⟨hl, cur, h1, h2, h3⟩ := h
  exact ⟨hl, cur, hb.trans h1, h2, h3⟩
theorem PartF.done {W : World} {B n : Nat} {ds : List Fl} (h : PartF W B n n ds) (hn : n ≤ 1000000) {ok : Nat → Prop} (hB : ok B) : RowAt ok W 75 6 (.slice (some ⟨B, 0, none⟩) n n) ds.length (encFs ds) := by
  obtain ⟨hl, cur, h1, h2, h3⟩ := h
  subst hl
  exact ⟨⟨encFs_length ds, .inr ⟨B, _, cur, rfl, Nat.zero_le _, h1, Nat.le_refl _, by unfold maxLen; omega, h2, h3⟩⟩, hn, fun b hb => by cases hb; exact hB⟩

theorem PartF.cells {W : World} {B n k : Nat} {ds : List Fl} (h : PartF W B n k ds) (hk : k < n) : ∃ o0 o1 o2 o3 o4 o5, W.cell? ⟨B, k * 6, none⟩ = some o0 ∧ W.cell? ⟨B, k * 6 + 1, none⟩ = some o1 ∧ W.cell? ⟨B, k * 6 + 2, none⟩ = some o2 ∧ W.cell? ⟨B, k * 6 + 3, none⟩ = some o3 ∧ W.cell? ⟨B, k * 6 + 4, none⟩ = some o4 ∧ W.cell? ⟨B, k * 6 + 5, none⟩ = some o5 ∧ ∀ j, W.frozen? ⟨B, j, none⟩ = false := by
  obtain ⟨cur, h1, h2, h3⟩ := h.row
  obtain ⟨o0, c0⟩ := cell_row h1 (i := k * 6) (by omega)
  obtain ⟨o1, c1⟩ := cell_row h1 (i := k * 6 + 1) (by omega)
  obtain ⟨o2, c2⟩ := cell_row h1 (i := k * 6 + 2) (by omega)
  obtain ⟨o3, c3⟩ := cell_row h1 (i := k * 6 + 3) (by omega)
  obtain ⟨o4, c4⟩ := cell_row h1 (i := k * 6 + 4) (by omega)
  obtain ⟨o5, c5⟩ := cell_row h1 (i := k * 6 + 5) (by omega)
  exact ⟨o0, o1, o2, o3, o4, o5, c0, c1, c2, c3, c4, c5, frozen_row h1⟩
/-- a copy of fields: its row is the first new block, all that is in it lies behind. -/
def CopyF (m : Nat) (w w' : World) (es : List Fl) (l' : Value) : Prop :=
  ∃ es' : List Fl, es'.map Fl.pair = es.map Fl.pair ∧ RowAt (fun k => k = w.heap.size) w' 75 6 l' es'.length (encFs es') ∧ (∀ a m c, l' = .slice a m c → c = m) ∧ ∀ e ∈ es', Rep (fun k => w.heap.size < k) m w' e.v e.l e.f

set_option maxHeartbeats 2000000 in
theorem twinFields_any (n m : Nat) (es : List Fl) (l : Value) (w : World) (hrow : RowAt (fun _ => True) w 75 6 l es.length (encFs es)) (hle : ∀ e ∈ es, Lies n w e.v e.l e.f)
    (hv : ∀ e ∈ es, ∀ W, Below w.heap.size w W → Calls Tryd.prog 21 #[.agg #[.int .i64 e.v.kind, .int .i64 e.v.num, .string e.v.text, e.l, e.f]] W fun r w' => ∃ l' f', r = .returned (.agg #[.int .i64 e.v.kind, .int .i64 e.v.num, .string e.v.text, l', f']) ∧ Rep (fun k => W.heap.size ≤ k) m w' e.v l' f' ∧ Below W.heap.size W w') :
    Calls Tryd.prog 29 #[l] w fun r w' => ∃ l', r = .returned l' ∧ CopyF m w w' es l' ∧ Below w.heap.size w w' := by
  have hq : ∀ a m c W, (binOp .eql 36 (.slice a m c) (.slice none 0 0)).run Tryd.prog W = .ok (.bool a.isNone) W := fun a m c W => Lib.run_eql_slice_nil W _ _ a m c 0 0 Tryd.underlying36
  have hn := hrow.2.1
  rcases Nat.eq_zero_or_pos es.length with h0 | h0
  · obtain rfl := List.length_eq_zero_iff.1 h0
    clear hle hv
    rcases hrow.1.2 with ⟨rfl, _⟩ | ⟨g, cap, cur, rfl, _⟩
    · have q := hq none
      clear hrow
      go_enter Tryd.func29, Tryd.ntmps29
      go_wp2
      go_ret
      exact ⟨.slice none 0 0, rfl, ⟨[], rfl, RowAt.nil, fun _ _ _ h => by cases h; rfl, fun e he => by cases he⟩, Below.refl _ _⟩
    · have q := hq (some ⟨g, 0, none⟩)
      have hmk := make_rows Tryd.underlying36 infoF 0 (by omega) (by omega)
      rw [show ((0 : Nat) : Int) = 0 from rfl] at hmk
      clear hrow
      go_enter Tryd.func29, Tryd.ntmps29
      go_wp2
      refine wp_loop_rounds 1 ?_
      rw [rounds_succ]
      go_wp2
      go_ret
      refine ⟨.slice (some ⟨w.heap.size, 0, none⟩) 0 0, rfl, ⟨[], rfl, ⟨⟨rfl, .inr ⟨w.heap.size, 0, _, rfl, Nat.zero_le _, heap_alloc_new w _, Nat.le_refl _, by unfold maxLen; omega, by simp [madeCells], by simp [encFs]⟩⟩, Nat.zero_le _, fun b hb => by cases hb; rfl⟩, fun _ _ _ h => by cases h; rfl, fun e he => by cases he⟩, (Below.refl _ _).alloc (Nat.le_refl _) _⟩
  · obtain ⟨b, c, rfl, hbl, _, hc1, hc2, _⟩ := hrow.cells h0
    have hmk := make_rows Tryd.underlying36 infoF es.length (by omega) (by omega)
    have q := hq (some ⟨b, 0, none⟩)
    go_enter Tryd.func29, Tryd.ntmps29
    go_wp2
    go_loopg [4, 5, 13] es.length (fun gg _ _ i wr => ∃ (k : Nat) (ds : List Fl), k ≤ es.length ∧ es.length - k ≤ gg ∧ i = .int .i64 k ∧ Aside (Below w.heap.size w wr ∧ PartF wr w.heap.size es.length k ds ∧ ds.map Fl.pair = (es.take k).map Fl.pair ∧ ∀ e ∈ ds, Rep (fun b => w.heap.size < b) m wr e.v e.l e.f))
    case atStart =>
      refine ⟨0, [], Nat.zero_le _, by omega, rfl, (Below.refl _ _).alloc (Nat.le_refl _) _, ⟨rfl, _, heap_alloc_new w _, by simp [madeCells], by simp [encFs]⟩, rfl, fun e he => by cases he⟩
    case round =>
      obtain ⟨k, ds, hk, hgg, rfl, R⟩ := hrel
      by_cases hlt : k < es.length
      · obtain ⟨hB, hP, hd, hr⟩ := R.out
        obtain ⟨⟨xn, xv, xl, xf⟩, hx⟩ : ∃ x, es[k]? = some x := ⟨_, List.getElem?_eq_getElem hlt⟩
        have hm : ∀ b, True → b < w.heap.size → True ∧ wr.heap[b]? = w.heap[b]? := fun b _ h => ⟨trivial, hB.block b h⟩
        obtain ⟨a0, a1, a2, a3, a4, a5⟩ := (hrow.move hm).fl hx
        have hlx : Lies n wr xv xl xf := (hle _ (List.mem_of_getElem? hx)).below hB
        simp only at a0 a1 a2 a3 a4 a5
        have hcall := fun W (hW : Below wr.heap.size wr W) => hv _ (List.mem_of_getElem? hx) W (hB.trans (hW.mono hB.size))
        simp only at hcall
        obtain ⟨al, cl, af, cf, rfl, rfl⟩ := hlx.slices
        have zk : (k : Int) < (es.length : Int) := by omega
        have hlt' : w.heap.size < wr.heap.size := lt_of_heap hP.row.choose_spec.1
        have hK : ∀ w', Below wr.heap.size wr w' → PartF w' w.heap.size es.length k ds := fun w' hW => hP.keep (hW.block _ hlt')
        have hBa : ∀ o, Below wr.heap.size wr (wr.alloc o).drew := fun o => ((Below.refl _ _).alloc (Nat.le_refl _) _).drew
        clear hlx hm hv hle hrow hP hd hr hB
        go_wp2_with fail
        go_region_with (go_at_call 21; refine (hcall _ (hBa _)).mono ?_; rintro e w' ⟨l', f', rfl, hrep, hb'⟩; obtain ⟨al', cl', af', cf', rfl, rfl⟩ := hrep.slices; have k0 := hb'.cell (p := ⟨wr.heap.size, 0, none⟩) (by simp); simp at k0; have hBw := (hBa _).trans (hb'.mono (hBa _).size); have hP' := hK w' hBw; obtain ⟨o0, o1, o2, o3, o4, o5, c0, c1, c2, c3, c4, c5, f0⟩ := hP'.cells hlt; have S := (show Aside _ from And.intro hrep hb'); have T := (show Aside _ from And.intro hBw hP'); clear hrep hb' hBw hP')
        all_goals
          go_wp2
          go_roundg (es.length - (k + 1))
          case measure => omega
          case rel =>
            obtain ⟨hrep, hb'⟩ := S.out
            obtain ⟨hBw, hP'⟩ := T.out
            obtain ⟨hB, hP, hd, hr⟩ := R.out
            have hBB : Below w.heap.size w w' := hB.trans (hBw.mono hB.size)
            refine ⟨k + 1, ds ++ [⟨xn, xv, _, _⟩], by omega, by omega, by go_num, ?_, hP'.step hlt xn xv _ _, ?_, ?_⟩
            · exact (((((hBB.setCell (Nat.le_refl _) _).setCell (Nat.le_refl _) _).setCell (Nat.le_refl _) _).setCell (Nat.le_refl _) _).setCell (Nat.le_refl _) _).setCell (Nat.le_refl _) _
            · rw [List.map_append, hd, List.take_add_one, hx]; simp [Fl.pair]
            · have hne : ∀ (b : Nat), w.heap.size < b → ((((((w'.setCell ⟨w.heap.size, k * 6, none⟩ (.string xn)).setCell ⟨w.heap.size, k * 6 + 1, none⟩ (.int .i64 xv.kind)).setCell ⟨w.heap.size, k * 6 + 2, none⟩ (.int .i64 xv.num)).setCell ⟨w.heap.size, k * 6 + 3, none⟩ (.string xv.text)).setCell ⟨w.heap.size, k * 6 + 4, none⟩ (.slice al' xv.list.length cl')).setCell ⟨w.heap.size, k * 6 + 5, none⟩ (.slice af' xv.fields.length cf')).heap[b]? = w'.heap[b]? := by
                intro b hb
                have : b ≠ w.heap.size := by omega
                rw [heap_setCell_ne _ _ _ this, heap_setCell_ne _ _ _ this, heap_setCell_ne _ _ _ this, heap_setCell_ne _ _ _ this, heap_setCell_ne _ _ _ this, heap_setCell_ne _ _ _ this]
              intro e he
              rcases List.mem_append.1 he with he | he
              · exact (hr e he).move fun b hb hl => ⟨hb, (hne b hb).trans (hBw.block b hl)⟩
              · rw [List.mem_singleton.1 he]
                refine hrep.move fun b hb hl => ?_
                have : w.heap.size < b := by simp at hb; omega
                exact ⟨this, hne b this⟩
      · have zk : ¬ (k : Int) < (es.length : Int) := by omega
        clear hv hle hrow
        go_wp2
        go_ret
        obtain ⟨hB, hP, hd, hr⟩ := R.out
        have hk' : k = es.length := by omega
        subst hk'
        exact ⟨.slice (some ⟨w.heap.size, 0, none⟩) es.length es.length, rfl, ⟨ds, by rw [hd, List.take_length], hP.done hn rfl, fun _ _ _ h => by cases h; rfl, hr⟩, hB⟩
end Go.Proofs.YtjihfbahcebljaaDoor
