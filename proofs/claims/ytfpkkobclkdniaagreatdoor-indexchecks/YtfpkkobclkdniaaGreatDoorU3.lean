/-
  package twin's fields and Value by their contracts. No conditions beyond those stated.
  package twin's Value by its contract. No conditions beyond those stated.
  cmp.Compare, strings.Compare, slices.CompareFunc at values and at fields, by their contracts. No conditions beyond those stated.
  slices.CompareFunc at fields by its contract. No conditions beyond those stated.
  package value's Cmp, Same by their contracts: how two values stand to one another, so deep. No conditions beyond those stated.
  slices.IndexFunc at fields, package value's place and above by their contracts. No conditions beyond those stated.
  slices.Delete at fields by its contract. No conditions beyond those stated.
  The law's maker of values: what it makes, its tables, its numbers. No conditions beyond those stated.
-/
import Derived.Test.YtfpkkobclkdniaaGreatDoorU2
import Derived.Lib.Bytealg
import Derived.Deep.LoopGhost
import Derived.WalkLawsBesides
import Derived.Lib.Walk
import Derived.Shelf.Abstract
import Derived.Deep.RegionLaw
import Derived.Lib.AppendZeros
namespace Go.Proofs.YtfpkkobclkdniaaGreatDoor
open Go.RowKit

/-- what a copy's row is while it is made: so many are done. -/
structure PartF (W : World) (B n k : Nat) (ds : List Fl) : Prop where
  len : ds.length = k
  row : ∃ cur, W.heap[B]? = some (.cells cur 72 (0, 0)) ∧ cur.size = n * 6 ∧ cur.toList.take (k * 6) = encFs ds

theorem PartF.step {W : World} {B n k : Nat} {ds : List Fl} (h : PartF W B n k ds) (hk : k < n) (p : ByteArray) (v : V) (l f : Value) :
    PartF ((((((W.setCell ⟨B, k * 6, none⟩ (.string p)).setCell ⟨B, k * 6 + 1, none⟩ (.int .i64 v.kind)).setCell ⟨B, k * 6 + 2, none⟩ (.int .i64 v.num)).setCell ⟨B, k * 6 + 3, none⟩ (.string v.text)).setCell ⟨B, k * 6 + 4, none⟩ l).setCell ⟨B, k * 6 + 5, none⟩ f) B n (k + 1) (ds ++ [⟨p, v, l, f⟩]) := by
  obtain ⟨hl, cur, h1, h2, h3⟩ := h
  refine ⟨by simp [hl], _, set6 h1 (by omega) _ _ _ _ _ _, ?_, ?_⟩
  · simp; omega
  · rw [h3, encFs_append]
    have e : (encFs ds).length = k * 6 := by rw [encFs_length, hl]
    have e2 : (encFs ds ++ [Value.string p, .int .i64 v.kind, .int .i64 v.num, .string v.text, l, f]).length = (k + 1) * 6 := by rw [List.length_append, e]; simp; omega
    show List.take ((k + 1) * 6) (encFs ds ++ [Value.string p, .int .i64 v.kind, .int .i64 v.num, .string v.text, l, f] ++ cur.toList.drop (k * 6 + 6)) = _
    rw [← e2, List.take_left]
    rfl
theorem PartF.keep {W W' : World} {B n k : Nat} {ds : List Fl} (h : PartF W B n k ds) (hb : W'.heap[B]? = W.heap[B]?) : PartF W' B n k ds := by
  obtain ⟨hl, cur, h1, h2, h3⟩ := h
  exact ⟨hl, cur, hb.trans h1, h2, h3⟩
theorem PartF.done {W : World} {B n : Nat} {ds : List Fl} (h : PartF W B n n ds) (hn : n ≤ 1000000) {ok : Nat → Prop} (hB : ok B) : RowAt ok W 72 6 (.slice (some ⟨B, 0, none⟩) n n) ds.length (encFs ds) := by
  obtain ⟨hl, cur, h1, h2, h3⟩ := h
  subst hl
  exact ⟨⟨encFs_length ds, .inr ⟨B, _, cur, rfl, Nat.zero_le _, h1, Nat.le_refl _, by unfold maxLen; omega, h2, h3⟩⟩, hn, fun b hb => by cases hb; exact hB⟩

theorem PartF.cells {W : World} {B n k : Nat} {ds : List Fl} (h : PartF W B n k ds) (hk : k < n) : ∃ o0 o1 o2 o3 o4 o5, W.cell? ⟨B, k * 6, none⟩ = some o0 ∧ W.cell? ⟨B, k * 6 + 1, none⟩ = some o1 ∧ W.cell? ⟨B, k * 6 + 2, none⟩ = some o2 ∧ W.cell? ⟨B, k * 6 + 3, none⟩ = some o3 ∧ W.cell? ⟨B, k * 6 + 4, none⟩ = some o4 ∧ W.cell? ⟨B, k * 6 + 5, none⟩ = some o5 ∧ ∀ j, W.frozen? ⟨B, j, none⟩ = false := by
  obtain ⟨cur, h1, h2, h3⟩ := h.row
  obtain ⟨o0, c0⟩ := cell_row h1 (i := k * 6) (by omega)
  obtain ⟨o1, c1⟩ := cell_row h1 (i := k * 6 + 1) (by omega)
  obtain ⟨o2, c2⟩ := cell_row h1 (i := k * 6 + 2) (by omega)
  obtain ⟨o3, c3⟩ := cell_row h1 (i := k * 6 + 3) (by omega)
  obtain ⟨o4, c4⟩ := cell_row h1 (i := k * 6 + 4) (by omega)
  obtain ⟨o5, c5⟩ := cell_row h1 (i := k * 6 + 5) (by omega)
  exact ⟨o0, o1, o2, o3, o4, o5, c0, c1, c2, c3, c4, c5, frozen_row h1⟩
/-- a copy of fields: its row is the first new block, all that is in it lies behind. -/
def CopyF (m : Nat) (w w' : World) (es : List Fl) (l' : Value) : Prop :=
  ∃ es' : List Fl, es'.map Fl.pair = es.map Fl.pair ∧ RowAt (fun k => k = w.heap.size) w' 72 6 l' es'.length (encFs es') ∧ (∀ a m c, l' = .slice a m c → c = m) ∧ ∀ e ∈ es', Rep (fun k => w.heap.size < k) m w' e.v e.l e.f

set_option maxHeartbeats 2000000 in
theorem twinFields_any (n m : Nat) (es : List Fl) (l : Value) (w : World) (hrow : RowAt (fun _ => True) w 72 6 l es.length (encFs es)) (hle : ∀ e ∈ es, Lies n w e.v e.l e.f)
    (hv : ∀ e ∈ es, ∀ W, Below w.heap.size w W → Calls Tryz.prog 46 #[.agg #[.int .i64 e.v.kind, .int .i64 e.v.num, .string e.v.text, e.l, e.f]] W fun r w' => ∃ l' f', r = .returned (.agg #[.int .i64 e.v.kind, .int .i64 e.v.num, .string e.v.text, l', f']) ∧ Rep (fun k => W.heap.size ≤ k) m w' e.v l' f' ∧ Below W.heap.size W w') :
    Calls Tryz.prog 70 #[l] w fun r w' => ∃ l', r = .returned l' ∧ CopyF m w w' es l' ∧ Below w.heap.size w w' := by
  have hq : ∀ a m c W, (binOp .eql 38 (.slice a m c) (.slice none 0 0)).run Tryz.prog W = .ok (.bool a.isNone) W := fun a m c W => Lib.run_eql_slice_nil W _ _ a m c 0 0 Tryz.underlying38
  have hn := hrow.2.1
  rcases Nat.eq_zero_or_pos es.length with h0 | h0
  · obtain rfl := List.length_eq_zero_iff.1 h0
    clear hle hv
    rcases hrow.1.2 with ⟨rfl, _⟩ | ⟨g, cap, cur, rfl, _⟩
    · have q := hq none
      clear hrow
      go_enter Tryz.func70, Tryz.ntmps70
      go_wp2
      go_ret
      exact ⟨.slice none 0 0, rfl, ⟨[], rfl, RowAt.nil, fun _ _ _ h => by cases h; rfl, fun e he => by cases he⟩, Below.refl _ _⟩
    · have q := hq (some ⟨g, 0, none⟩)
      have hmk := make_rows Tryz.underlying38 infoF 0 (by omega) (by omega)
      rw [show ((0 : Nat) : Int) = 0 from rfl] at hmk
      clear hrow
      go_enter Tryz.func70, Tryz.ntmps70
      go_wp2
      refine wp_loop_rounds 1 ?_
      rw [rounds_succ]
      go_wp2
      go_ret
      refine ⟨.slice (some ⟨w.heap.size, 0, none⟩) 0 0, rfl, ⟨[], rfl, ⟨⟨rfl, .inr ⟨w.heap.size, 0, _, rfl, Nat.zero_le _, heap_alloc_new w _, Nat.le_refl _, by unfold maxLen; omega, by simp [madeCells], by simp [encFs]⟩⟩, Nat.zero_le _, fun b hb => by cases hb; rfl⟩, fun _ _ _ h => by cases h; rfl, fun e he => by cases he⟩, (Below.refl _ _).alloc (Nat.le_refl _) _⟩
  · obtain ⟨b, c, rfl, hbl, _, hc1, hc2, _⟩ := hrow.cells h0
    have hmk := make_rows Tryz.underlying38 infoF es.length (by omega) (by omega)
    have q := hq (some ⟨b, 0, none⟩)
    go_enter Tryz.func70, Tryz.ntmps70
    go_wp2
    go_loopg [4, 5, 13] es.length (fun gg _ _ i wr => ∃ (k : Nat) (ds : List Fl), k ≤ es.length ∧ es.length - k ≤ gg ∧ i = .int .i64 k ∧ Aside (Below w.heap.size w wr ∧ PartF wr w.heap.size es.length k ds ∧ ds.map Fl.pair = (es.take k).map Fl.pair ∧ ∀ e ∈ ds, Rep (fun b => w.heap.size < b) m wr e.v e.l e.f))
    case atStart =>
      refine ⟨0, [], Nat.zero_le _, by omega, rfl, (Below.refl _ _).alloc (Nat.le_refl _) _, ⟨rfl, _, heap_alloc_new w _, by simp [madeCells], by simp [encFs]⟩, rfl, fun e he => by cases he⟩
    case round =>
      obtain ⟨k, ds, hk, hgg, rfl, R⟩ := hrel
      by_cases hlt : k < es.length
      · obtain ⟨hB, hP, hd, hr⟩ := R.out
        obtain ⟨⟨xn, xv, xl, xf⟩, hx⟩ : ∃ x, es[k]? = some x := ⟨_, List.getElem?_eq_getElem hlt⟩
        have hm : ∀ b, True → b < w.heap.size → True ∧ wr.heap[b]? = w.heap[b]? := fun b _ h => ⟨trivial, hB.block b h⟩
        obtain ⟨a0, a1, a2, a3, a4, a5⟩ := (hrow.move hm).fl hx
        have hlx : Lies n wr xv xl xf := (hle _ (List.mem_of_getElem? hx)).below hB
        simp only at a0 a1 a2 a3 a4 a5
        have hcall := fun W (hW : Below wr.heap.size wr W) => hv _ (List.mem_of_getElem? hx) W (hB.trans (hW.mono hB.size))
        simp only at hcall
        obtain ⟨al, cl, af, cf, rfl, rfl⟩ := hlx.slices
        have zk : (k : Int) < (es.length : Int) := by omega
        have hlt' : w.heap.size < wr.heap.size := lt_of_heap hP.row.choose_spec.1
        have hK : ∀ w', Below wr.heap.size wr w' → PartF w' w.heap.size es.length k ds := fun w' hW => hP.keep (hW.block _ hlt')
        have hBa : ∀ o, Below wr.heap.size wr (wr.alloc o).drew := fun o => ((Below.refl _ _).alloc (Nat.le_refl _) _).drew
        clear hlx hm hv hle hrow hP hd hr hB
        go_wp2_with fail
        go_region_with (go_at_call 46; refine (hcall _ (hBa _)).mono ?_; rintro e w' ⟨l', f', rfl, hrep, hb'⟩; obtain ⟨al', cl', af', cf', rfl, rfl⟩ := hrep.slices; have k0 := hb'.cell (p := ⟨wr.heap.size, 0, none⟩) (by simp); simp at k0; have hBw := (hBa _).trans (hb'.mono (hBa _).size); have hP' := hK w' hBw; obtain ⟨o0, o1, o2, o3, o4, o5, c0, c1, c2, c3, c4, c5, f0⟩ := hP'.cells hlt; have S := (show Aside _ from And.intro hrep hb'); have T := (show Aside _ from And.intro hBw hP'); clear hrep hb' hBw hP')
        all_goals
          go_wp2
          go_roundg (es.length - (k + 1))
          case measure => omega
          case rel =>
            obtain ⟨hrep, hb'⟩ := S.out
            obtain ⟨hBw, hP'⟩ := T.out
            obtain ⟨hB, hP, hd, hr⟩ := R.out
            have hBB : Below w.heap.size w w' := hB.trans (hBw.mono hB.size)
            refine ⟨k + 1, ds ++ [⟨xn, xv, _, _⟩], by omega, by omega, by go_num, ?_, hP'.step hlt xn xv _ _, ?_, ?_⟩
            · exact (((((hBB.setCell (Nat.le_refl _) _).setCell (Nat.le_refl _) _).setCell (Nat.le_refl _) _).setCell (Nat.le_refl _) _).setCell (Nat.le_refl _) _).setCell (Nat.le_refl _) _
            · rw [List.map_append, hd, List.take_add_one, hx]; simp [Fl.pair]
            · have hne : ∀ (b : Nat), w.heap.size < b → ((((((w'.setCell ⟨w.heap.size, k * 6, none⟩ (.string xn)).setCell ⟨w.heap.size, k * 6 + 1, none⟩ (.int .i64 xv.kind)).setCell ⟨w.heap.size, k * 6 + 2, none⟩ (.int .i64 xv.num)).setCell ⟨w.heap.size, k * 6 + 3, none⟩ (.string xv.text)).setCell ⟨w.heap.size, k * 6 + 4, none⟩ (.slice al' xv.list.length cl')).setCell ⟨w.heap.size, k * 6 + 5, none⟩ (.slice af' xv.fields.length cf')).heap[b]? = w'.heap[b]? := by
                intro b hb
                have : b ≠ w.heap.size := by omega
                rw [heap_setCell_ne _ _ _ this, heap_setCell_ne _ _ _ this, heap_setCell_ne _ _ _ this, heap_setCell_ne _ _ _ this, heap_setCell_ne _ _ _ this, heap_setCell_ne _ _ _ this]
              intro e he
              rcases List.mem_append.1 he with he | he
              · exact (hr e he).move fun b hb hl => ⟨hb, (hne b hb).trans (hBw.block b hl)⟩
              · rw [List.mem_singleton.1 he]
                refine hrep.move fun b hb hl => ?_
                have : w.heap.size < b := by simp at hb; omega
                exact ⟨this, hne b this⟩
      · have zk : ¬ (k : Int) < (es.length : Int) := by omega
        clear hv hle hrow
        go_wp2
        go_ret
        obtain ⟨hB, hP, hd, hr⟩ := R.out
        have hk' : k = es.length := by omega
        subst hk'
        exact ⟨.slice (some ⟨w.heap.size, 0, none⟩) es.length es.length, rfl, ⟨ds, by rw [hd, List.take_length], hP.done hn rfl, fun _ _ _ h => by cases h; rfl, hr⟩, hB⟩
end Go.Proofs.YtfpkkobclkdniaaGreatDoor

namespace Go.Proofs.YtfpkkobclkdniaaGreatDoor
open Go.RowKit

theorem bcell {W w1 : World} (hb : Below W.heap.size W w1) : (∀ b o, b < W.heap.size → w1.cell? ⟨b, o, none⟩ = W.cell? ⟨b, o, none⟩) ∧ (∀ b o, b < W.heap.size → w1.frozen? ⟨b, o, none⟩ = W.frozen? ⟨b, o, none⟩) :=
  ⟨fun b o h => hb.cell (p := ⟨b, o, none⟩) h, fun b o h => hb.frozen (p := ⟨b, o, none⟩) h⟩

theorem row5 {W : World} {B t : Nat} {a0 a1 a2 a3 a4 : Value} (h : W.heap[B]? = some (.cells #[a0, a1, a2, a3, a4] t (0, 0))) :
    W.cell? ⟨B, 0, none⟩ = some a0 ∧ W.cell? ⟨B, 1, none⟩ = some a1 ∧ W.cell? ⟨B, 2, none⟩ = some a2 ∧ W.cell? ⟨B, 3, none⟩ = some a3 ∧ W.cell? ⟨B, 4, none⟩ = some a4 ∧ ∀ j, W.frozen? ⟨B, j, none⟩ = false := by
  simp [World.cell?, World.frozen?, h]
theorem row6 {W : World} {B t : Nat} {a0 a1 a2 a3 a4 a5 : Value} (h : W.heap[B]? = some (.cells #[a0, a1, a2, a3, a4, a5] t (0, 0))) :
    W.cell? ⟨B, 0, none⟩ = some a0 ∧ W.cell? ⟨B, 1, none⟩ = some a1 ∧ W.cell? ⟨B, 2, none⟩ = some a2 ∧ W.cell? ⟨B, 3, none⟩ = some a3 ∧ W.cell? ⟨B, 4, none⟩ = some a4 ∧ W.cell? ⟨B, 5, none⟩ = some a5 ∧ ∀ j, W.frozen? ⟨B, j, none⟩ = false := by
  simp [World.cell?, World.frozen?, h]
theorem heap_alloc2_old {w : World} {o1 o2 : Obj} : ((w.alloc o1).alloc o2).heap[w.heap.size]? = some o1 := by
  rw [Below.heap_alloc (w.alloc o1) o2 w.heap.size (by simp)]; exact heap_alloc_new w _
theorem heap_alloc2_new {w : World} {o1 o2 : Obj} : ((w.alloc o1).alloc o2).heap[w.heap.size + 1]? = some o2 := by
  have := heap_alloc_new (w.alloc o1) o2
  simpa using this

/-- a copy of a value: its fields' row is apart from all else. -/
def CopyV (m : Nat) (w w' : World) (v : V) (l' f' : Value) : Prop :=
  ∃ B, w.heap.size ≤ B ∧ (∃ es : List El, es.map El.v = v.list ∧ RowAt (fun k => w.heap.size ≤ k ∧ k ≠ B) w' 40 5 l' es.length (encEs es) ∧ ∀ e ∈ es, Rep (fun k => w.heap.size ≤ k ∧ k ≠ B) m w' e.v e.l e.f) ∧
    (∃ fs : List Fl, fs.map Fl.pair = v.fields ∧ RowAt (fun k => k = B) w' 72 6 f' fs.length (encFs fs) ∧ (∀ a n c, f' = .slice a n c → c = n) ∧ ∀ e ∈ fs, Rep (fun k => w.heap.size ≤ k ∧ k ≠ B) m w' e.v e.l e.f)
theorem CopyV.rep {m : Nat} {w w' : World} {v : V} {l' f' : Value} (h : CopyV m w w' v l' f') : Rep (fun k => w.heap.size ≤ k) (m + 1) w' v l' f' := by
  obtain ⟨B, hB, ⟨es, e1, e2, e3⟩, ⟨fs, f1, f2, _, f3⟩⟩ := h
  exact ⟨⟨es, e1, e2.move fun b hb _ => ⟨hb.1, rfl⟩, fun e he => (e3 e he).move fun b hb _ => ⟨hb.1, rfl⟩⟩, ⟨fs, f1, f2.move fun b hb _ => ⟨by omega, rfl⟩, fun e he => (f3 e he).move fun b hb _ => ⟨hb.1, rfl⟩⟩⟩

set_option maxHeartbeats 1000000 in
theorem twinValue_step (n m : Nat) (v : V) (l f : Value) (w : World) (xs : List El) (fs : List Fl) (ea : xs.map El.v = v.list) (ef : fs.map Fl.pair = v.fields)
    (hxs : RowAt (fun _ => True) w 40 5 l xs.length (encEs xs)) (hfs : RowAt (fun _ => True) w 72 6 f fs.length (encFs fs)) (lx : ∀ e ∈ xs, Lies n w e.v e.l e.f) (lf : ∀ e ∈ fs, Lies n w e.v e.l e.f)
    (hv : ∀ (u : V) (ul uf : Value) (W : World), Lies n W u ul uf → (∃ W0, Lies n W0 u ul uf ∧ ((∃ e ∈ xs, e.v = u) ∨ (∃ e ∈ fs, e.v = u))) → Calls Tryz.prog 46 #[.agg #[.int .i64 u.kind, .int .i64 u.num, .string u.text, ul, uf]] W fun r w' => ∃ l' f', r = .returned (.agg #[.int .i64 u.kind, .int .i64 u.num, .string u.text, l', f']) ∧ Rep (fun k => W.heap.size ≤ k) m w' u l' f' ∧ Below W.heap.size W w') :
    Calls Tryz.prog 46 #[.agg #[.int .i64 v.kind, .int .i64 v.num, .string v.text, l, f]] w fun r w' => ∃ l' f', r = .returned (.agg #[.int .i64 v.kind, .int .i64 v.num, .string v.text, l', f']) ∧ CopyV m w w' v l' f' ∧ Below w.heap.size w w' := by
  have hL : ∀ W, Below w.heap.size w W → Calls Tryz.prog 69 #[l] W fun r w' => ∃ l', r = .returned l' ∧ CopyL m W w' xs l' ∧ Below W.heap.size W w' := by
    intro W hW
    have hm : ∀ b, True → b < w.heap.size → True ∧ W.heap[b]? = w.heap[b]? := fun b _ h => ⟨trivial, hW.block b h⟩
    exact twinList_any n m xs l W (hxs.move hm) (fun e he => (lx e he).below hW) fun e he W' hW' => hv e.v e.l e.f W' ((lx e he).below (hW.trans (hW'.mono hW.size))) ⟨w, lx e he, .inl ⟨e, he, rfl⟩⟩
  have hF : ∀ W, Below w.heap.size w W → Calls Tryz.prog 70 #[f] W fun r w' => ∃ l', r = .returned l' ∧ CopyF m W w' fs l' ∧ Below W.heap.size W w' := by
    intro W hW
    have hm : ∀ b, True → b < w.heap.size → True ∧ W.heap[b]? = w.heap[b]? := fun b _ h => ⟨trivial, hW.block b h⟩
    exact twinFields_any n m fs f W (hfs.move hm) (fun e he => (lf e he).below hW) fun e he W' hW' => hv e.v e.l e.f W' ((lf e he).below (hW.trans (hW'.mono hW.size))) ⟨w, lf e he, .inr ⟨e, he, rfl⟩⟩
  obtain ⟨a1, c1, rfl⟩ := hxs.slice
  obtain ⟨a3, c3, rfl⟩ := hfs.slice
  have hB : ∀ (o1 o2 : Obj), Below w.heap.size w ((w.alloc o1).alloc o2) := fun o1 o2 => ((Below.refl _ _).alloc (Nat.le_refl _) _).alloc (by simp) _
  clear hxs hfs lx lf hv
  go_enter Tryz.func46, Tryz.ntmps46
  go_wp2_with fail
  refine (hL _ (hB _ _)).mono ?_
  rintro e w1 ⟨l', rfl, hcl, hb1⟩
  obtain ⟨es', e1, e2, e3⟩ := hcl
  obtain ⟨al', cl', rfl⟩ := e2.slice
  have r1 := (hb1.block w.heap.size (by simp; omega)).trans heap_alloc2_old
  have q1 := (hb1.block (w.heap.size + 1) (by simp)).trans heap_alloc2_new
  have hB1 : Below w.heap.size w w1 := (hB _ _).trans (hb1.mono (hB _ _).size)
  have hBs : ∀ u, Below w.heap.size w (w1.setCell ⟨w.heap.size, 3, none⟩ u) := fun u => hB1.setCell (Nat.le_refl _) u
  obtain ⟨p0, p1, p2, p3, p4, pf⟩ := row5 r1
  have S := (show Aside _ from And.intro hb1 (And.intro e2 (And.intro e3 (And.intro r1 q1))))
  clear e2 e3 hb1 r1 q1
  go_wp2_with fail
  refine (hF _ (hBs _)).mono ?_
  rintro e w2 ⟨f', rfl, hcf, hb2⟩
  obtain ⟨fs', f1, f2, f3, f4⟩ := hcf
  obtain ⟨af', cf', rfl⟩ := f2.slice
  obtain ⟨hb1, e2, e3, r1, q1⟩ := S.out
  have hz1 : w.heap.size + 1 < w1.heap.size := lt_of_heap q1
  have r2 := (hb2.block w.heap.size (by simp; omega)).trans (setCell_row r1 (i := 3) _)
  have q2 := ((hb2.block (w.heap.size + 1) (by simp; omega)).trans (heap_setCell_ne _ _ _ (by simp))).trans q1
  rw [show (#[Value.int .i64 v.kind, .int .i64 v.num, .string v.text, .slice a1 xs.length c1, .slice a3 fs.length c3].setIfInBounds 3 (.slice al' es'.length cl')) = #[Value.int .i64 v.kind, .int .i64 v.num, .string v.text, .slice al' es'.length cl', .slice a3 fs.length c3] from rfl] at r2
  obtain ⟨k0, k1, k2, k3, k4, kf⟩ := row5 r2
  obtain ⟨o0, o1, o2, o3, o4, of⟩ := row5 q2
  have T := (show Aside _ from And.intro hb2 (And.intro f2 (And.intro f3 f4)))
  clear f2 f3 f4 hb2 p0 p1 p2 p3 p4 pf r1 q1 r2 q2 hb1 e2 e3
  go_wp2
  refine bodyPost_ret (v := .agg #[.int .i64 v.kind, .int .i64 v.num, .string v.text, .slice al' es'.length cl', .slice af' fs'.length cf']) (by simp [results, Tryz.results46, go_sem, o0, o1, o2, o3, o4]) rfl ⟨_, _, rfl, ?_, ?_⟩
  · obtain ⟨hb1, e2, e3, r1, q1⟩ := S.out
    obtain ⟨hb2, f2, f3, f4⟩ := T.out
    generalize hFW : (((((w2.setCell ⟨w.heap.size, 4, none⟩ (.slice af' fs'.length cf')).setCell ⟨w.heap.size + 1, 0, none⟩ (.int .i64 v.kind)).setCell ⟨w.heap.size + 1, 1, none⟩ (.int .i64 v.num)).setCell ⟨w.heap.size + 1, 2, none⟩ (.string v.text)).setCell ⟨w.heap.size + 1, 3, none⟩ (.slice al' es'.length cl')).setCell ⟨w.heap.size + 1, 4, none⟩ (.slice af' fs'.length cf') = FW
    have hfin : ∀ b, b ≠ w.heap.size → b ≠ w.heap.size + 1 → FW.heap[b]? = w2.heap[b]? := by
      intro b h1 h2
      rw [← hFW, heap_setCell_ne _ _ _ h2, heap_setCell_ne _ _ _ h2, heap_setCell_ne _ _ _ h2, heap_setCell_ne _ _ _ h2, heap_setCell_ne _ _ _ h2, heap_setCell_ne _ _ _ h1]
    simp only [World.size_setCell, World.size_alloc] at e2 e3 f2 f4 hb2
    have hold : ∀ b, w.heap.size + 1 < b → b < w1.heap.size → FW.heap[b]? = w1.heap[b]? := by
      intro b h1 h2
      rw [hfin b (by omega) (by omega), hb2.block b h2, heap_setCell_ne _ _ _ (by simp; omega)]
    refine ⟨w1.heap.size, hB1.size, ⟨es', e1.trans ea, e2.move fun b hb hl => ⟨⟨by omega, by omega⟩, hold b (by omega) hl⟩, fun e he => (e3 e he).move fun b hb hl => ⟨⟨by omega, by omega⟩, hold b (by omega) hl⟩⟩,
      ⟨fs', f1.trans ef, f2.move fun b hb hl => ⟨hb, hfin b (by omega) (by omega)⟩, f3, fun e he => (f4 e he).move fun b hb hl => ⟨⟨by omega, by omega⟩, hfin b (by omega) (by omega)⟩⟩⟩
  · have hB2 : Below w.heap.size w w2 := (hBs _).trans (T.out.1.mono (hBs _).size)
    exact ((((((hB2.setCell (Nat.le_refl _) _).setCell (Nat.le_succ _) _).setCell (Nat.le_succ _) _).setCell (Nat.le_succ _) _).setCell (Nat.le_succ _) _).setCell (Nat.le_succ _) _)

theorem twinValue_any : ∀ (n : Nat) (v : V) (l f : Value) (w : World), Lies n w v l f →
    Calls Tryz.prog 46 #[.agg #[.int .i64 v.kind, .int .i64 v.num, .string v.text, l, f]] w fun r w' => ∃ l' f', r = .returned (.agg #[.int .i64 v.kind, .int .i64 v.num, .string v.text, l', f']) ∧ CopyV n w w' v l' f' ∧ Below w.heap.size w w'
  | 0, v, l, f, w, ⟨h1, h2, h3, h4⟩ => by
    subst h3 h4
    refine twinValue_step 0 0 v _ _ w [] [] h1.symm h2.symm RowAt.nil RowAt.nil (fun e he => by cases he) (fun e he => by cases he) ?_
    rintro u ul uf W _ ⟨_, _, ⟨e, he, _⟩ | ⟨e, he, _⟩⟩
    · cases he
    · cases he
  | n + 1, v, l, f, w, ⟨⟨xs, e1, e2, e3⟩, ⟨fs, f1, f2, f3⟩⟩ =>
    twinValue_step n (n + 1) v l f w xs fs e1 f1 e2 f2 e3 f3 fun u ul uf W hu _ => (twinValue_any n u ul uf W hu).mono fun _ _ ⟨l', f', h1, h2, h3⟩ => ⟨l', f', h1, h2.rep, h3⟩
end Go.Proofs.YtfpkkobclkdniaaGreatDoor

namespace Go.Proofs.YtfpkkobclkdniaaGreatDoor
open Go.RowKit

theorem cmpN_any (a b : Int) (w : World) : Calls Tryz.prog 64 #[.int .i64 a, .int .i64 b] w fun e w' => e = .returned (.int .i64 (cmpI a b)) ∧ w' = w := by
  unfold cmpI
  by_cases h1 : a < b
  · rw [if_pos h1]
    go_enter Tryz.func64, Tryz.ntmps64
    go_wp2
    go_ret
    exact ⟨rfl, rfl⟩
  · rw [if_neg h1]
    by_cases h2 : b < a
    · rw [if_pos h2]
      go_enter Tryz.func64, Tryz.ntmps64
      go_wp2
      go_ret
      exact ⟨rfl, rfl⟩
    · rw [if_neg h2]
      go_enter Tryz.func64, Tryz.ntmps64
      go_wp2
      go_ret
      exact ⟨rfl, rfl⟩

theorem compareBytes_eq : ∀ a b, Lib.compareBytes a b = cmpB a b
  | [], [] => rfl
  | [], _ :: _ => rfl
  | _ :: _, [] => rfl
  | x :: xs, y :: ys => by
    simp only [Lib.compareBytes, cmpB, compareBytes_eq xs ys, UInt8.lt_iff_toNat_lt]
theorem cmpT_data (a b : ByteArray) : cmpT a b = cmpB a.data.toList b.data.toList := by
  unfold cmpT
  rw [Lib.toList_data, Lib.toList_data]

theorem cmpL_drop {α : Type} (f : α → α → Int) : ∀ (k : Nat) (a b : List α), k ≤ a.length → k ≤ b.length → (∀ j x y, j < k → a[j]? = some x → b[j]? = some y → f x y = 0) → cmpL f a b = cmpL f (a.drop k) (b.drop k)
  | 0, _, _, _, _, _ => rfl
  | k + 1, [], _, h, _, _ => by simp at h
  | k + 1, _ :: _, [], _, h, _ => by simp at h
  | k + 1, x :: a, y :: b, h1, h2, h => by
    have h0 := h 0 x y (by omega) rfl rfl
    simp only [cmpL, if_pos h0, List.drop_succ_cons]
    exact cmpL_drop f k a b (by simpa using h1) (by simpa using h2) fun j u v hj hu hv => h (j + 1) u v (by omega) (by simpa using hu) (by simpa using hv)

theorem cmpL_hit {α : Type} (f : α → α → Int) (k : Nat) (a b : List α) (x y : α) (hx : a[k]? = some x) (hy : b[k]? = some y) (h : ∀ j x y, j < k → a[j]? = some x → b[j]? = some y → f x y = 0) (h0 : ¬ f x y = 0) : cmpL f a b = f x y := by
  have ha := (List.getElem?_eq_some_iff.1 hx).1
  have hb := (List.getElem?_eq_some_iff.1 hy).1
  rw [cmpL_drop f k a b (by omega) (by omega) h]
  have e1 : a.drop k = x :: a.drop (k + 1) := by rw [List.drop_eq_getElem_cons ha]; congr 1; exact (List.getElem?_eq_some_iff.1 hx).2
  have e2 : b.drop k = y :: b.drop (k + 1) := by rw [List.drop_eq_getElem_cons hb]; congr 1; exact (List.getElem?_eq_some_iff.1 hy).2
  rw [e1, e2]
  simp only [cmpL, if_neg h0]
theorem cmpL_more {α : Type} (f : α → α → Int) (k : Nat) (a b : List α) (ha : k < a.length) (hb : k = b.length) (h : ∀ j x y, j < k → a[j]? = some x → b[j]? = some y → f x y = 0) : cmpL f a b = 1 := by
  rw [cmpL_drop f k a b (by omega) (by omega) h]
  have e1 : a.drop k = a[k] :: a.drop (k + 1) := List.drop_eq_getElem_cons ha
  have e2 : b.drop k = [] := List.drop_of_length_le (by omega)
  rw [e1, e2]
  rfl
theorem cmpL_end {α : Type} (f : α → α → Int) (k : Nat) (a b : List α) (ha : k = a.length) (hb : k ≤ b.length) (h : ∀ j x y, j < k → a[j]? = some x → b[j]? = some y → f x y = 0) : cmpL f a b = if a.length < b.length then -1 else 0 := by
  rw [cmpL_drop f k a b (by omega) (by omega) h]
  have e1 : a.drop k = [] := List.drop_of_length_le (by omega)
  rw [e1]
  by_cases hl : a.length < b.length
  · have e2 : b.drop k = b[k] :: b.drop (k + 1) := List.drop_eq_getElem_cons (by omega)
    rw [e2, if_pos hl]; rfl
  · have e2 : b.drop k = [] := List.drop_of_length_le (by omega)
    rw [e2, if_neg hl]; rfl

end Go.Proofs.YtfpkkobclkdniaaGreatDoor

namespace Go.Proofs.YtfpkkobclkdniaaGreatDoor
open Go.RowKit

end Go.Proofs.YtfpkkobclkdniaaGreatDoor

namespace Go.Proofs.YtfpkkobclkdniaaGreatDoor
open Go.RowKit

/-- one level of the order. -/
def cmpStep (c : V → V → Int) (a b : V) : Int :=
  if a.kind = b.kind then
    (if a.kind = 1 ∨ a.kind = 2 then cmpI a.num b.num
     else if a.kind = 3 then cmpT a.text b.text
     else if a.kind = 4 then cmpL c a.list b.list
     else if a.kind = 5 then cmpL (cmpF c) a.fields b.fields
     else 0)
  else cmpI a.kind b.kind
theorem cmpV_step (n : Nat) (a b : V) : cmpV (n + 1) a b = cmpStep (cmpV n) a b := rfl

theorem Rep.shape {ok : Nat → Prop} {W : World} {n : Nat} {v : V} {l f : Value} (h : Rep ok n W v l f) : ∃ a1 n1 c1 a2 n2 c2, l = .slice a1 n1 c1 ∧ f = .slice a2 n2 c2 := by
  obtain ⟨a, b, c, d, e1, e2⟩ := h.slices
  exact ⟨a, _, b, c, _, d, e1, e2⟩
end Go.Proofs.YtfpkkobclkdniaaGreatDoor

namespace Go.Proofs.YtfpkkobclkdniaaGreatDoor
open Go.RowKit

/-- where the first one is that is asked for; -1: nowhere. -/
def whereI {α : Type} (p : α → Bool) : List α → Int
  | [] => -1
  | x :: xs => if p x then 0 else if whereI p xs < 0 then -1 else 1 + whereI p xs
theorem whereI_hit {α : Type} (p : α → Bool) : ∀ (k : Nat) (l : List α) (x : α), l[k]? = some x → p x = true → (∀ j y, j < k → l[j]? = some y → p y = false) → whereI p l = k
  | 0, [], _, h, _, _ => by simp at h
  | 0, y :: l, x, h, hp, _ => by simp at h; subst h; simp [whereI, hp]
  | k + 1, [], _, h, _, _ => by simp at h
  | k + 1, y :: l, x, h, hp, hn => by
    have h0 := hn 0 y (by omega) rfl
    have ih := whereI_hit p k l x (by simpa using h) hp fun j z hj hz => hn (j + 1) z (by omega) (by simpa using hz)
    simp only [whereI, h0, ih]
    rw [if_neg (by simp), if_neg (by omega)]
    omega
theorem whereI_miss {α : Type} (p : α → Bool) : ∀ (l : List α), (∀ y ∈ l, p y = false) → whereI p l = -1
  | [], _ => rfl
  | y :: l, h => by
    simp [whereI, h y (by simp), whereI_miss p l fun z hz => h z (by simp [hz])]
theorem whereI_range {α : Type} (p : α → Bool) : ∀ (l : List α), whereI p l = -1 ∨ (0 ≤ whereI p l ∧ whereI p l < l.length)
  | [] => .inl rfl
  | y :: l => by
    have ih := whereI_range p l
    simp only [whereI]
    split
    · right; simp
    · split
      · exact .inl rfl
      · right; simp; omega

set_option maxHeartbeats 2000000 in
theorem IndexFunc_any (g : Nat) (cv : Value) (eg : ∀ args w, (callFunc g args).run Tryz.prog w = .ok (.enter g args) w) (p : ByteArray × V → Bool) (n : Nat) (xs : List Fl) (sa : Value) (w : World)
    (ha : RowAt (fun _ => True) w 72 6 sa xs.length (encFs xs)) (la : ∀ e ∈ xs, Lies n w e.v e.l e.f)
    (hg : ∀ x ∈ xs, ∀ W, Below w.heap.size w W → Calls Tryz.prog g #[.agg #[.string x.name, .int .i64 x.v.kind, .int .i64 x.v.num, .string x.v.text, x.l, x.f], cv] W fun e w' => e = .returned (.bool (p x.pair)) ∧ Below W.heap.size W w') :
    Calls Tryz.prog 119 #[sa, .func (.func g) #[] #[cv]] w fun e w' => e = .returned (.int .i64 (whereI p (xs.map Fl.pair))) ∧ Below w.heap.size w w' := by
  obtain ⟨aa, ca, rfl⟩ := ha.slice
  have na := ha.2.1
  go_enter Tryz.func119, Tryz.ntmps119
  go_wp2
  go_loopg [4, 5, 8] xs.length (fun gg _ _ i wr => ∃ k : Nat, k ≤ xs.length ∧ xs.length - k ≤ gg ∧ i = .int .i64 k ∧ Aside (Below w.heap.size w wr) ∧ Aside (∀ j x, j < k → (xs.map Fl.pair)[j]? = some x → p x = false))
  case atStart => exact ⟨0, Nat.zero_le _, by omega, rfl, Below.refl _ w, fun j _ hj => absurd hj (Nat.not_lt_zero _)⟩
  case round =>
    obtain ⟨k, hk, hgg, rfl, BW, A⟩ := hrel
    by_cases hlt : k < xs.length
    · obtain ⟨b, c', e1, hbl, _, hc1, hc2, _⟩ := ha.cells (by omega)
      simp only [Value.slice.injEq, true_and] at e1
      obtain ⟨rfl, rfl⟩ := e1
      obtain ⟨⟨xn, xv, xl, xf⟩, hx⟩ : ∃ x, xs[k]? = some x := ⟨_, List.getElem?_eq_getElem hlt⟩
      have hm : ∀ b, True → b < w.heap.size → True ∧ wr.heap[b]? = w.heap[b]? := fun b _ h => ⟨trivial, BW.out.block b h⟩
      obtain ⟨a0, a1, a2, a3, a4, a5⟩ := (ha.move hm).fl hx
      have hlx : Lies n wr xv xl xf := (la _ (List.mem_of_getElem? hx)).below BW.out
      have HX : Aside ((xs.map Fl.pair)[k]? = some (xn, xv)) := by show _ = _; rw [List.getElem?_map, hx]; rfl
      simp only at a0 a1 a2 a3 a4 a5
      obtain ⟨al, cl, af, cf, rfl, rfl⟩ := hlx.slices
      have hcall := hg _ (List.mem_of_getElem? hx) wr BW.out
      simp only [Fl.pair] at hcall
      have zk : (k : Int) < (xs.length : Int) := by omega
      clear hx hm hlx la hg ha
      by_cases h0 : p (xn, xv) = true
      · rw [h0] at hcall
        go_wp2_with fail
        refine hcall.mono ?_
        rintro e w' ⟨rfl, hb'⟩
        go_wp2
        go_ret
        refine ⟨?_, BW.out.trans (hb'.mono BW.out.size)⟩
        rw [whereI_hit p k _ _ HX.out h0 A.out]
        rfl
      · have h1 : p (xn, xv) = false := by simpa using h0
        rw [h1] at hcall
        go_wp2_with fail
        refine hcall.mono ?_
        rintro e w' ⟨rfl, hb'⟩
        go_wp2
        go_roundg (xs.length - (k + 1))
        case measure => omega
        case rel =>
          refine ⟨k + 1, by omega, by omega, by go_num, BW.out.trans (hb'.mono BW.out.size), (show Aside _ from fun j x hj hx => ?_)⟩
          by_cases e : j = k
          · subst e
            rw [HX.out] at hx
            cases hx
            exact h1
          · exact A.out j x (by omega) hx
    · have hz : ¬ (k : Int) < (xs.length : Int) := by omega
      clear hg la ha
      go_wp2
      go_ret
      refine ⟨?_, BW.out⟩
      rw [whereI_miss p]
      · rfl
      · intro y hy
        obtain ⟨j, hj⟩ := List.getElem?_of_mem hy
        have := (List.getElem?_eq_some_iff.1 hj).1
        exact A.out j y (by simp at this; omega) hj

theorem beq_cmpT (a b : ByteArray) : (a.toList == b.toList) = decide (cmpT a b = 0) := by
  by_cases h : cmpT a b = 0
  · rw [cmpT_eq h]; simp [good_cmpT.refl]
  · have hne : ¬ a.toList = b.toList := fun e => h (by unfold cmpT; rw [e]; exact good_cmpT.refl b)
    rw [decide_eq_false h]; exact beq_false_of_ne hne
theorem gtr_cmpT (a b : ByteArray) : (!Op.bytesLess a.toList b.toList && !(a.toList == b.toList)) = decide (0 < cmpT a b) := by
  rw [bytesLess_eq, beq_cmpT]
  have : cmpB a.toList b.toList = cmpT a b := rfl
  rw [this]
  by_cases h1 : cmpT a b < 0
  · rw [decide_eq_true h1, decide_eq_false (show ¬ 0 < cmpT a b by omega)]; rfl
  · rw [decide_eq_false h1]
    by_cases h2 : cmpT a b = 0
    · rw [decide_eq_true h2, decide_eq_false (show ¬ 0 < cmpT a b by omega)]; rfl
    · rw [decide_eq_false h2, decide_eq_true (show 0 < cmpT a b by omega)]; rfl

def isName (name : ByteArray) (q : ByteArray × V) : Bool := decide (cmpT q.1 name = 0)
def isAbove (name : ByteArray) (q : ByteArray × V) : Bool := decide (0 < cmpT q.1 name)

/-- ahead of which field a new one is put. -/
def aboveI (name : ByteArray) (fs : List (ByteArray × V)) : Int := if whereI (isAbove name) fs < 0 then fs.length else whereI (isAbove name) fs
end Go.Proofs.YtfpkkobclkdniaaGreatDoor

namespace Go.Proofs.YtfpkkobclkdniaaGreatDoor
open Go.RowKit

theorem step_append_eq {P : Program} {ops : Array Oper} {o : Oper} {a : Act} {w : World} {K : Act → World → Prop} {Q : Exit → Act → World → Prop} {E : Prop}
    (hg : o.guard = none) (s x : Operand) (t tn : TypeId) (hop : o.op = Op.call { callee := Callee.builtin Builtin.append, args := #[s, x], argTypes := #[t, tn] })
    (vs vx : Value) (hs : a.eval s = vs) (hx : a.eval x = vx) (v' : Value) (w' : World) (hr : (Builtin.append_ #[t, tn] o.type #[vs, vx]).run P w = .ok v' w') (hK : K (a.put o.dst v') w') :
    if Region.wanted o (yielded ops a.tmps) = true then Oper.wp P o a w K Q else E := by
  have hw : Region.wanted o (yielded ops a.tmps) = true := by simp [Region.wanted, hg]
  rw [if_pos hw]
  unfold Oper.wp
  simp [execOp, hop, resolve, invoke, builtin, hs, hx, hr, Result.andThen]
  exact hK
theorem step_copy_eq {P : Program} {ops : Array Oper} {o : Oper} {a : Act} {w : World} {K : Act → World → Prop} {Q : Exit → Act → World → Prop} {E : Prop}
    (hg : o.guard = none) (s x : Operand) (t tn : TypeId) (hop : o.op = Op.call { callee := Callee.builtin Builtin.copy, args := #[s, x], argTypes := #[t, tn] })
    (vs vx : Value) (hs : a.eval s = vs) (hx : a.eval x = vx) (v' : Value) (w' : World) (hr : (Builtin.copy_ #[t, tn] o.type #[vs, vx]).run P w = .ok v' w') (hK : K (a.put o.dst v') w') :
    if Region.wanted o (yielded ops a.tmps) = true then Oper.wp P o a w K Q else E := by
  have hw : Region.wanted o (yielded ops a.tmps) = true := by simp [Region.wanted, hg]
  rw [if_pos hw]
  unfold Oper.wp
  simp [execOp, hop, resolve, invoke, builtin, hs, hx, hr, Result.andThen]
  exact hK

theorem encFs_one {fs : List Fl} (h : ∀ e ∈ fs, ∃ a1 n1 c1 a2 n2 c2, e.l = .slice a1 n1 c1 ∧ e.f = .slice a2 n2 c2) : ∀ u ∈ encFs fs, u.oneCell' = true := by
  intro u hu
  obtain ⟨e, he, hu⟩ := List.mem_flatMap.1 hu
  obtain ⟨a1, n1, c1, a2, n2, c2, h1, h2⟩ := h e he
  simp only [Fl.enc, h1, h2, List.mem_cons, List.not_mem_nil, or_false] at hu
  rcases hu with rfl | rfl | rfl | rfl | rfl | rfl <;> rfl
theorem encEs_one {es : List El} (h : ∀ e ∈ es, ∃ a1 n1 c1 a2 n2 c2, e.l = .slice a1 n1 c1 ∧ e.f = .slice a2 n2 c2) : ∀ u ∈ encEs es, u.oneCell' = true := by
  intro u hu
  obtain ⟨e, he, hu⟩ := List.mem_flatMap.1 hu
  obtain ⟨a1, n1, c1, a2, n2, c2, h1, h2⟩ := h e he
  simp only [El.enc, h1, h2, List.mem_cons, List.not_mem_nil, or_false] at hu
  rcases hu with rfl | rfl | rfl | rfl | rfl <;> rfl
theorem encFs_take : ∀ (fs : List Fl) (i : Nat), (encFs fs).take (i * 6) = encFs (fs.take i)
  | [], i => by simp [encFs]
  | f :: fs, 0 => by simp [encFs]
  | f :: fs, i + 1 => by
    have ih := encFs_take fs i
    unfold encFs at ih ⊢
    rw [List.take_succ_cons, List.flatMap_cons, List.flatMap_cons, show (i + 1) * 6 = f.enc.length + i * 6 by simp [Fl.enc]; omega, List.take_length_add_append, ih]
theorem encFs_drop : ∀ (fs : List Fl) (i : Nat), (encFs fs).drop (i * 6) = encFs (fs.drop i)
  | [], i => by simp [encFs]
  | f :: fs, 0 => by simp [encFs]
  | f :: fs, i + 1 => by
    have ih := encFs_drop fs i
    unfold encFs at ih ⊢
    rw [List.drop_succ_cons, List.flatMap_cons, show (i + 1) * 6 = f.enc.length + i * 6 by simp [Fl.enc]; omega, List.drop_length_add_append, ih]

theorem clear_rows {W : World} {B o n c : Nat} {cur : Array Value} (hg : W.heap[B]? = some (.cells cur 72 (0, 0))) (h : o + (n + 1) * 6 ≤ cur.size) :
    ∃ cs, cs.length = (n + 1) * 6 ∧ ∀ ty, (Builtin.clear_ #[38] ty #[.slice (some ⟨B, o, none⟩) (n + 1) c]).run Tryz.prog W = .ok (.tuple #[]) (W.setRow B (cur.toList.take o ++ cs ++ cur.toList.drop (o + (n + 1) * 6)).toArray) := by
  obtain ⟨i, hi, hz, hs, hby⟩ := info_parts infoF
  refine ⟨(Builtin.zeroCells (Value.agg #[.string ⟨#[]⟩, .int .i64 0, .int .i64 0, .string ⟨#[]⟩, .slice none 0 0, .slice none 0 0]).cells (n + 1)).toList, ?_, ?_⟩
  · have := size_zeroCells (Value.agg #[.string ⟨#[]⟩, .int .i64 0, .int .i64 0, .string ⟨#[]⟩, .slice none 0 0, .slice none 0 0]).cells (n + 1)
    rw [Array.length_toList, this]; rfl
  · have hl : (Builtin.zeroCells (Value.agg #[.string ⟨#[]⟩, .int .i64 0, .int .i64 0, .string ⟨#[]⟩, .slice none 0 0, .slice none 0 0]).cells (n + 1)).toList.length = (n + 1) * 6 := by
      have := size_zeroCells (Value.agg #[.string ⟨#[]⟩, .int .i64 0, .int .i64 0, .string ⟨#[]⟩, .slice none 0 0, .slice none 0 0]).cells (n + 1)
      rw [Array.length_toList, this]; rfl
    have h1 : ∀ v ∈ (Builtin.zeroCells (Value.agg #[.string ⟨#[]⟩, .int .i64 0, .int .i64 0, .string ⟨#[]⟩, .slice none 0 0, .slice none 0 0]).cells (n + 1)).toList, v.oneCell' = true := by
      intro v hv
      simp only [Builtin.zeroCells, Array.mem_toList_iff, Array.mem_map, Array.mem_range] at hv
      obtain ⟨r, _, rfl⟩ := hv
      have hr : r % 6 < 6 := Nat.mod_lt _ (by omega)
      have : ∀ q, q < 6 → (#[Value.string ⟨#[]⟩, .int .i64 0, .int .i64 0, .string ⟨#[]⟩, .slice none 0 0, .slice none 0 0][q]!).oneCell' = true := by
        intro q hq
        match q, hq with
        | 0, _ => rfl
        | 1, _ => rfl
        | 2, _ => rfl
        | 3, _ => rfl
        | 4, _ => rfl
        | 5, _ => rfl
      exact this _ hr
    have hst := run_storeCells_at Tryz.prog B o 72 _ 0 cur W hg (by rw [hl]; simpa using h) h1
    rw [hl] at hst
    simp only [Nat.add_zero] at hst
    intro ty
    simp [Builtin.clear_, run_underlying Tryz.underlying38, zeroValue, typeInfo, hi, hz, hst]

theorem setRow_grown {w : World} {B : Nat} (cs : Array Value) : w.grownBy (w.setRow B cs) (some B) :=
  ⟨rfl, rfl, rfl, by simp, fun k _ hk => setRow_other w B k _ (fun e => hk (by rw [e]))⟩

end Go.Proofs.YtfpkkobclkdniaaGreatDoor

namespace Go.Proofs.YtfpkkobclkdniaaGreatDoor
open Go.RowKit

def I64 (x : Int) : Prop := -9223372036854775808 ≤ x ∧ x ≤ 9223372036854775807
def wordAt : Nat → ByteArray
  | 0 => ⟨#[]⟩
  | 1 => ⟨#[97]⟩
  | 2 => ⟨#[98]⟩
  | 3 => ⟨#[97, 98]⟩
  | 4 => ⟨#[0]⟩
  | 5 => ⟨#[195, 169]⟩
  | 6 => ⟨#[122, 0]⟩
  | _ => ⟨#[108, 111, 110, 103, 44, 32, 97, 110, 100, 32, 108, 111, 110, 103, 101, 114]⟩
theorem wordAt_size (i : Nat) : (wordAt i).size ≤ 16 := by
  unfold wordAt
  split <;> decide
def nameAt : Nat → ByteArray
  | 0 => ⟨#[97]⟩
  | 1 => ⟨#[98]⟩
  | 2 => ⟨#[99]⟩
  | _ => ⟨#[110]⟩
theorem nameAt_size (i : Nat) : (nameAt i).size ≤ 1 := by
  unfold nameAt
  split <;> decide
/-- what a value's number and text are beside its kind. -/
def Wd (k m : Int) (t : ByteArray) : Prop := (∃ i, t = wordAt i) ∧ (k = 1 → m = 0 ∨ m = 1)
theorem Wd.size {k m : Int} {t : ByteArray} (h : Wd k m t) : t.size ≤ 16 := by
  obtain ⟨⟨i, rfl⟩, _⟩ := h
  exact wordAt_size i
theorem Wd.no (k m : Int) (h : k ≠ 1) : Wd k m ⟨#[]⟩ := ⟨⟨0, rfl⟩, fun e => absurd e h⟩
/-- a value as the law makes them, so deep. -/
def Nice : Nat → V → Prop
  | 0, v => 0 ≤ v.kind ∧ v.kind ≤ 5 ∧ I64 v.num ∧ Wd v.kind v.num v.text ∧ v.list = [] ∧ v.fields = []
  | n + 1, v => 0 ≤ v.kind ∧ v.kind ≤ 5 ∧ I64 v.num ∧ Wd v.kind v.num v.text ∧ v.list.length ≤ 3 ∧ v.fields.length ≤ 4 ∧ Rises v.fields ∧ (∀ x ∈ v.list, Nice n x) ∧ (∀ p ∈ v.fields, (∃ i, p.1 = nameAt i) ∧ Nice n p.2)
theorem Nice.plain : ∀ (n : Nat) {v : V}, 0 ≤ v.kind → v.kind ≤ 5 → I64 v.num → Wd v.kind v.num v.text → v.list = [] → v.fields = [] → Nice n v
  | 0, _, h1, h2, h3, h4, h5, h6 => ⟨h1, h2, h3, h4, h5, h6⟩
  | n + 1, _, h1, h2, h3, h4, h5, h6 => ⟨h1, h2, h3, h4, by simp [h5], by simp [h6], (by rw [h6]; trivial), fun x hx => (by rw [h5] at hx; cases hx), fun x hx => (by rw [h6] at hx; cases hx)⟩

theorem nameAt_less {i j : Nat} (h : i < j) (hj : j < 4) : cmpT (nameAt i) (nameAt j) < 0 := by
  rw [cmpT_data]
  obtain rfl | rfl | rfl : j = 1 ∨ j = 2 ∨ j = 3 := by omega
  · obtain rfl : i = 0 := by omega
    decide
  · obtain rfl | rfl : i = 0 ∨ i = 1 := by omega
    · decide
    · decide
  · obtain rfl | rfl | rfl : i = 0 ∨ i = 1 ∨ i = 2 := by omega
    · decide
    · decide
    · decide
/-- the two tables of the law. -/
structure Tabs (w : World) : Prop where
  words : ∀ i, i < 8 → w.cell? ⟨1, i, none⟩ = some (.string (wordAt i))
  names : ∀ i, i < 4 → w.cell? ⟨2, i, none⟩ = some (.string (nameAt i))
theorem Tabs.below {w w' : World} (h : Tabs w) (hb : Below w.heap.size w w') : Tabs w' :=
  ⟨fun i hi => by rw [hb.cell (lt_of_cell (h.words i hi))]; exact h.words i hi, fun i hi => by rw [hb.cell (lt_of_cell (h.names i hi))]; exact h.names i hi⟩

/-- a slice of bytes. -/
def BytesAt (W : World) (s : Value) (bs : List UInt8) : Prop :=
  ∃ (a : Option Addr) (cap : Nat), s = .slice a bs.length cap ∧ bs.length ≤ cap ∧ cap ≤ 9223372036854775807 ∧ (bs ≠ [] → ∃ b o, a = some ⟨b, o, none⟩ ∧ ∀ (j : Nat) (u : UInt8), bs[j]? = some u → W.cell? ⟨b, o + j, none⟩ = some (.int .u8 u.toNat))
theorem BytesAt.below {W W' : World} {s : Value} {bs : List UInt8} (h : BytesAt W s bs) (hb : Below W.heap.size W W') : BytesAt W' s bs := by
  obtain ⟨a, cap, h1, h2, h3, h4⟩ := h
  refine ⟨a, cap, h1, h2, h3, fun hne => ?_⟩
  obtain ⟨b, o, h5, h6⟩ := h4 hne
  exact ⟨b, o, h5, fun j u hj => by rw [hb.cell (lt_of_cell (h6 j u hj))]; exact h6 j u hj⟩

theorem rises_snoc {nm : ByteArray} {x : V} : ∀ {ps : List (ByteArray × V)}, Rises ps → (∀ p ∈ ps, cmpT p.1 nm < 0) → Rises (ps ++ [(nm, x)])
  | [], _, _ => trivial
  | [p], _, h => ⟨h p (by simp), trivial⟩
  | p :: q :: ps, hr, h => ⟨hr.1, rises_snoc hr.2 fun r hr => h r (List.mem_cons_of_mem _ hr)⟩

set_option maxHeartbeats 1000000 in
theorem one_any (q : Int) (h0 : 0 ≤ q) (h1 : q ≤ 42) (w : World) : Calls Tryz.prog 60 #[.int .u8 q] w fun e w' => ∃ m, e = .returned (.int .i64 m) ∧ I64 m ∧ w' = w := by
  by_cases e0 : q % 8 = 0
  · go_enter Tryz.func60, Tryz.ntmps60
    go_wp2
    go_ret
    exact ⟨_, rfl, ⟨by omega, by omega⟩, rfl⟩
  by_cases e1 : q % 8 = 1
  · go_enter Tryz.func60, Tryz.ntmps60
    go_wp2
    go_ret
    exact ⟨_, rfl, ⟨by omega, by omega⟩, rfl⟩
  by_cases e2 : q % 8 = 2
  · go_enter Tryz.func60, Tryz.ntmps60
    go_wp2
    go_ret
    exact ⟨_, rfl, ⟨by omega, by omega⟩, rfl⟩
  have f0 : (q % 8 == 0) = false := by simpa using e0
  have f1 : (q % 8 == 1) = false := by simpa using e1
  have f2 : (q % 8 == 2) = false := by simpa using e2
  go_enter Tryz.func60, Tryz.ntmps60
  go_wp2
  go_ret
  exact ⟨_, rfl, ⟨by omega, by omega⟩, rfl⟩
end Go.Proofs.YtfpkkobclkdniaaGreatDoor
