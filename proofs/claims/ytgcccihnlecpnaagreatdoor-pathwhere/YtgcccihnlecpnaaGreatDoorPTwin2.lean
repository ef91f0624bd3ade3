/-
  package twin's fields, whose copies are apart from one another. No conditions beyond those stated.
-/
import Derived.Test.YtgcccihnlecpnaaGreatDoorPTwin1
namespace Go.Proofs.YtgcccihnlecpnaaGreatDoor
open Go.RowKit

/-- a copy of fields: its row is the first new block, all that is in it lies behind, one behind the other. -/
def CopyFO (m : Nat) (w w' : World) (es : List Fl) (l' : Value) : Prop :=
  ∃ (es' : List Fl) (c : Nat → Nat), es'.map Fl.pair = es.map Fl.pair ∧ RowAt (fun k => k = w.heap.size) w' 44 6 l' es'.length (encFs es') ∧ (∀ i j, i ≤ j → c i ≤ c j) ∧ ∀ (i : Nat) (e : Fl), es'[i]? = some e → Own m (Btw (c i) (c (i + 1))) w' e.v e.l e.f ∧ w.heap.size < c i ∧ c (i + 1) ≤ w'.heap.size

set_option maxHeartbeats 2000000 in
theorem twinFieldsO_any (n m : Nat) (es : List Fl) (l : Value) (w : World) (hrow : RowAt (fun _ => True) w 44 6 l es.length (encFs es)) (hle : ∀ e ∈ es, Lies n w e.v e.l e.f)
    (hv : ∀ e ∈ es, ∀ W, Below w.heap.size w W → Calls Tryz.prog 19 #[.agg #[.int .i64 e.v.kind, .int .i64 e.v.num, .string e.v.text, e.l, e.f]] W fun r w' => ∃ l' f', r = .returned (.agg #[.int .i64 e.v.kind, .int .i64 e.v.num, .string e.v.text, l', f']) ∧ Own m (Btw W.heap.size w'.heap.size) w' e.v l' f' ∧ Below W.heap.size W w') :
    Calls Tryz.prog 32 #[l] w fun r w' => ∃ l', r = .returned l' ∧ CopyFO m w w' es l' ∧ Below w.heap.size w w' := by
  have hq : ∀ a m c W, (binOp .eql 26 (.slice a m c) (.slice none 0 0)).run Tryz.prog W = .ok (.bool a.isNone) W := fun a m c W => Lib.run_eql_slice_nil W _ _ a m c 0 0 Tryz.underlying26
  have hn := hrow.2.1
  rcases Nat.eq_zero_or_pos es.length with h0 | h0
  · obtain rfl := List.length_eq_zero_iff.1 h0
    clear hle hv
    rcases hrow.1.2 with ⟨rfl, _⟩ | ⟨g, cap, cur, rfl, _⟩
    · have q := hq none
      clear hrow
      go_enter Tryz.func32, Tryz.ntmps32
      go_wp2
      go_ret
      exact ⟨.slice none 0 0, rfl, ⟨[], fun _ => 0, rfl, RowAt.nil, fun _ _ _ => Nat.le_refl _, fun i e he => by simp at he⟩, Below.refl _ _⟩
    · have q := hq (some ⟨g, 0, none⟩)
      have hmk := make_rows Tryz.underlying26 infoF 0 (by omega) (by omega)
      rw [show ((0 : Nat) : Int) = 0 from rfl] at hmk
      clear hrow
      go_enter Tryz.func32, Tryz.ntmps32
      go_wp2
      refine wp_loop_rounds 1 ?_
      rw [rounds_succ]
      go_wp2
      go_ret
      refine ⟨.slice (some ⟨w.heap.size, 0, none⟩) 0 0, rfl, ⟨[], fun _ => 0, rfl, ⟨⟨rfl, .inr ⟨w.heap.size, 0, _, rfl, Nat.zero_le _, heap_alloc_new w _, Nat.le_refl _, by unfold maxLen; omega, by simp [madeCells], by simp [encFs]⟩⟩, Nat.zero_le _, fun b hb => by cases hb; rfl⟩, fun _ _ _ => Nat.le_refl _, fun i e he => by simp at he⟩, (Below.refl _ _).alloc (Nat.le_refl _) _⟩
  · obtain ⟨b, c, rfl, hbl, _, hc1, hc2, _⟩ := hrow.cells h0
    have hmk := make_rows Tryz.underlying26 infoF es.length (by omega) (by omega)
    have q := hq (some ⟨b, 0, none⟩)
    go_enter Tryz.func32, Tryz.ntmps32
    go_wp2
    go_loopg [4, 5, 13] es.length (fun gg _ _ i wr => ∃ (k : Nat) (ds : List Fl) (c : Nat → Nat), k ≤ es.length ∧ es.length - k ≤ gg ∧ i = .int .i64 k ∧ Aside (Below w.heap.size w wr ∧ PartF wr w.heap.size es.length k ds ∧ ds.map Fl.pair = (es.take k).map Fl.pair ∧ (∀ i j, i ≤ j → c i ≤ c j) ∧ (∀ i, w.heap.size < c i ∧ c i ≤ wr.heap.size) ∧ ∀ (i : Nat) (e : Fl), ds[i]? = some e → Own m (Btw (c i) (c (i + 1))) wr e.v e.l e.f))
    case atStart =>
      refine ⟨0, [], fun _ => w.heap.size + 1, Nat.zero_le _, by omega, rfl, (Below.refl _ _).alloc (Nat.le_refl _) _, ⟨rfl, _, heap_alloc_new w _, by simp [madeCells], by simp [encFs]⟩, rfl, fun _ _ _ => Nat.le_refl _, fun _ => ⟨Nat.lt_succ_self _, by simp⟩, fun i e he => by simp at he⟩
    case round =>
      obtain ⟨k, ds, c, hk, hgg, rfl, R⟩ := hrel
      by_cases hlt : k < es.length
      · obtain ⟨hB, hP, hd, hc1, hc2, hr⟩ := R.out
        obtain ⟨⟨xn, xv, xl, xf⟩, hx⟩ : ∃ x, es[k]? = some x := ⟨_, List.getElem?_eq_getElem hlt⟩
        have hm : ∀ b, True → b < w.heap.size → True ∧ wr.heap[b]? = w.heap[b]? := fun b _ h => ⟨trivial, hB.block b h⟩
        obtain ⟨a0, a1, a2, a3, a4, a5⟩ := (hrow.move hm).fl hx
        have hlx : Lies n wr xv xl xf := (hle _ (List.mem_of_getElem? hx)).below hB
        simp only at a0 a1 a2 a3 a4 a5
        have hcall := fun W (hW : Below wr.heap.size wr W) => hv _ (List.mem_of_getElem? hx) W (hB.trans (hW.mono hB.size))
        simp only at hcall
        obtain ⟨al, cl, af, cf, rfl, rfl⟩ := hlx.slices
        have zk : (k : Int) < (es.length : Int) := by omega
        have hlt' : w.heap.size < wr.heap.size := lt_of_heap hP.row.choose_spec.1
        have hK : ∀ w', Below wr.heap.size wr w' → PartF w' w.heap.size es.length k ds := fun w' hW => hP.keep (hW.block _ hlt')
        have hBa : ∀ o, Below wr.heap.size wr (wr.alloc o).drew := fun o => ((Below.refl _ _).alloc (Nat.le_refl _) _).drew
        clear hlx hm hv hle hrow hP hd hr hB hc1 hc2
        go_wp2_with fail
        go_region_with (go_at_call 19; refine (hcall _ (hBa _)).mono ?_; rintro e w' ⟨l', f', rfl, hrep, hb'⟩; obtain ⟨al', cl', af', cf', rfl, rfl⟩ := hrep.slices; have k0 := hb'.cell (p := ⟨wr.heap.size, 0, none⟩) (by simp); simp at k0; have hBw := (hBa _).trans (hb'.mono (hBa _).size); have hP' := hK w' hBw; obtain ⟨o0, o1, o2, o3, o4, o5, c0, c1, c2, c3, c4, c5, f0⟩ := hP'.cells hlt; have S := (show Aside _ from And.intro hrep hb'); have T := (show Aside _ from And.intro hBw hP'); clear hrep hb' hBw hP')
        all_goals
          go_wp2
          go_roundg (es.length - (k + 1))
          case measure => omega
          case rel =>
            obtain ⟨hrep, hb'⟩ := S.out
            obtain ⟨hBw, hP'⟩ := T.out
            obtain ⟨hB, hP, hd, hc1, hc2, hr⟩ := R.out
            have hBB : Below w.heap.size w w' := hB.trans (hBw.mono hB.size)
            have hsz : wr.heap.size ≤ w'.heap.size := hBw.size
            have hsz2 : wr.heap.size < w'.heap.size := by have := hb'.size; simp at this; omega
            have hdl : ds.length = k := hP'.len
            refine ⟨k + 1, ds ++ [⟨xn, xv, _, _⟩], cutsTo c k w'.heap.size, by omega, by omega, by go_num, ?_, hP'.step hlt xn xv _ _, ?_, cutsTo_mono hc1 (fun i => Nat.le_trans (hc2 i).2 hsz), fun i => ?_, ?_⟩
            · exact (((((hBB.setCell (Nat.le_refl _) _).setCell (Nat.le_refl _) _).setCell (Nat.le_refl _) _).setCell (Nat.le_refl _) _).setCell (Nat.le_refl _) _).setCell (Nat.le_refl _) _
            · rw [List.map_append, hd, List.take_add_one, hx]; simp [Fl.pair]
            · have := hc2 i
              simp only [World.size_setCell, cutsTo]
              split <;> omega
            · have hne : ∀ (b : Nat), w.heap.size < b → ((((((w'.setCell ⟨w.heap.size, k * 6, none⟩ (.string xn)).setCell ⟨w.heap.size, k * 6 + 1, none⟩ (.int .i64 xv.kind)).setCell ⟨w.heap.size, k * 6 + 2, none⟩ (.int .i64 xv.num)).setCell ⟨w.heap.size, k * 6 + 3, none⟩ (.string xv.text)).setCell ⟨w.heap.size, k * 6 + 4, none⟩ (.slice al' xv.list.length cl')).setCell ⟨w.heap.size, k * 6 + 5, none⟩ (.slice af' xv.fields.length cf')).heap[b]? = w'.heap[b]? := by
                intro b hb
                have : b ≠ w.heap.size := by omega
                rw [heap_setCell_ne _ _ _ this, heap_setCell_ne _ _ _ this, heap_setCell_ne _ _ _ this, heap_setCell_ne _ _ _ this, heap_setCell_ne _ _ _ this, heap_setCell_ne _ _ _ this]
              intro i e he
              rcases Nat.lt_or_ge i k with hi | hi
              · rw [List.getElem?_append_left (by omega)] at he
                have ei : cutsTo c k w'.heap.size i = c i := if_pos (by omega)
                have ei' : cutsTo c k w'.heap.size (i + 1) = c (i + 1) := if_pos (by omega)
                rw [ei, ei']
                exact (hr i e he).move (fun b hb => hb) fun b hb hl => (hne b (Nat.lt_of_lt_of_le (hc2 i).1 hb.1)).trans (hBw.block b hl)
              · rw [List.getElem?_append_right (by omega)] at he
                obtain rfl : i = k := by
                  have h0 := (List.getElem?_eq_some_iff.1 he).1
                  simp at h0; omega
                rw [hdl, Nat.sub_self] at he
                cases he
                have ei : cutsTo c i w'.heap.size i = c i := if_pos (Nat.le_refl _)
                have ei' : cutsTo c i w'.heap.size (i + 1) = w'.heap.size := if_neg (by omega)
                rw [ei, ei']
                have hci := hc2 i
                refine hrep.move (fun b hb => ⟨?_, hb.2⟩) fun b hb hl => hne b ?_
                · have := hb.1; simp at this; omega
                · have := hb.1; simp at this; omega
      · have zk : ¬ (k : Int) < (es.length : Int) := by omega
        clear hv hle hrow
        go_wp2
        go_ret
        obtain ⟨hB, hP, hd, hc1, hc2, hr⟩ := R.out
        have hk' : k = es.length := by omega
        subst hk'
        exact ⟨.slice (some ⟨w.heap.size, 0, none⟩) es.length es.length, rfl, ⟨ds, c, by rw [hd, List.take_length], hP.done hn rfl, hc1, fun i e he => ⟨hr i e he, (hc2 i).1, (hc2 (i + 1)).2⟩⟩, hB⟩
end Go.Proofs.YtgcccihnlecpnaaGreatDoor
