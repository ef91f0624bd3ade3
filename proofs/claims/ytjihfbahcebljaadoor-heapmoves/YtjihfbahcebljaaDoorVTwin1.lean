/-
  Rows that are written in place; package twin's list by its contract. No conditions beyond those stated.
-/
import Derived.Test.YtjihfbahcebljaaDoorVMem
import Derived.Deep.LoopGhost
import Derived.Deep.RegionWith
import Derived.WalkLawsBesides
import Derived.WalkSpells
import Derived.Lib.LazyBuf
namespace Go.Proofs.YtjihfbahcebljaaDoor
open Go.RowKit

theorem infoV : (Tryd.prog.info? 38).map (fun i => (i.zero, i.size, i.bytes)) = some (some (.agg #[.int .i64 0, .int .i64 0, .string ⟨#[]⟩, .slice none 0 0, .slice none 0 0]), 5, 80) := by kernel_rfl
theorem infoF : (Tryd.prog.info? 75).map (fun i => (i.zero, i.size, i.bytes)) = some (some (.agg #[.string ⟨#[]⟩, .int .i64 0, .int .i64 0, .string ⟨#[]⟩, .slice none 0 0, .slice none 0 0]), 6, 96) := by kernel_rfl

theorem make_rows {t e : TypeId} {z : Value} {size bytes : Nat} (ht : Tryd.prog.underlying t = some (.slice e)) (hinfo : (Tryd.prog.info? e).map (fun i => (i.zero, i.size, i.bytes)) = some (some z, size, bytes)) (n : Nat) (hb : bytes * n ≤ 281474976710656) (h63 : n ≤ 9223372036854775807) (w : World) :
    (Instr.makeSlice t (.int .i64 (n : Int)) (.int .i64 (n : Int))).run Tryd.prog w = .ok (.slice (some ⟨w.heap.size, 0, none⟩) n n) (w.alloc (.cells (madeCells z.cells (n * size)) e)) := by
  obtain ⟨i, hi, hzz⟩ := Option.map_eq_some_iff.1 hinfo
  simp only [Prod.mk.injEq] at hzz
  obtain ⟨hz, hs, hby⟩ := hzz
  subst hs hby
  have hb' : (i.bytes : Int) * (n : Int) ≤ 281474976710656 := by
    have h : ((i.bytes * n : Nat) : Int) ≤ 281474976710656 := by omega
    rwa [Int.natCast_mul] at h
  have hr := run_make (P := Tryd.prog) w t e i z ht hi hz .i64 .i64 n n (by omega) (Int.le_refl _) hb' (by omega)
  simpa only [Int.toNat_natCast] using hr

section
variable {W : World} {B t : Nat} {fr : Nat × Nat} {cur : Array Value} {i : Nat}
theorem set5_eq (h : i + 5 ≤ cur.size) (a0 a1 a2 a3 a4 : Value) : (((((cur.setIfInBounds i a0).setIfInBounds (i + 1) a1).setIfInBounds (i + 2) a2).setIfInBounds (i + 3) a3).setIfInBounds (i + 4) a4).toList = cur.toList.take i ++ [a0, a1, a2, a3, a4] ++ cur.toList.drop (i + 5) := by
  have hl : i + 5 ≤ cur.toList.length := by simpa using h
  simp only [Array.toList_setIfInBounds]
  have s1 := list_seg_step cur.toList i a0 [a1, a2, a3, a4] (by simpa using hl)
  have s2 := list_seg_step (cur.toList.set i a0) (i + 1) a1 [a2, a3, a4] (by simp; omega)
  have s3 := list_seg_step ((cur.toList.set i a0).set (i + 1) a1) (i + 2) a2 [a3, a4] (by simp; omega)
  have s4 := list_seg_step (((cur.toList.set i a0).set (i + 1) a1).set (i + 2) a2) (i + 3) a3 [a4] (by simp; omega)
  have s5 := list_seg_step ((((cur.toList.set i a0).set (i + 1) a1).set (i + 2) a2).set (i + 3) a3) (i + 4) a4 [] (by simp; omega)
  simp only [List.length_cons, List.length_nil, Nat.add_assoc, Nat.reduceAdd, List.append_nil, List.take_append_drop] at s1 s2 s3 s4 s5
  rw [s5, s4, s3, s2, s1]
theorem set6_eq (h : i + 6 ≤ cur.size) (a0 a1 a2 a3 a4 a5 : Value) : ((((((cur.setIfInBounds i a0).setIfInBounds (i + 1) a1).setIfInBounds (i + 2) a2).setIfInBounds (i + 3) a3).setIfInBounds (i + 4) a4).setIfInBounds (i + 5) a5).toList = cur.toList.take i ++ [a0, a1, a2, a3, a4, a5] ++ cur.toList.drop (i + 6) := by
  have hl : i + 6 ≤ cur.toList.length := by simpa using h
  simp only [Array.toList_setIfInBounds]
  have s1 := list_seg_step cur.toList i a0 [a1, a2, a3, a4, a5] (by simpa using hl)
  have s2 := list_seg_step (cur.toList.set i a0) (i + 1) a1 [a2, a3, a4, a5] (by simp; omega)
  have s3 := list_seg_step ((cur.toList.set i a0).set (i + 1) a1) (i + 2) a2 [a3, a4, a5] (by simp; omega)
  have s4 := list_seg_step (((cur.toList.set i a0).set (i + 1) a1).set (i + 2) a2) (i + 3) a3 [a4, a5] (by simp; omega)
  have s5 := list_seg_step ((((cur.toList.set i a0).set (i + 1) a1).set (i + 2) a2).set (i + 3) a3) (i + 4) a4 [a5] (by simp; omega)
  have s6 := list_seg_step (((((cur.toList.set i a0).set (i + 1) a1).set (i + 2) a2).set (i + 3) a3).set (i + 4) a4) (i + 5) a5 [] (by simp; omega)
  simp only [List.length_cons, List.length_nil, Nat.add_assoc, Nat.reduceAdd, List.append_nil, List.take_append_drop] at s1 s2 s3 s4 s5 s6
  rw [s6, s5, s4, s3, s2, s1]
theorem setCell_row (hg : W.heap[B]? = some (.cells cur t fr)) (v : Value) : (W.setCell ⟨B, i, none⟩ v).heap[B]? = some (.cells (cur.setIfInBounds i v) t fr) := by
  rw [setCell_eq_setRow W B i cur t fr v hg]
  exact setRow_heap W B cur _ t fr hg
/-- five cells of a row, written one behind the other. -/
theorem set5 (hg : W.heap[B]? = some (.cells cur t fr)) (h : i + 5 ≤ cur.size) (a0 a1 a2 a3 a4 : Value) :
    (((((W.setCell ⟨B, i, none⟩ a0).setCell ⟨B, i + 1, none⟩ a1).setCell ⟨B, i + 2, none⟩ a2).setCell ⟨B, i + 3, none⟩ a3).setCell ⟨B, i + 4, none⟩ a4).heap[B]? = some (.cells (cur.toList.take i ++ [a0, a1, a2, a3, a4] ++ cur.toList.drop (i + 5)).toArray t fr) := by
  rw [setCell_row (setCell_row (setCell_row (setCell_row (setCell_row hg a0) a1) a2) a3) a4, ← set5_eq h]
theorem set6 (hg : W.heap[B]? = some (.cells cur t fr)) (h : i + 6 ≤ cur.size) (a0 a1 a2 a3 a4 a5 : Value) :
    ((((((W.setCell ⟨B, i, none⟩ a0).setCell ⟨B, i + 1, none⟩ a1).setCell ⟨B, i + 2, none⟩ a2).setCell ⟨B, i + 3, none⟩ a3).setCell ⟨B, i + 4, none⟩ a4).setCell ⟨B, i + 5, none⟩ a5).heap[B]? = some (.cells (cur.toList.take i ++ [a0, a1, a2, a3, a4, a5] ++ cur.toList.drop (i + 6)).toArray t fr) := by
  rw [setCell_row (setCell_row (setCell_row (setCell_row (setCell_row (setCell_row hg a0) a1) a2) a3) a4) a5, ← set6_eq h]
theorem cell_row (hg : W.heap[B]? = some (.cells cur t fr)) (h : i < cur.size) : ∃ v, W.cell? ⟨B, i, none⟩ = some v := ⟨cur[i], by simp [World.cell?, hg, h]⟩
theorem frozen_row (hg : W.heap[B]? = some (.cells cur t (0, 0))) (j : Nat) : W.frozen? ⟨B, j, none⟩ = false := by simp [World.frozen?, hg]
end

theorem heap_setCell_ne (W : World) (a : Addr) (v : Value) {k : Nat} (h : k ≠ a.block) : (W.setCell a v).heap[k]? = W.heap[k]? := Below.heap_setCell W a v k h

theorem encEs_append (xs ys : List El) : encEs (xs ++ ys) = encEs xs ++ encEs ys := List.flatMap_append
theorem encFs_append (xs ys : List Fl) : encFs (xs ++ ys) = encFs xs ++ encFs ys := List.flatMap_append

/-- what a copy's row is while it is made: so many are done. -/
structure PartV (W : World) (B n k : Nat) (ds : List El) : Prop where
  len : ds.length = k
  row : ∃ cur, W.heap[B]? = some (.cells cur 38 (0, 0)) ∧ cur.size = n * 5 ∧ cur.toList.take (k * 5) = encEs ds

theorem PartV.step {W : World} {B n k : Nat} {ds : List El} (h : PartV W B n k ds) (hk : k < n) (v : V) (l f : Value) :
    PartV (((((W.setCell ⟨B, k * 5, none⟩ (.int .i64 v.kind)).setCell ⟨B, k * 5 + 1, none⟩ (.int .i64 v.num)).setCell ⟨B, k * 5 + 2, none⟩ (.string v.text)).setCell ⟨B, k * 5 + 3, none⟩ l).setCell ⟨B, k * 5 + 4, none⟩ f) B n (k + 1) (ds ++ [⟨v, l, f⟩]) := by
  obtain ⟨hl, cur, h1, h2, h3⟩ := h
  refine ⟨by simp [hl], _, set5 h1 (by omega) _ _ _ _ _, ?_, ?_⟩
  · simp; omega
  · rw [h3, encEs_append]
    have e : (encEs ds).length = k * 5 := by rw [encEs_length, hl]
    have e2 : (encEs ds ++ [Value.int .i64 v.kind, .int .i64 v.num, .string v.text, l, f]).length = (k + 1) * 5 := by rw [List.length_append, e]; simp; omega
    show List.take ((k + 1) * 5) (encEs ds ++ [Value.int .i64 v.kind, .int .i64 v.num, .string v.text, l, f] ++ cur.toList.drop (k * 5 + 5)) = _
    rw [← e2, List.take_left]
    rfl
theorem PartV.keep {W W' : World} {B n k : Nat} {ds : List El} (h : PartV W B n k ds) (hb : W'.heap[B]? = W.heap[B]?) : PartV W' B n k ds := by
  obtain ⟨hl, cur, h1, h2, h3⟩ := h
  exact ⟨hl, cur, hb.trans h1, h2, h3⟩
theorem PartV.done {W : World} {B n : Nat} {ds : List El} (h : PartV W B n n ds) (hn : n ≤ 1000000) {ok : Nat → Prop} (hB : ok B) : RowAt ok W 38 5 (.slice (some ⟨B, 0, none⟩) n n) ds.length (encEs ds) := by
  obtain ⟨hl, cur, h1, h2, h3⟩ := h
  subst hl
  exact ⟨⟨encEs_length ds, .inr ⟨B, _, cur, rfl, Nat.zero_le _, h1, Nat.le_refl _, by unfold maxLen; omega, h2, h3⟩⟩, hn, fun b hb => by cases hb; exact hB⟩

/-- a copy of a list, in memory of its own. -/
def CopyL (m : Nat) (w w' : World) (es : List El) (l' : Value) : Prop :=
  ∃ es' : List El, es'.map El.v = es.map El.v ∧ RowAt (fun k => w.heap.size ≤ k) w' 38 5 l' es'.length (encEs es') ∧ ∀ e ∈ es', Rep (fun k => w.heap.size ≤ k) m w' e.v e.l e.f

set_option maxHeartbeats 2000000 in
theorem twinList_any (n m : Nat) (es : List El) (l : Value) (w : World) (hrow : RowAt (fun _ => True) w 38 5 l es.length (encEs es)) (hle : ∀ e ∈ es, Lies n w e.v e.l e.f)
    (hv : ∀ e ∈ es, ∀ W, Below w.heap.size w W → Calls Tryd.prog 21 #[.agg #[.int .i64 e.v.kind, .int .i64 e.v.num, .string e.v.text, e.l, e.f]] W fun r w' => ∃ l' f', r = .returned (.agg #[.int .i64 e.v.kind, .int .i64 e.v.num, .string e.v.text, l', f']) ∧ Rep (fun k => W.heap.size ≤ k) m w' e.v l' f' ∧ Below W.heap.size W w') :
    Calls Tryd.prog 28 #[l] w fun r w' => ∃ l', r = .returned l' ∧ CopyL m w w' es l' ∧ Below w.heap.size w w' := by
  have hq : ∀ a m c W, (binOp .eql 35 (.slice a m c) (.slice none 0 0)).run Tryd.prog W = .ok (.bool a.isNone) W := fun a m c W => Lib.run_eql_slice_nil W _ _ a m c 0 0 Tryd.underlying35
  have hn := hrow.2.1
  rcases Nat.eq_zero_or_pos es.length with h0 | h0
  · obtain rfl := List.length_eq_zero_iff.1 h0
    clear hle hv
    rcases hrow.1.2 with ⟨rfl, _⟩ | ⟨g, cap, cur, rfl, _⟩
    · have q := hq none
      clear hrow
      go_enter Tryd.func28, Tryd.ntmps28
      go_wp2
      go_ret
      exact ⟨_, rfl, ⟨[], rfl, RowAt.nil, fun e he => by cases he⟩, Below.refl _ _⟩
    · have q := hq (some ⟨g, 0, none⟩)
      have hmk := make_rows Tryd.underlying35 infoV 0 (by omega) (by omega)
      rw [show ((0 : Nat) : Int) = 0 from rfl] at hmk
      clear hrow
      go_enter Tryd.func28, Tryd.ntmps28
      go_wp2
      refine wp_loop_rounds 1 ?_
      rw [rounds_succ]
      go_wp2
      go_ret
      refine ⟨_, rfl, ⟨[], rfl, ⟨⟨rfl, .inr ⟨w.heap.size, 0, _, rfl, Nat.zero_le _, heap_alloc_new w _, Nat.le_refl _, by unfold maxLen; omega, by simp [madeCells], by simp [encEs]⟩⟩, Nat.zero_le _, fun b hb => by cases hb; exact Nat.le_refl _⟩, fun e he => by cases he⟩, (Below.refl _ _).alloc (Nat.le_refl _) _⟩
  · obtain ⟨b, c, rfl, hbl, _, hc1, hc2, _⟩ := hrow.cells h0
    have hmk := make_rows Tryd.underlying35 infoV es.length (by omega) (by omega)
    have q := hq (some ⟨b, 0, none⟩)
    go_enter Tryd.func28, Tryd.ntmps28
    go_wp2
    go_loopg [4, 5, 13] es.length (fun gg _ _ i wr => ∃ (k : Nat) (ds : List El), k ≤ es.length ∧ es.length - k ≤ gg ∧ i = .int .i64 k ∧ Aside (Below w.heap.size w wr ∧ PartV wr w.heap.size es.length k ds ∧ ds.map El.v = (es.take k).map El.v ∧ ∀ e ∈ ds, Rep (fun b => w.heap.size < b) m wr e.v e.l e.f))
    case atStart =>
      refine ⟨0, [], Nat.zero_le _, by omega, rfl, (Below.refl _ _).alloc (Nat.le_refl _) _, ⟨rfl, _, heap_alloc_new w _, by simp [madeCells], by simp [encEs]⟩, rfl, fun e he => by cases he⟩
    case round =>
      obtain ⟨k, ds, hk, hgg, rfl, R⟩ := hrel
      by_cases hlt : k < es.length
      · obtain ⟨hB, hP, hd, hr⟩ := R.out
        obtain ⟨⟨xv, xl, xf⟩, hx⟩ : ∃ x, es[k]? = some x := ⟨_, List.getElem?_eq_getElem hlt⟩
        have hm : ∀ b, True → b < w.heap.size → True ∧ wr.heap[b]? = w.heap[b]? := fun b _ h => ⟨trivial, hB.block b h⟩
        obtain ⟨a0, a1, a2, a3, a4⟩ := (hrow.move hm).el hx
        have hlx : Lies n wr xv xl xf := (hle _ (List.mem_of_getElem? hx)).below hB
        simp only at a0 a1 a2 a3 a4
        have hcall := fun W (hW : Below wr.heap.size wr W) => hv _ (List.mem_of_getElem? hx) W (hB.trans (hW.mono hB.size))
        simp only at hcall
        obtain ⟨al, cl, af, cf, rfl, rfl⟩ := hlx.slices
        have zk : (k : Int) < (es.length : Int) := by omega
        clear hlx hm hv hle hrow hP hd hr hB
        go_wp2_with fail
        refine (hcall _ ((Below.refl _ _).alloc (Nat.le_refl _) _)).mono ?_
        rintro e w' ⟨l', f', rfl, hrep, hb'⟩
        obtain ⟨al', cl', af', cf', rfl, rfl⟩ := hrep.slices
        obtain ⟨hB, hP, hd, hr⟩ := R.out
        have hlt' : w.heap.size < wr.heap.size := lt_of_heap hP.row.choose_spec.1
        have hBw : Below wr.heap.size wr w' := ((Below.refl _ _).alloc (Nat.le_refl _) _).trans (hb'.mono (by simp))
        have hP' : PartV w' w.heap.size es.length k ds := hP.keep (hBw.block _ hlt')
        obtain ⟨cur, h1, h2, h3⟩ := hP'.row
        obtain ⟨o0, c0⟩ := cell_row h1 (i := k * 5) (by omega)
        obtain ⟨o1, c1⟩ := cell_row h1 (i := k * 5 + 1) (by omega)
        obtain ⟨o2, c2⟩ := cell_row h1 (i := k * 5 + 2) (by omega)
        obtain ⟨o3, c3⟩ := cell_row h1 (i := k * 5 + 3) (by omega)
        obtain ⟨o4, c4⟩ := cell_row h1 (i := k * 5 + 4) (by omega)
        have f0 := frozen_row h1
        have S := (show Aside _ from And.intro hrep hb')
        have T := (show Aside _ from And.intro hBw hP')
        clear h1 h2 h3 hP hP' hrep hb' hBw hB hd hr
        go_wp2
        go_roundg (es.length - (k + 1))
        case measure => omega
        case rel =>
          obtain ⟨hrep, hb'⟩ := S.out
          obtain ⟨hBw, hP'⟩ := T.out
          obtain ⟨hB, hP, hd, hr⟩ := R.out
          have hBB : Below w.heap.size w w' := hB.trans (hBw.mono hB.size)
          refine ⟨k + 1, ds ++ [⟨xv, _, _⟩], by omega, by omega, by go_num, ?_, hP'.step hlt xv _ _, ?_, ?_⟩
          · exact ((((hBB.setCell (Nat.le_refl _) _).setCell (Nat.le_refl _) _).setCell (Nat.le_refl _) _).setCell (Nat.le_refl _) _).setCell (Nat.le_refl _) _
          · rw [List.map_append, hd, List.take_add_one, hx]; simp
          · have hne : ∀ (b : Nat), w.heap.size < b → (((((w'.setCell ⟨w.heap.size, k * 5, none⟩ (.int .i64 xv.kind)).setCell ⟨w.heap.size, k * 5 + 1, none⟩ (.int .i64 xv.num)).setCell ⟨w.heap.size, k * 5 + 2, none⟩ (.string xv.text)).setCell ⟨w.heap.size, k * 5 + 3, none⟩ (.slice al' xv.list.length cl')).setCell ⟨w.heap.size, k * 5 + 4, none⟩ (.slice af' xv.fields.length cf')).heap[b]? = w'.heap[b]? := by
              intro b hb
              have : b ≠ w.heap.size := by omega
              rw [heap_setCell_ne _ _ _ this, heap_setCell_ne _ _ _ this, heap_setCell_ne _ _ _ this, heap_setCell_ne _ _ _ this, heap_setCell_ne _ _ _ this]
            intro e he
            rcases List.mem_append.1 he with he | he
            · exact (hr e he).move fun b hb hl => ⟨hb, (hne b hb).trans (hBw.block b hl)⟩
            · rw [List.mem_singleton.1 he]
              refine hrep.move fun b hb hl => ?_
              have : w.heap.size < b := by simp at hb; omega
              exact ⟨this, hne b this⟩
      · have zk : ¬ (k : Int) < (es.length : Int) := by omega
        clear hv hle hrow
        go_wp2
        go_ret
        obtain ⟨hB, hP, hd, hr⟩ := R.out
        have hk' : k = es.length := by omega
        subst hk'
        exact ⟨_, rfl, ⟨ds, by rw [hd, List.take_length], hP.done hn (Nat.le_refl _), fun e he => (hr e he).move fun b hb _ => ⟨by omega, rfl⟩⟩, hB⟩
end Go.Proofs.YtjihfbahcebljaaDoor
