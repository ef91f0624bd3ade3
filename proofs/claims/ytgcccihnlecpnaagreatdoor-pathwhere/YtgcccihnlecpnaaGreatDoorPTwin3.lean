/-
  package twin's Value, whose rows are apart from one another. No conditions beyond those stated.
-/
import Derived.Test.YtgcccihnlecpnaaGreatDoorPTwin2
namespace Go.Proofs.YtgcccihnlecpnaaGreatDoor
open Go.RowKit

/-- what lies in two rows, one behind the other, is apart. -/
theorem own_rows {m : Nat} {W : World} {v : V} {l f : Value} {a b z : Nat} {es : List El} {fs : List Fl} {c d : Nat → Nat} (h1 : es.map El.v = v.list) (h2 : fs.map Fl.pair = v.fields)
    (r1 : RowAt (fun k => k = a) W 28 5 l es.length (encEs es)) (r2 : RowAt (fun k => k = b) W 44 6 f fs.length (encFs fs)) (hc : ∀ i j, i ≤ j → c i ≤ c j) (hd : ∀ i j, i ≤ j → d i ≤ d j)
    (o1 : ∀ (i : Nat) (e : El), es[i]? = some e → Own m (Btw (c i) (c (i + 1))) W e.v e.l e.f ∧ a < c i ∧ c (i + 1) ≤ b) (o2 : ∀ (i : Nat) (e : Fl), fs[i]? = some e → Own m (Btw (d i) (d (i + 1))) W e.v e.l e.f ∧ b < d i ∧ d (i + 1) ≤ z) (hab : a ≤ b) (hbz : b ≤ z) (hla : l.ownBlock = none ∨ a < b) (hfz : f.ownBlock = none ∨ b < z) :
    Own (m + 1) (Btw a z) W v l f := by
  have q1 : ∀ {ok : Nat → Prop} (i : Nat) (e : El), es[i]? = some e → (∀ k, c i ≤ k → k < c (i + 1) → ok k) → Rep ok m W e.v e.l e.f := fun i e he h => (o1 i e he).1.rep.move fun k hk _ => ⟨h k hk.1 hk.2, rfl⟩
  have q2 : ∀ {ok : Nat → Prop} (i : Nat) (e : Fl), fs[i]? = some e → (∀ k, d i ≤ k → k < d (i + 1) → ok k) → Rep ok m W e.v e.l e.f := fun i e he h => (o2 i e he).1.rep.move fun k hk _ => ⟨h k hk.1 hk.2, rfl⟩
  have p1 : ∀ {ok : Nat → Prop} (e : El), e ∈ es → (∀ i k, es[i]? = some e → c i ≤ k → k < c (i + 1) → ok k) → Rep ok m W e.v e.l e.f := by
    intro ok e he h
    obtain ⟨i, hi⟩ := List.mem_iff_getElem?.1 he
    exact q1 i e hi (h i · hi)
  have p2 : ∀ {ok : Nat → Prop} (e : Fl), e ∈ fs → (∀ i k, fs[i]? = some e → d i ≤ k → k < d (i + 1) → ok k) → Rep ok m W e.v e.l e.f := by
    intro ok e he h
    obtain ⟨i, hi⟩ := List.mem_iff_getElem?.1 he
    exact q2 i e hi (h i · hi)
  have hl : ∀ k, l.ownBlock = some k → k = a := fun k h => r1.2.2 k h
  have hf : ∀ k, f.ownBlock = some k → k = b := fun k h => r2.2.2 k h
  have hfb : ∀ k, f.ownBlock = some k → k < z := fun k h => by
    rcases hfz with e | e
    · rw [e] at h; cases h
    · rw [hf k h]; exact e
  have hlb : ∀ k, l.ownBlock = some k → k < b := fun k h => by
    rcases hla with e | e
    · rw [e] at h; cases h
    · rw [hl k h]; exact e
  have s1 : ∀ {ok : Nat → Prop}, (a < b → ok a) → RowAt ok W 28 5 l es.length (encEs es) := fun h => ⟨r1.1, r1.2.1, fun k hk => by have := hlb k hk; rw [hl k hk] at this ⊢; exact h this⟩
  have s2 : ∀ {ok : Nat → Prop}, (b < z → ok b) → RowAt ok W 44 6 f fs.length (encFs fs) := fun h => ⟨r2.1, r2.2.1, fun k hk => by have := hfb k hk; rw [hf k hk] at this ⊢; exact h this⟩
  refine ⟨es, fs, h1, h2, s1 fun h => ⟨Nat.le_refl _, by omega⟩, s2 fun h => ⟨by omega, h⟩, fun e he => p1 e he fun i k hi h3 h4 => ?_, fun e he => p2 e he fun i k hi h3 h4 => ?_, fun i e he => ?_, fun i e he => ?_⟩
  · have := o1 i e hi; exact ⟨by omega, by omega⟩
  · have := o2 i e hi; exact ⟨by omega, by omega⟩
  · obtain ⟨g1, g2, g3⟩ := o1 i e he
    have hci := hc i (i + 1) (Nat.le_succ _)
    refine ⟨Btw (c i) (c (i + 1)), fun k => (a ≤ k ∧ k < z ∧ k ≠ a) ∧ ¬ (c i ≤ k ∧ k < c (i + 1)), g1, ⟨fun k hk => ⟨⟨?_, ?_⟩, fun h => h.2 hk, fun h => ?_⟩, fun k hk => ⟨⟨hk.1.1, hk.1.2.1⟩, fun h => hk.1.2.2 (hl k h)⟩⟩, s2 fun h => ⟨⟨by omega, h, by omega⟩, by omega⟩, fun j e' hj he' => q1 j e' he' fun k h3 h4 => ?_, fun e' he' => p2 e' he' fun j k hj h3 h4 => ?_⟩
    · have := hk.1; omega
    · have := hk.2; omega
    · have := hk.1; have := hl k h; omega
    · obtain ⟨_, g5, g6⟩ := o1 j e' he'
      refine ⟨⟨by omega, by omega, by omega⟩, fun h => ?_⟩
      rcases Nat.lt_or_gt_of_ne hj with hj | hj
      · have := hc (j + 1) i hj; omega
      · have := hc (i + 1) j hj; omega
    · obtain ⟨_, g5, g6⟩ := o2 j e' hj
      exact ⟨⟨by omega, by omega, by omega⟩, by omega⟩
  · obtain ⟨g1, g2, g3⟩ := o2 i e he
    refine ⟨Btw (d i) (d (i + 1)), fun k => (a ≤ k ∧ k < z ∧ k ≠ b) ∧ ¬ (d i ≤ k ∧ k < d (i + 1)), g1, ⟨fun k hk => ⟨⟨?_, ?_⟩, fun h => h.2 hk, fun h => ?_⟩, fun k hk => ⟨⟨hk.1.1, hk.1.2.1⟩, fun h => hk.1.2.2 (hf k h)⟩⟩, s1 fun h => ⟨⟨by omega, by omega, by omega⟩, by omega⟩, fun e' he' => p1 e' he' fun j k hj h3 h4 => ?_, fun j e' hj he' => q2 j e' he' fun k h3 h4 => ?_⟩
    · have := hk.1; omega
    · have := hk.2; omega
    · have := hk.1; have := hf k h; omega
    · obtain ⟨_, g5, g6⟩ := o1 j e' hj
      exact ⟨⟨by omega, by omega, by omega⟩, by omega⟩
    · obtain ⟨_, g5, g6⟩ := o2 j e' he'
      refine ⟨⟨by omega, by omega, by omega⟩, fun h => ?_⟩
      rcases Nat.lt_or_gt_of_ne hj with hj | hj
      · have := hd (j + 1) i hj; omega
      · have := hd (i + 1) j hj; omega

set_option maxHeartbeats 1000000 in
theorem twinValueO_step (n m : Nat) (v : V) (l f : Value) (w : World) (xs : List El) (fs : List Fl) (ea : xs.map El.v = v.list) (ef : fs.map Fl.pair = v.fields)
    (hxs : RowAt (fun _ => True) w 28 5 l xs.length (encEs xs)) (hfs : RowAt (fun _ => True) w 44 6 f fs.length (encFs fs)) (lx : ∀ e ∈ xs, Lies n w e.v e.l e.f) (lf : ∀ e ∈ fs, Lies n w e.v e.l e.f)
    (hv : ∀ (u : V) (ul uf : Value) (W : World), Lies n W u ul uf → (∃ W0, Lies n W0 u ul uf ∧ ((∃ e ∈ xs, e.v = u) ∨ (∃ e ∈ fs, e.v = u))) → Calls Tryz.prog 19 #[.agg #[.int .i64 u.kind, .int .i64 u.num, .string u.text, ul, uf]] W fun r w' => ∃ l' f', r = .returned (.agg #[.int .i64 u.kind, .int .i64 u.num, .string u.text, l', f']) ∧ Own m (Btw W.heap.size w'.heap.size) w' u l' f' ∧ Below W.heap.size W w') :
    Calls Tryz.prog 19 #[.agg #[.int .i64 v.kind, .int .i64 v.num, .string v.text, l, f]] w fun r w' => ∃ l' f', r = .returned (.agg #[.int .i64 v.kind, .int .i64 v.num, .string v.text, l', f']) ∧ Own (m + 1) (Btw w.heap.size w'.heap.size) w' v l' f' ∧ Below w.heap.size w w' := by
  have hL : ∀ W, Below w.heap.size w W → Calls Tryz.prog 31 #[l] W fun r w' => ∃ l', r = .returned l' ∧ CopyLO m W w' xs l' ∧ Below W.heap.size W w' := by
    intro W hW
    have hm : ∀ b, True → b < w.heap.size → True ∧ W.heap[b]? = w.heap[b]? := fun b _ h => ⟨trivial, hW.block b h⟩
    exact twinListO_any n m xs l W (hxs.move hm) (fun e he => (lx e he).below hW) fun e he W' hW' => hv e.v e.l e.f W' ((lx e he).below (hW.trans (hW'.mono hW.size))) ⟨w, lx e he, .inl ⟨e, he, rfl⟩⟩
  have hF : ∀ W, Below w.heap.size w W → Calls Tryz.prog 32 #[f] W fun r w' => ∃ l', r = .returned l' ∧ CopyFO m W w' fs l' ∧ Below W.heap.size W w' := by
    intro W hW
    have hm : ∀ b, True → b < w.heap.size → True ∧ W.heap[b]? = w.heap[b]? := fun b _ h => ⟨trivial, hW.block b h⟩
    exact twinFieldsO_any n m fs f W (hfs.move hm) (fun e he => (lf e he).below hW) fun e he W' hW' => hv e.v e.l e.f W' ((lf e he).below (hW.trans (hW'.mono hW.size))) ⟨w, lf e he, .inr ⟨e, he, rfl⟩⟩
  obtain ⟨a1, c1, rfl⟩ := hxs.slice
  obtain ⟨a3, c3, rfl⟩ := hfs.slice
  have hB : ∀ (o1 o2 : Obj), Below w.heap.size w ((w.alloc o1).alloc o2) := fun o1 o2 => ((Below.refl _ _).alloc (Nat.le_refl _) _).alloc (by simp) _
  clear hxs hfs lx lf hv
  go_enter Tryz.func19, Tryz.ntmps19
  go_wp2_with fail
  refine (hL _ (hB _ _)).mono ?_
  rintro e w1 ⟨l', rfl, hcl, hb1⟩
  obtain ⟨es', c, e1, e2, e4, e3⟩ := hcl
  obtain ⟨al', cl', rfl⟩ := e2.slice
  have r1 := (hb1.block w.heap.size (by simp; omega)).trans heap_alloc2_old
  have q1 := (hb1.block (w.heap.size + 1) (by simp)).trans heap_alloc2_new
  have hB1 : Below w.heap.size w w1 := (hB _ _).trans (hb1.mono (hB _ _).size)
  have hBs : ∀ u, Below w.heap.size w (w1.setCell ⟨w.heap.size, 3, none⟩ u) := fun u => hB1.setCell (Nat.le_refl _) u
  obtain ⟨p0, p1, p2, p3, p4, pf⟩ := row5 r1
  have S := (show Aside _ from And.intro hb1 (And.intro e2 (And.intro e3 (And.intro r1 q1))))
  clear e2 e3 hb1 r1 q1
  go_wp2_with fail
  refine (hF _ (hBs _)).mono ?_
  rintro e w2 ⟨f', rfl, hcf, hb2⟩
  obtain ⟨fs', d, f1, f2, f3, f4⟩ := hcf
  obtain ⟨af', cf', rfl⟩ := f2.slice
  obtain ⟨hb1, e2, e3, r1, q1⟩ := S.out
  have hz1 : w.heap.size + 1 < w1.heap.size := lt_of_heap q1
  have r2 := (hb2.block w.heap.size (by simp; omega)).trans (setCell_row r1 (i := 3) _)
  have q2 := ((hb2.block (w.heap.size + 1) (by simp; omega)).trans (heap_setCell_ne _ _ _ (by simp))).trans q1
  rw [show (#[Value.int .i64 v.kind, .int .i64 v.num, .string v.text, .slice a1 xs.length c1, .slice a3 fs.length c3].setIfInBounds 3 (.slice al' es'.length cl')) = #[Value.int .i64 v.kind, .int .i64 v.num, .string v.text, .slice al' es'.length cl', .slice a3 fs.length c3] from rfl] at r2
  obtain ⟨k0, k1, k2, k3, k4, kf⟩ := row5 r2
  obtain ⟨o0, o1, o2, o3, o4, of⟩ := row5 q2
  have T := (show Aside _ from And.intro hb2 (And.intro f2 (And.intro f3 f4)))
  clear f2 f3 f4 hb2 p0 p1 p2 p3 p4 pf r1 q1 r2 q2 hb1 e2 e3
  go_wp2
  refine bodyPost_ret (v := .agg #[.int .i64 v.kind, .int .i64 v.num, .string v.text, .slice al' es'.length cl', .slice af' fs'.length cf']) (by simp [results, Tryz.results19, go_sem, o0, o1, o2, o3, o4]) rfl ⟨_, _, rfl, ?_, ?_⟩
  · obtain ⟨hb1, e2, e3, r1, q1⟩ := S.out
    obtain ⟨hb2, f2, f3, f4⟩ := T.out
    generalize hFW : (((((w2.setCell ⟨w.heap.size, 4, none⟩ (.slice af' fs'.length cf')).setCell ⟨w.heap.size + 1, 0, none⟩ (.int .i64 v.kind)).setCell ⟨w.heap.size + 1, 1, none⟩ (.int .i64 v.num)).setCell ⟨w.heap.size + 1, 2, none⟩ (.string v.text)).setCell ⟨w.heap.size + 1, 3, none⟩ (.slice al' es'.length cl')).setCell ⟨w.heap.size + 1, 4, none⟩ (.slice af' fs'.length cf') = FW
    have hfin : ∀ b, b ≠ w.heap.size → b ≠ w.heap.size + 1 → FW.heap[b]? = w2.heap[b]? := by
      intro b h1 h2
      rw [← hFW, heap_setCell_ne _ _ _ h2, heap_setCell_ne _ _ _ h2, heap_setCell_ne _ _ _ h2, heap_setCell_ne _ _ _ h2, heap_setCell_ne _ _ _ h2, heap_setCell_ne _ _ _ h1]
    simp only [World.size_setCell, World.size_alloc] at e2 e3 f2 f4 hb2
    have hold : ∀ b, w.heap.size + 1 < b → b < w1.heap.size → FW.heap[b]? = w1.heap[b]? := by
      intro b h1 h2
      rw [hfin b (by omega) (by omega), hb2.block b h2, heap_setCell_ne _ _ _ (by simp; omega)]
    have hFs : FW.heap.size = w2.heap.size := by rw [← hFW]; simp
    have hw12 : w1.heap.size ≤ w2.heap.size := by have := hb2.size; simpa using this
    rw [hFs]
    have r1 : RowAt (fun k => k = w.heap.size + 2) FW 28 5 (.slice al' es'.length cl') es'.length (encEs es') := e2.move fun b hb hl => ⟨hb, hold b (by omega) hl⟩
    have r2 : RowAt (fun k => k = w1.heap.size) FW 44 6 (.slice af' fs'.length cf') fs'.length (encFs fs') := f2.move fun b hb hl => ⟨hb, hfin b (by omega) (by omega)⟩
    refine (own_rows (a := w.heap.size + 2) (b := w1.heap.size) (z := w2.heap.size) (c := c) (d := d) (e1.trans ea) (f1.trans ef) r1 r2 e4 f3 (fun i e he => ?_) (fun i e he => ?_) ?_ hw12 ?_ ?_).move (fun k hk => ⟨by have := hk.1; omega, hk.2⟩) fun _ _ _ => rfl
    · obtain ⟨g1, g2, g3⟩ := e3 i e he
      exact ⟨g1.move (fun k hk => hk) fun k hk hl => hold k (by have := hk.1; omega) hl, by omega, g3⟩
    · obtain ⟨g1, g2, g3⟩ := f4 i e he
      exact ⟨g1.move (fun k hk => hk) fun k hk hl => hfin k (by have := hk.1; omega) (by have := hk.1; omega), by omega, g3⟩
    · have := hB1.size; simp at *; omega
    · rcases hq : (Value.slice al' es'.length cl').ownBlock with _ | k
      · exact .inl rfl
      · have h1 := e2.2.2 k hq
        have h2 := (e2.1.lt k hq).2
        right; omega
    · rcases hq : (Value.slice af' fs'.length cf').ownBlock with _ | k
      · exact .inl rfl
      · have h1 := f2.2.2 k hq
        have h2 := (f2.1.lt k hq).2
        right; omega
  · have hB2 : Below w.heap.size w w2 := (hBs _).trans (T.out.1.mono (hBs _).size)
    exact ((((((hB2.setCell (Nat.le_refl _) _).setCell (Nat.le_succ _) _).setCell (Nat.le_succ _) _).setCell (Nat.le_succ _) _).setCell (Nat.le_succ _) _).setCell (Nat.le_succ _) _)

theorem twinValueO_any : ∀ (n : Nat) (v : V) (l f : Value) (w : World), Lies n w v l f →
    Calls Tryz.prog 19 #[.agg #[.int .i64 v.kind, .int .i64 v.num, .string v.text, l, f]] w fun r w' => ∃ l' f', r = .returned (.agg #[.int .i64 v.kind, .int .i64 v.num, .string v.text, l', f']) ∧ Own (n + 1) (Btw w.heap.size w'.heap.size) w' v l' f' ∧ Below w.heap.size w w'
  | 0, v, l, f, w, ⟨h1, h2, h3, h4⟩ => by
    subst h3 h4
    refine twinValueO_step 0 0 v _ _ w [] [] h1.symm h2.symm RowAt.nil RowAt.nil (fun e he => by cases he) (fun e he => by cases he) ?_
    rintro u ul uf W _ ⟨_, _, ⟨e, he, _⟩ | ⟨e, he, _⟩⟩
    · cases he
    · cases he
  | n + 1, v, l, f, w, ⟨⟨xs, e1, e2, e3⟩, ⟨fs, f1, f2, f3⟩⟩ =>
    twinValueO_step n (n + 1) v l f w xs fs e1 f1 e2 f2 e3 f3 fun u ul uf W hu _ => twinValueO_any n u ul uf W hu
end Go.Proofs.YtgcccihnlecpnaaGreatDoor
