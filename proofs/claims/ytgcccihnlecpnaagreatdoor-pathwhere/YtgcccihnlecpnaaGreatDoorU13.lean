/-
  package twin's Value, whose rows are apart from one another. No conditions beyond those stated.
  package value's Del by its contract. No conditions beyond those stated.
  package value's Set, Get and Del at objects whose names rise, by what they answer. Conditions: as stated (fewer than a million fields).
  A place within a value that lies in memory of its own: what is written there is in the whole. No conditions beyond those stated.
-/
import Derived.Test.YtgcccihnlecpnaaGreatDoorU12
import Derived.Test.YtgcccihnlecpnaaGreatDoorU5
import Derived.Test.YtgcccihnlecpnaaGreatDoorU7
import Derived.Test.YtgcccihnlecpnaaGreatDoorU11
import Derived.Test.YtgcccihnlecpnaaGreatDoorU9
import Derived.Test.YtgcccihnlecpnaaGreatDoorU8
namespace Go.Proofs.YtgcccihnlecpnaaGreatDoor
open Go.RowKit

/-- what lies in two rows, one behind the other, is apart. -/
theorem own_rows {m : Nat} {W : World} {v : V} {l f : Value} {a b z : Nat} {es : List El} {fs : List Fl} {c d : Nat → Nat} (h1 : es.map El.v = v.list) (h2 : fs.map Fl.pair = v.fields)
    (r1 : RowAt (fun k => k = a) W 28 5 l es.length (encEs es)) (r2 : RowAt (fun k => k = b) W 44 6 f fs.length (encFs fs)) (hc : ∀ i j, i ≤ j → c i ≤ c j) (hd : ∀ i j, i ≤ j → d i ≤ d j)
    (o1 : ∀ (i : Nat) (e : El), es[i]? = some e → Own m (Btw (c i) (c (i + 1))) W e.v e.l e.f ∧ a < c i ∧ c (i + 1) ≤ b) (o2 : ∀ (i : Nat) (e : Fl), fs[i]? = some e → Own m (Btw (d i) (d (i + 1))) W e.v e.l e.f ∧ b < d i ∧ d (i + 1) ≤ z) (hab : a ≤ b) (hbz : b ≤ z) (hla : l.ownBlock = none ∨ a < b) (hfz : f.ownBlock = none ∨ b < z) :
    Own (m + 1) (Btw a z) W v l f := by
  have q1 : ∀ {ok : Nat → Prop} (i : Nat) (e : El), es[i]? = some e → (∀ k, c i ≤ k → k < c (i + 1) → ok k) → Rep ok m W e.v e.l e.f := fun i e he h => (o1 i e he).1.rep.move fun k hk _ => ⟨h k hk.1 hk.2, rfl⟩
  have q2 : ∀ {ok : Nat → Prop} (i : Nat) (e : Fl), fs[i]? = some e → (∀ k, d i ≤ k → k < d (i + 1) → ok k) → Rep ok m W e.v e.l e.f := fun i e he h => (o2 i e he).1.rep.move fun k hk _ => ⟨h k hk.1 hk.2, rfl⟩
  have p1 : ∀ {ok : Nat → Prop} (e : El), e ∈ es → (∀ i k, es[i]? = some e → c i ≤ k → k < c (i + 1) → ok k) → Rep ok m W e.v e.l e.f := by
    intro ok e he h
    obtain ⟨i, hi⟩ := List.mem_iff_getElem?.1 he
    exact q1 i e hi (h i · hi)
  have p2 : ∀ {ok : Nat → Prop} (e : Fl), e ∈ fs → (∀ i k, fs[i]? = some e → d i ≤ k → k < d (i + 1) → ok k) → Rep ok m W e.v e.l e.f := by
    intro ok e he h
    obtain ⟨i, hi⟩ := List.mem_iff_getElem?.1 he
    exact q2 i e hi (h i · hi)
  have hl : ∀ k, l.ownBlock = some k → k = a := fun k h => r1.2.2 k h
  have hf : ∀ k, f.ownBlock = some k → k = b := fun k h => r2.2.2 k h
  have hfb : ∀ k, f.ownBlock = some k → k < z := fun k h => by
    rcases hfz with e | e
    · rw [e] at h; cases h
    · rw [hf k h]; exact e
  have hlb : ∀ k, l.ownBlock = some k → k < b := fun k h => by
    rcases hla with e | e
    · rw [e] at h; cases h
    · rw [hl k h]; exact e
  have s1 : ∀ {ok : Nat → Prop}, (a < b → ok a) → RowAt ok W 28 5 l es.length (encEs es) := fun h => ⟨r1.1, r1.2.1, fun k hk => by have := hlb k hk; rw [hl k hk] at this ⊢; exact h this⟩
  have s2 : ∀ {ok : Nat → Prop}, (b < z → ok b) → RowAt ok W 44 6 f fs.length (encFs fs) := fun h => ⟨r2.1, r2.2.1, fun k hk => by have := hfb k hk; rw [hf k hk] at this ⊢; exact h this⟩
  refine ⟨es, fs, h1, h2, s1 fun h => ⟨Nat.le_refl _, by omega⟩, s2 fun h => ⟨by omega, h⟩, fun e he => p1 e he fun i k hi h3 h4 => ?_, fun e he => p2 e he fun i k hi h3 h4 => ?_, fun i e he => ?_, fun i e he => ?_⟩
  · have := o1 i e hi; exact ⟨by omega, by omega⟩
  · have := o2 i e hi; exact ⟨by omega, by omega⟩
  · obtain ⟨g1, g2, g3⟩ := o1 i e he
    have hci := hc i (i + 1) (Nat.le_succ _)
    refine ⟨Btw (c i) (c (i + 1)), fun k => (a ≤ k ∧ k < z ∧ k ≠ a) ∧ ¬ (c i ≤ k ∧ k < c (i + 1)), g1, ⟨fun k hk => ⟨⟨?_, ?_⟩, fun h => h.2 hk, fun h => ?_⟩, fun k hk => ⟨⟨hk.1.1, hk.1.2.1⟩, fun h => hk.1.2.2 (hl k h)⟩⟩, s2 fun h => ⟨⟨by omega, h, by omega⟩, by omega⟩, fun j e' hj he' => q1 j e' he' fun k h3 h4 => ?_, fun e' he' => p2 e' he' fun j k hj h3 h4 => ?_⟩
    · have := hk.1; omega
    · have := hk.2; omega
    · have := hk.1; have := hl k h; omega
    · obtain ⟨_, g5, g6⟩ := o1 j e' he'
      refine ⟨⟨by omega, by omega, by omega⟩, fun h => ?_⟩
      rcases Nat.lt_or_gt_of_ne hj with hj | hj
      · have := hc (j + 1) i hj; omega
      · have := hc (i + 1) j hj; omega
    · obtain ⟨_, g5, g6⟩ := o2 j e' hj
      exact ⟨⟨by omega, by omega, by omega⟩, by omega⟩
  · obtain ⟨g1, g2, g3⟩ := o2 i e he
    refine ⟨Btw (d i) (d (i + 1)), fun k => (a ≤ k ∧ k < z ∧ k ≠ b) ∧ ¬ (d i ≤ k ∧ k < d (i + 1)), g1, ⟨fun k hk => ⟨⟨?_, ?_⟩, fun h => h.2 hk, fun h => ?_⟩, fun k hk => ⟨⟨hk.1.1, hk.1.2.1⟩, fun h => hk.1.2.2 (hf k h)⟩⟩, s1 fun h => ⟨⟨by omega, by omega, by omega⟩, by omega⟩, fun e' he' => p1 e' he' fun j k hj h3 h4 => ?_, fun j e' hj he' => q2 j e' he' fun k h3 h4 => ?_⟩
    · have := hk.1; omega
    · have := hk.2; omega
    · have := hk.1; have := hf k h; omega
    · obtain ⟨_, g5, g6⟩ := o1 j e' hj
      exact ⟨⟨by omega, by omega, by omega⟩, by omega⟩
    · obtain ⟨_, g5, g6⟩ := o2 j e' he'
      refine ⟨⟨by omega, by omega, by omega⟩, fun h => ?_⟩
      rcases Nat.lt_or_gt_of_ne hj with hj | hj
      · have := hd (j + 1) i hj; omega
      · have := hd (i + 1) j hj; omega

set_option maxHeartbeats 1000000 in
theorem twinValueO_step (n m : Nat) (v : V) (l f : Value) (w : World) (xs : List El) (fs : List Fl) (ea : xs.map El.v = v.list) (ef : fs.map Fl.pair = v.fields)
    (hxs : RowAt (fun _ => True) w 28 5 l xs.length (encEs xs)) (hfs : RowAt (fun _ => True) w 44 6 f fs.length (encFs fs)) (lx : ∀ e ∈ xs, Lies n w e.v e.l e.f) (lf : ∀ e ∈ fs, Lies n w e.v e.l e.f)
    (hv : ∀ (u : V) (ul uf : Value) (W : World), Lies n W u ul uf → (∃ W0, Lies n W0 u ul uf ∧ ((∃ e ∈ xs, e.v = u) ∨ (∃ e ∈ fs, e.v = u))) → Calls Tryz.prog 19 #[.agg #[.int .i64 u.kind, .int .i64 u.num, .string u.text, ul, uf]] W fun r w' => ∃ l' f', r = .returned (.agg #[.int .i64 u.kind, .int .i64 u.num, .string u.text, l', f']) ∧ Own m (Btw W.heap.size w'.heap.size) w' u l' f' ∧ Below W.heap.size W w') :
    Calls Tryz.prog 19 #[.agg #[.int .i64 v.kind, .int .i64 v.num, .string v.text, l, f]] w fun r w' => ∃ l' f', r = .returned (.agg #[.int .i64 v.kind, .int .i64 v.num, .string v.text, l', f']) ∧ Own (m + 1) (Btw w.heap.size w'.heap.size) w' v l' f' ∧ Below w.heap.size w w' := by
  have hL : ∀ W, Below w.heap.size w W → Calls Tryz.prog 31 #[l] W fun r w' => ∃ l', r = .returned l' ∧ CopyLO m W w' xs l' ∧ Below W.heap.size W w' := by
    intro W hW
    have hm : ∀ b, True → b < w.heap.size → True ∧ W.heap[b]? = w.heap[b]? := fun b _ h => ⟨trivial, hW.block b h⟩
    exact twinListO_any n m xs l W (hxs.move hm) (fun e he => (lx e he).below hW) fun e he W' hW' => hv e.v e.l e.f W' ((lx e he).below (hW.trans (hW'.mono hW.size))) ⟨w, lx e he, .inl ⟨e, he, rfl⟩⟩
  have hF : ∀ W, Below w.heap.size w W → Calls Tryz.prog 32 #[f] W fun r w' => ∃ l', r = .returned l' ∧ CopyFO m W w' fs l' ∧ Below W.heap.size W w' := by
    intro W hW
    have hm : ∀ b, True → b < w.heap.size → True ∧ W.heap[b]? = w.heap[b]? := fun b _ h => ⟨trivial, hW.block b h⟩
    exact twinFieldsO_any n m fs f W (hfs.move hm) (fun e he => (lf e he).below hW) fun e he W' hW' => hv e.v e.l e.f W' ((lf e he).below (hW.trans (hW'.mono hW.size))) ⟨w, lf e he, .inr ⟨e, he, rfl⟩⟩
  obtain ⟨a1, c1, rfl⟩ := hxs.slice
  obtain ⟨a3, c3, rfl⟩ := hfs.slice
  have hB : ∀ (o1 o2 : Obj), Below w.heap.size w ((w.alloc o1).alloc o2) := fun o1 o2 => ((Below.refl _ _).alloc (Nat.le_refl _) _).alloc (by simp) _
  clear hxs hfs lx lf hv
  go_enter Tryz.func19, Tryz.ntmps19
  go_wp2_with fail
  refine (hL _ (hB _ _)).mono ?_
  rintro e w1 ⟨l', rfl, hcl, hb1⟩
  obtain ⟨es', c, e1, e2, e4, e3⟩ := hcl
  obtain ⟨al', cl', rfl⟩ := e2.slice
  have r1 := (hb1.block w.heap.size (by simp; omega)).trans heap_alloc2_old
  have q1 := (hb1.block (w.heap.size + 1) (by simp)).trans heap_alloc2_new
  have hB1 : Below w.heap.size w w1 := (hB _ _).trans (hb1.mono (hB _ _).size)
  have hBs : ∀ u, Below w.heap.size w (w1.setCell ⟨w.heap.size, 3, none⟩ u) := fun u => hB1.setCell (Nat.le_refl _) u
  obtain ⟨p0, p1, p2, p3, p4, pf⟩ := row5 r1
  have S := (show Aside _ from And.intro hb1 (And.intro e2 (And.intro e3 (And.intro r1 q1))))
  clear e2 e3 hb1 r1 q1
  go_wp2_with fail
  refine (hF _ (hBs _)).mono ?_
  rintro e w2 ⟨f', rfl, hcf, hb2⟩
  obtain ⟨fs', d, f1, f2, f3, f4⟩ := hcf
  obtain ⟨af', cf', rfl⟩ := f2.slice
  obtain ⟨hb1, e2, e3, r1, q1⟩ := S.out
  have hz1 : w.heap.size + 1 < w1.heap.size := lt_of_heap q1
  have r2 := (hb2.block w.heap.size (by simp; omega)).trans (setCell_row r1 (i := 3) _)
  have q2 := ((hb2.block (w.heap.size + 1) (by simp; omega)).trans (heap_setCell_ne _ _ _ (by simp))).trans q1
  rw [show (#[Value.int .i64 v.kind, .int .i64 v.num, .string v.text, .slice a1 xs.length c1, .slice a3 fs.length c3].setIfInBounds 3 (.slice al' es'.length cl')) = #[Value.int .i64 v.kind, .int .i64 v.num, .string v.text, .slice al' es'.length cl', .slice a3 fs.length c3] from rfl] at r2
  obtain ⟨k0, k1, k2, k3, k4, kf⟩ := row5 r2
  obtain ⟨o0, o1, o2, o3, o4, of⟩ := row5 q2
  have T := (show Aside _ from And.intro hb2 (And.intro f2 (And.intro f3 f4)))
  clear f2 f3 f4 hb2 p0 p1 p2 p3 p4 pf r1 q1 r2 q2 hb1 e2 e3
  go_wp2
  refine bodyPost_ret (v := .agg #[.int .i64 v.kind, .int .i64 v.num, .string v.text, .slice al' es'.length cl', .slice af' fs'.length cf']) (by simp [results, Tryz.results19, go_sem, o0, o1, o2, o3, o4]) rfl ⟨_, _, rfl, ?_, ?_⟩
  · obtain ⟨hb1, e2, e3, r1, q1⟩ := S.out
    obtain ⟨hb2, f2, f3, f4⟩ := T.out
    generalize hFW : (((((w2.setCell ⟨w.heap.size, 4, none⟩ (.slice af' fs'.length cf')).setCell ⟨w.heap.size + 1, 0, none⟩ (.int .i64 v.kind)).setCell ⟨w.heap.size + 1, 1, none⟩ (.int .i64 v.num)).setCell ⟨w.heap.size + 1, 2, none⟩ (.string v.text)).setCell ⟨w.heap.size + 1, 3, none⟩ (.slice al' es'.length cl')).setCell ⟨w.heap.size + 1, 4, none⟩ (.slice af' fs'.length cf') = FW
    have hfin : ∀ b, b ≠ w.heap.size → b ≠ w.heap.size + 1 → FW.heap[b]? = w2.heap[b]? := by
      intro b h1 h2
      rw [← hFW, heap_setCell_ne _ _ _ h2, heap_setCell_ne _ _ _ h2, heap_setCell_ne _ _ _ h2, heap_setCell_ne _ _ _ h2, heap_setCell_ne _ _ _ h2, heap_setCell_ne _ _ _ h1]
    simp only [World.size_setCell, World.size_alloc] at e2 e3 f2 f4 hb2
    have hold : ∀ b, w.heap.size + 1 < b → b < w1.heap.size → FW.heap[b]? = w1.heap[b]? := by
      intro b h1 h2
      rw [hfin b (by omega) (by omega), hb2.block b h2, heap_setCell_ne _ _ _ (by simp; omega)]
    have hFs : FW.heap.size = w2.heap.size := by rw [← hFW]; simp
    have hw12 : w1.heap.size ≤ w2.heap.size := by have := hb2.size; simpa using this
    rw [hFs]
    have r1 : RowAt (fun k => k = w.heap.size + 2) FW 28 5 (.slice al' es'.length cl') es'.length (encEs es') := e2.move fun b hb hl => ⟨hb, hold b (by omega) hl⟩
    have r2 : RowAt (fun k => k = w1.heap.size) FW 44 6 (.slice af' fs'.length cf') fs'.length (encFs fs') := f2.move fun b hb hl => ⟨hb, hfin b (by omega) (by omega)⟩
    refine (own_rows (a := w.heap.size + 2) (b := w1.heap.size) (z := w2.heap.size) (c := c) (d := d) (e1.trans ea) (f1.trans ef) r1 r2 e4 f3 (fun i e he => ?_) (fun i e he => ?_) ?_ hw12 ?_ ?_).move (fun k hk => ⟨by have := hk.1; omega, hk.2⟩) fun _ _ _ => rfl
    · obtain ⟨g1, g2, g3⟩ := e3 i e he
      exact ⟨g1.move (fun k hk => hk) fun k hk hl => hold k (by have := hk.1; omega) hl, by omega, g3⟩
    · obtain ⟨g1, g2, g3⟩ := f4 i e he
      exact ⟨g1.move (fun k hk => hk) fun k hk hl => hfin k (by have := hk.1; omega) (by have := hk.1; omega), by omega, g3⟩
    · have := hB1.size; simp at *; omega
    · rcases hq : (Value.slice al' es'.length cl').ownBlock with _ | k
      · exact .inl rfl
      · have h1 := e2.2.2 k hq
        have h2 := (e2.1.lt k hq).2
        right; omega
    · rcases hq : (Value.slice af' fs'.length cf').ownBlock with _ | k
      · exact .inl rfl
      · have h1 := f2.2.2 k hq
        have h2 := (f2.1.lt k hq).2
        right; omega
  · have hB2 : Below w.heap.size w w2 := (hBs _).trans (T.out.1.mono (hBs _).size)
    exact ((((((hB2.setCell (Nat.le_refl _) _).setCell (Nat.le_succ _) _).setCell (Nat.le_succ _) _).setCell (Nat.le_succ _) _).setCell (Nat.le_succ _) _).setCell (Nat.le_succ _) _)

theorem twinValueO_any : ∀ (n : Nat) (v : V) (l f : Value) (w : World), Lies n w v l f →
    Calls Tryz.prog 19 #[.agg #[.int .i64 v.kind, .int .i64 v.num, .string v.text, l, f]] w fun r w' => ∃ l' f', r = .returned (.agg #[.int .i64 v.kind, .int .i64 v.num, .string v.text, l', f']) ∧ Own (n + 1) (Btw w.heap.size w'.heap.size) w' v l' f' ∧ Below w.heap.size w w'
  | 0, v, l, f, w, ⟨h1, h2, h3, h4⟩ => by
    subst h3 h4
    refine twinValueO_step 0 0 v _ _ w [] [] h1.symm h2.symm RowAt.nil RowAt.nil (fun e he => by cases he) (fun e he => by cases he) ?_
    rintro u ul uf W _ ⟨_, _, ⟨e, he, _⟩ | ⟨e, he, _⟩⟩
    · cases he
    · cases he
  | n + 1, v, l, f, w, ⟨⟨xs, e1, e2, e3⟩, ⟨fs, f1, f2, f3⟩⟩ =>
    twinValueO_step n (n + 1) v l f w xs fs e1 f1 e2 f2 e3 f3 fun u ul uf W hu _ => twinValueO_any n u ul uf W hu
end Go.Proofs.YtgcccihnlecpnaaGreatDoor

namespace Go.Proofs.YtgcccihnlecpnaaGreatDoor
open Go.RowKit

set_option maxHeartbeats 1000000 in
theorem Del_none (n : Nat) (v : V) (l f : Value) (name : ByteArray) (w : World) (hv : Lies n w v l f) (hp : (if v.kind = 5 then whereI (isName name) v.fields else -1) = -1) :
    Calls Tryz.prog 25 #[.agg #[.int .i64 v.kind, .int .i64 v.num, .string v.text, l, f], .string name] w fun r w' => ∃ l' f', r = .returned (.tuple #[.agg #[.int .i64 v.kind, .int .i64 v.num, .string v.text, l', f'], .bool false]) ∧ GotV (n + 1) w w' v l' f' := by
  have hB : ∀ (o1 o2 : Obj), Below w.heap.size w ((w.alloc o1).alloc o2) := fun o1 o2 => ((Below.refl _ _).alloc (Nat.le_refl _) _).alloc (by simp) _
  have hcall := fun W (hW : Below w.heap.size w W) => twinValue_any n v l f W (hv.below hW)
  have hplace := fun W (hW : Below w.heap.size w W) => place_any n v l f name W (Rep.up (hv.below hW))
  rw [hp] at hplace
  obtain ⟨a1, c1, a3, c3, rfl, rfl⟩ := Rep.slices hv
  clear hv hp
  go_enter Tryz.func25, Tryz.ntmps25
  go_wp2_with fail
  refine (hcall _ (hB _ _)).mono ?_
  rintro e w1 ⟨l', f', rfl, hcp, hb1⟩
  have hrep := hcp.rep
  obtain ⟨al', cl', af', cf', rfl, rfl⟩ := hrep.slices
  have p1 := row_below hb1 heap_alloc2_old
  have q1 := row_below hb1 heap_alloc2_new
  obtain ⟨k0, k1, k2, k3, k4, kf⟩ := row5 p1
  have hz1 : w.heap.size + 1 < w1.heap.size := lt_of_heap q1
  have hz2 : w.heap.size < w1.heap.size := lt_of_heap p1
  have hB1 : Below w.heap.size w w1 := (hB _ _).trans (hb1.mono (hB _ _).size)
  have hB1a : ∀ o, Below w.heap.size w (w1.alloc o) := fun o => hB1.alloc (by omega) _
  have S := (show Hid _ from And.intro hrep (And.intro hb1 q1))
  clear hcp hrep hb1 p1 q1
  go_wp2_with fail
  refine (hplace _ (hB1a _)).mono ?_
  rintro e w2 ⟨rfl, hb2⟩
  have g2 := row_below hb2 (heap_alloc_new w1 _)
  have q2 := row_below hb2 ((Below.heap_alloc w1 _ _ (lt_of_heap S.out.2.2)).trans S.out.2.2)
  obtain ⟨u0, u1, u2, u3, u4, uf⟩ := row5 g2
  obtain ⟨o0, o1, o2, o3, o4, of⟩ := row5 q2
  have hB2 : Below w.heap.size w w2 := (hB1a _).trans (hb2.mono (hB1a _).size)
  have hb12 : Below w1.heap.size w1 w2 := ((Below.refl _ _).alloc (Nat.le_refl _) _).trans (hb2.mono (by simp))
  have T := (show Hid _ from hb12)
  clear g2 q2 hb2 hb12
  go_wp2
  refine bodyPost_ret (v := .tuple #[.agg #[.int .i64 v.kind, .int .i64 v.num, .string v.text, .slice al' v.list.length cl', .slice af' v.fields.length cf'], .bool false]) (by simp [results, Tryz.results25, go_sem, o0, o1, o2, o3, o4]) rfl ⟨_, _, rfl, ?_, ?_⟩
  · refine S.out.1.move fun b hb hl => ⟨by simp at hb; omega, ?_⟩
    refine (set5W_ne w2 (w.heap.size + 1) 0 1 2 3 4 _ _ _ _ _ (by simp at hb; omega)).trans ?_
    exact T.out.block b hl
  · exact set5W_below hB2 (by omega) 0 1 2 3 4 _ _ _ _ _

/-- what is there when a field was taken away. -/
theorem del_rep {n : Nat} {v : V} {w w1 w2 w3 : World} {B j z : Nat} {es : List El} {fs : List Fl} {cur' : Array Value} {l a0 a1 a2 a3 a4 u : Value}
    (e2 : RowAt (fun k => z ≤ k ∧ k ≠ B) w1 28 5 l es.length (encEs es)) (e3 : ∀ e ∈ es, Rep (fun k => z ≤ k ∧ k ≠ B) n w1 e.v e.l e.f) (f4 : ∀ e ∈ fs, Rep (fun k => z ≤ k ∧ k ≠ B) n w1 e.v e.l e.f)
    (hb12 : Below w1.heap.size w1 w2) (hg : w2.grownBy w3 (some B)) (c3 : w3.heap[B]? = some (.cells cur' 44 (0, 0))) (hs : cur'.size = fs.length * 6) (ht : cur'.toList.take ((fs.length - 1) * 6) = encFs (fs.take j ++ fs.drop (j + 1)))
    (e1 : es.map El.v = v.list) (f1 : fs.map Fl.pair = v.fields) (hnl : fs.length ≤ 1000000) (hj : j < fs.length) (zB : B < w1.heap.size) (zw : w1.heap.size < w2.heap.size) (hBz : z ≤ B) (_hz : w.heap.size ≤ w1.heap.size) (hzz : w.heap.size + 2 ≤ z := by simp) :
    Rep (fun k => w.heap.size ≤ k) (n + 1) (set5W (w3.setCell ⟨w1.heap.size, 4, none⟩ u) (w.heap.size + 1) 0 1 2 3 4 a0 a1 a2 a3 a4)
      { kind := 5, num := v.num, text := v.text, list := v.list, fields := v.fields.take j ++ v.fields.drop (j + 1) } l (.slice (some ⟨B, 0, none⟩) (fs.length - 1) fs.length) := by
  generalize hW : set5W (w3.setCell ⟨w1.heap.size, 4, none⟩ u) (w.heap.size + 1) 0 1 2 3 4 a0 a1 a2 a3 a4 = W
  have n5 : ∀ b, b ≠ w1.heap.size → b ≠ w.heap.size + 1 → W.heap[b]? = w3.heap[b]? := fun b h1 h2 => by rw [← hW, set5W_ne _ _ _ _ _ _ _ _ _ _ _ _ h2, heap_setCell_ne _ _ _ h1]
  have old : ∀ b, (z ≤ b ∧ b ≠ B) → b < w1.heap.size → W.heap[b]? = w1.heap[b]? := fun b h1 h2 => by
    rw [n5 b (by omega) (by omega), hg.block b (by omega) (fun e => h1.2 (Option.some.inj e)), hb12.block b h2]
  have hl' : (fs.take j ++ fs.drop (j + 1)).length = fs.length - 1 := by simp; omega
  refine ⟨⟨es, e1, e2.move fun b h1 h2 => ⟨by omega, old b h1 h2⟩, fun e he => (e3 e he).move fun b h1 h2 => ⟨by omega, old b h1 h2⟩⟩, ⟨fs.take j ++ fs.drop (j + 1), ?_, ?_, fun u hu => ?_⟩⟩
  · rw [← f1, List.map_append, List.map_take, List.map_drop]
  · rw [hl']
    exact ⟨⟨by rw [encFs_length, hl'], .inr ⟨B, _, cur', rfl, Nat.zero_le _, by rw [n5 B (by omega) (by omega)]; exact c3, by omega, by unfold maxLen; omega, hs, ht⟩⟩, by omega, fun b hb => by cases hb; show w.heap.size ≤ B; omega⟩
  · rcases List.mem_append.1 hu with hu | hu
    · exact (f4 u (List.mem_of_mem_take hu)).move fun b h1 h2 => ⟨by omega, old b h1 h2⟩
    · exact (f4 u (List.mem_of_mem_drop hu)).move fun b h1 h2 => ⟨by omega, old b h1 h2⟩

set_option maxHeartbeats 1000000 in
theorem Del_there (n : Nat) (v : V) (l f : Value) (name : ByteArray) (w : World) (hv : Lies n w v l f) (hk : v.kind = 5) (j : Nat) (hj : whereI (isName name) v.fields = j) (hjl : j < v.fields.length) :
    Calls Tryz.prog 25 #[.agg #[.int .i64 v.kind, .int .i64 v.num, .string v.text, l, f], .string name] w fun r w' => ∃ l' f', r = .returned (.tuple #[.agg #[.int .i64 v.kind, .int .i64 v.num, .string v.text, l', f'], .bool true]) ∧ GotV (n + 1) w w' { v with fields := v.fields.take j ++ v.fields.drop (j + 1) } l' f' := by
  have hB : ∀ (o1 o2 : Obj), Below w.heap.size w ((w.alloc o1).alloc o2) := fun o1 o2 => ((Below.refl _ _).alloc (Nat.le_refl _) _).alloc (by simp) _
  have hcall := fun W (hW : Below w.heap.size w W) => twinValue_any n v l f W (hv.below hW)
  have hplace := fun W (hW : Below w.heap.size w W) => place_any n v l f name W (Rep.up (hv.below hW))
  simp only [hk, if_true, hj] at hplace
  obtain ⟨a1, c1, a3, c3, rfl, rfl⟩ := Rep.slices hv
  rw [hk] at hcall ⊢
  have zj0 : ¬ (j : Int) < 0 := by omega
  clear hv hj
  go_enter Tryz.func25, Tryz.ntmps25
  go_wp2_with fail
  refine (hcall _ (hB _ _)).mono ?_
  rintro e w1 ⟨l', f', rfl, hcp, hb1⟩
  have hrep := hcp.rep
  obtain ⟨al', cl', af', cf', rfl, rfl⟩ := hrep.slices
  obtain ⟨B, hBB, ⟨es, e1, e2, e3⟩, ⟨fs, f1, f2, f3, f4⟩⟩ := hcp
  have hfl : fs.length = v.fields.length := by rw [← f1, List.length_map]
  rw [hfl] at f2
  obtain ⟨hsl, cur, hcg, hcur⟩ := f2.full f3 (.inl (by omega))
  have hnl : fs.length ≤ 1000000 := by rw [hfl]; exact f2.2.1
  simp only [Value.slice.injEq, true_and] at hsl
  obtain ⟨rfl, rfl⟩ := hsl
  have hone : ∀ u ∈ encFs fs, u.oneCell' = true := encFs_one fun e he => (f4 e he).shape
  have p1 := row_below hb1 heap_alloc2_old
  have q1 := row_below hb1 heap_alloc2_new
  obtain ⟨k0, k1, k2, k3, k4, kf⟩ := row5 p1
  have hz1 : w.heap.size + 1 < w1.heap.size := lt_of_heap q1
  have hz2 : w.heap.size < w1.heap.size := lt_of_heap p1
  have hB1 : Below w.heap.size w w1 := (hB _ _).trans (hb1.mono (hB _ _).size)
  have hB1a : ∀ o, Below w.heap.size w (w1.alloc o) := fun o => hB1.alloc (by omega) _
  have zB : B < w1.heap.size := lt_of_heap hcg
  have S := (show Hid _ from And.intro e2 (And.intro e3 (And.intro f4 (And.intro hcg q1))))
  clear hrep hb1 p1 q1 e2 e3 f2 f3 f4 hcg
  go_wp2_with fail
  refine (hplace _ (hB1a _)).mono ?_
  rintro e w2 ⟨rfl, hb2⟩
  have g2 := row_below hb2 (heap_alloc_new w1 _)
  have q2 := row_below hb2 ((Below.heap_alloc w1 _ _ (lt_of_heap S.out.2.2.2.2)).trans S.out.2.2.2.2)
  have c2 := row_below hb2 ((Below.heap_alloc w1 _ _ zB).trans S.out.2.2.2.1)
  obtain ⟨u0, u1, u2, u3, u4, uf⟩ := row5 g2
  have hB2 : Below w.heap.size w w2 := (hB1a _).trans (hb2.mono (hB1a _).size)
  have hb12 : Below w1.heap.size w1 w2 := ((Below.refl _ _).alloc (Nat.le_refl _) _).trans (hb2.mono (by simp))
  have zw2 : w1.heap.size < w2.heap.size := lt_of_heap g2
  have hdel := Delete_any fs B j w2 hone cur c2 hcur hnl (by omega)
  rw [hfl] at hdel
  have T := (show Hid _ from And.intro hb12 (And.intro g2 q2))
  have zj : (j : Int) ≤ 1000000 := by omega
  clear g2 q2 c2 hb2 hb12 k0 k1 k2 k3 k4 kf
  go_wp2_with fail
  refine hdel.mono ?_
  rintro e w3 ⟨rfl, ⟨cur', hc1, hc2, hc3⟩, hgr⟩
  obtain ⟨hb12, g2, q2⟩ := T.out
  have g3 := (hgr.block w1.heap.size zw2 (fun e => by have := Option.some.inj e; omega)).trans g2
  have q3 := (hgr.block (w.heap.size + 1) (by omega) (fun e => by have := Option.some.inj e; simp at hBB; omega)).trans q2
  obtain ⟨m0, m1, m2, m3, m4, mf⟩ := row5 g3
  obtain ⟨o0, o1, o2, o3, o4, of⟩ := row5 q3
  have U := (show Hid _ from And.intro hgr (And.intro hc1 (And.intro hc2 hc3)))
  clear hgr hc1 hc2 hc3 g3 q3 g2 q2 hb12 hdel u0 u1 u2 u3 u4 uf
  go_wp2
  refine bodyPost_ret (v := .tuple #[.agg #[.int .i64 5, .int .i64 v.num, .string v.text, .slice al' v.list.length cl', .slice (some ⟨B, 0, none⟩) (v.fields.length - 1) v.fields.length], .bool true]) (by simp [results, Tryz.results25, go_sem, o0, o1, o2, o3, o4]) rfl ⟨_, _, rfl, ?_, ?_⟩
  · obtain ⟨hgr, hc1, hc2, hc3⟩ := U.out
    rw [← hfl] at hc2 hc3 ⊢
    exact del_rep S.out.1 S.out.2.1 S.out.2.2.1 T.out.1 hgr hc1 hc2 hc3 e1 f1 hnl (by omega) zB zw2 hBB hB1.size
  · have hB3 : Below w.heap.size w w3 := hB2.grown U.out.1 hB2.size (fun k e => by have := Option.some.inj e; simp at hBB; omega)
    exact set5W_below (hB3.setCell (by simp; omega) _) (by omega) 0 1 2 3 4 _ _ _ _ _
end Go.Proofs.YtgcccihnlecpnaaGreatDoor

namespace Go.Proofs.YtgcccihnlecpnaaGreatDoor
open Go.RowKit

theorem ins_set {name : ByteArray} {x : V} : ∀ {fs : List (ByteArray × V)}, getF name fs = none → insF name x fs = setF name x fs
  | [], _ => rfl
  | f :: fs, h => by
    rw [getF_cons] at h
    by_cases h0 : cmpT f.1 name = 0
    · rw [if_pos h0] at h; cases h
    · rw [if_neg h0] at h
      by_cases h1 : 0 < cmpT f.1 name
      · simp [insF, setF, h0, h1]
      · simp [insF, setF, h0, h1, ins_set h]
theorem repl_set {name : ByteArray} {x : V} : ∀ {fs : List (ByteArray × V)}, Rises fs → (getF name fs).isSome = true → replF name x fs = setF name x fs
  | [], _, h => by cases h
  | f :: fs, hr, h => by
    by_cases h1 : 0 < cmpT f.1 name
    · rw [get_above hr h1] at h; cases h
    · rw [getF_cons] at h
      by_cases h0 : cmpT f.1 name = 0
      · simp [replF, setF, h0]
      · rw [if_neg h0] at h
        simp [replF, setF, h0, h1, repl_set hr.tail h]
theorem del_same {name : ByteArray} : ∀ {fs : List (ByteArray × V)}, getF name fs = none → delF name fs = fs
  | [], _ => rfl
  | f :: fs, h => by
    rw [getF_cons] at h
    by_cases h0 : cmpT f.1 name = 0
    · rw [if_pos h0] at h; cases h
    · rw [if_neg h0] at h
      simp [delF, h0, del_same h]
theorem del_head (name : ByteArray) : ∀ {fs : List (ByteArray × V)} {f : ByteArray × V}, Rises (f :: fs) → ∀ g gs, delF name fs = g :: gs → cmpT f.1 g.1 < 0
  | [], _, _, g, gs, h => by cases h
  | a :: fs, f, hr, g, gs, h => by
    have h1 : cmpT f.1 a.1 < 0 := hr.1
    by_cases h0 : cmpT a.1 name = 0
    · simp only [delF, h0, if_true] at h
      subst h
      exact good_cmpT.lt_left h1 (by have : cmpT a.1 g.1 < 0 := hr.2.1; omega)
    · simp only [delF, h0, if_false] at h
      cases h
      exact h1
theorem rises_del (name : ByteArray) : ∀ {fs : List (ByteArray × V)}, Rises fs → Rises (delF name fs)
  | [], h => h
  | f :: fs, h => by
    by_cases h0 : cmpT f.1 name = 0
    · simp only [delF, h0, if_true]; exact h.tail
    · simp only [delF, h0, if_false]; exact rises_cons (rises_del name h.tail) (del_head name h)

def setV (name : ByteArray) (x v : V) : V := { v with fields := setF name x v.fields }
def delV (name : ByteArray) (v : V) : V := { v with fields := delF name v.fields }
theorem delV_same {name : ByteArray} {v : V} (h : getF name v.fields = none) : delV name v = v := by
  unfold delV; rw [del_same h]; cases v; rfl
theorem delV_setV {name : ByteArray} {x v : V} (h : getF name v.fields = none) : delV name (setV name x v) = v := by
  unfold delV setV; simp only [del_set name x h]; cases v; rfl
theorem setV_back {name : ByteArray} {x v y : V} (hr : Rises v.fields) (h : getF name v.fields = some y) : setV name y (setV name x v) = v := by
  unfold setV; simp only [set_back name x y hr h]; cases v; rfl

theorem delV_len (name : ByteArray) (v : V) : (delV name v).fields.length ≤ v.fields.length := by
  show (delF name v.fields).length ≤ _
  rcases h : getF name v.fields with _ | y
  · rw [del_same h]; exact Nat.le_refl _
  · have := length_del name (fs := v.fields) (by rw [h]; rfl); omega
theorem delV_len_there {name : ByteArray} {v : V} (h : (getF name v.fields).isSome = true) : ((delV name v).fields.length : Int) = (v.fields.length : Int) - 1 := by
  have := length_del name (fs := v.fields) h
  show ((delF name v.fields).length : Int) = _
  omega

theorem Set_is {n : Nat} {v x s : V} {l f xl xf : Value} {nm : ByteArray} {w : World} (hs : s = setV nm x v) (hk : v.kind = 5) (hr : Rises v.fields) (hn : v.fields.length < 1000000) (hv : Lies n w v l f) (hx : Lies n w x xl xf) :
    Calls Tryz.prog 39 #[.agg #[.int .i64 v.kind, .int .i64 v.num, .string v.text, l, f], .string nm, .agg #[.int .i64 x.kind, .int .i64 x.num, .string x.text, xl, xf]] w
      fun r w' => ∃ al cl af cf, r = .returned (.agg #[.int .i64 s.kind, .int .i64 s.num, .string s.text, .slice al s.list.length cl, .slice af s.fields.length cf]) ∧ Lies (n + 2) w' s (.slice al s.list.length cl) (.slice af s.fields.length cf) ∧ Below w.heap.size w w' := by
  subst hs
  rcases where_name nm v.fields with ⟨h1, h2⟩ | ⟨j, q, y, h1, h2, h3, h4, _⟩
  · refine (Set_new n v x l f xl xf nm w hv hx hk h1 hn).mono ?_
    rintro e w' ⟨l', f', rfl, hrep, hb⟩
    rw [ins_set h2] at hrep
    obtain ⟨al, cl, af, cf, rfl, rfl⟩ := hrep.slices
    exact ⟨al, cl, af, cf, rfl, hrep.lies, hb⟩
  · refine (Set_there n v x l f xl xf nm w hv hx hk j q y h1 h2).mono ?_
    rintro e w' ⟨l', f', rfl, hrep, hb⟩
    rw [← h4, repl_set hr (by rw [h3]; rfl)] at hrep
    obtain ⟨al, cl, af, cf, rfl, rfl⟩ := hrep.slices
    exact ⟨al, cl, af, cf, rfl, hrep.lies, hb⟩
theorem Del_is {n : Nat} {v d : V} {l f : Value} {nm : ByteArray} {w : World} {B : Bool} (hd : d = delV nm v) (hB : (getF nm v.fields).isSome = B) (hk : v.kind = 5) (hv : Lies n w v l f) :
    Calls Tryz.prog 25 #[.agg #[.int .i64 v.kind, .int .i64 v.num, .string v.text, l, f], .string nm] w
      fun r w' => ∃ al cl af cf, r = .returned (.tuple #[.agg #[.int .i64 d.kind, .int .i64 d.num, .string d.text, .slice al d.list.length cl, .slice af d.fields.length cf], .bool B]) ∧ Lies (n + 1) w' d (.slice al d.list.length cl) (.slice af d.fields.length cf) ∧ Below w.heap.size w w' := by
  subst hd
  subst hB
  rcases where_name nm v.fields with ⟨h1, h2⟩ | ⟨j, q, y, h1, h2, h3, _, h5⟩
  · refine (Del_none n v l f nm w hv (by rw [if_pos hk, h1])).mono ?_
    rintro e w' ⟨l', f', rfl, hrep, hb⟩
    rw [delV_same h2, h2]
    obtain ⟨al, cl, af, cf, rfl, rfl⟩ := hrep.slices
    exact ⟨al, cl, af, cf, rfl, hrep.lies, hb⟩
  · refine (Del_there n v l f nm w hv hk j h1 (List.getElem?_eq_some_iff.1 h2).1).mono ?_
    rintro e w' ⟨l', f', rfl, hrep, hb⟩
    rw [← h5] at hrep
    rw [h3]
    obtain ⟨al, cl, af, cf, rfl, rfl⟩ := hrep.slices
    exact ⟨al, cl, af, cf, rfl, hrep.lies, hb⟩
theorem same_refl {n : Nat} {x : V} {la fa lb fb : Value} {w : World} (ha : Lies n w x la fa) (hb : Lies n w x lb fb) :
    Calls Tryz.prog 12 #[.agg #[.int .i64 x.kind, .int .i64 x.num, .string x.text, la, fa], .agg #[.int .i64 x.kind, .int .i64 x.num, .string x.text, lb, fb]] w fun e w' => e = .returned (.bool true) ∧ Below w.heap.size w w' :=
  Same_is ((good_cmpV (n + 1)).refl x) ha hb
end Go.Proofs.YtgcccihnlecpnaaGreatDoor

namespace Go.Proofs.YtgcccihnlecpnaaGreatDoor
open Go.RowKit

theorem cell_congr {W W' : World} {B o : Nat} (h : W'.heap[B]? = W.heap[B]?) : W'.cell? ⟨B, o, none⟩ = W.cell? ⟨B, o, none⟩ := by simp [World.cell?, h]
theorem Kid.move {ok : Nat → Prop} {W W' : World} {l f : Value} {B o : Nat} {u : V} {ul uf : Value} {G : V → V} (h : Kid ok W l f B o u ul uf G) (hm : ∀ b, ok b → W'.heap[b]? = W.heap[b]?) : Kid ok W' l f B o u ul uf G := by
  obtain ⟨n, okc, keep, ⟨c0, c1, c2, c3, c4, _⟩, h2, h3, h4, h5, h6, h7⟩ := h
  have hB := hm B h7
  have h2' : Own n okc W' u ul uf := h2.move (fun b hb => hb) fun b hb _ => hm b (h5 b hb).1
  refine ⟨n, okc, keep, ⟨(cell_congr hB).trans c0, (cell_congr hB).trans c1, (cell_congr hB).trans c2, (cell_congr hB).trans c3, (cell_congr hB).trans c4, h2'.rep.lies⟩, h2', fun W'' m x lx fx hk hs ha => ?_, ?_, h5, h6, h7⟩
  · refine h3 W'' m x lx fx (fun b hb => (hk b hb).trans (hm b (h6 b hb).1)) ?_ ha
    obtain ⟨cur, t, a0, a1, a2, a3, a4, g1, g2, g3⟩ := hs
    exact ⟨cur, t, a0, a1, a2, a3, a4, hB.symm.trans g1, g2, g3⟩
  · obtain ⟨cur, t, g1, g2⟩ := h4
    exact ⟨cur, t, hB.trans g1, g2⟩

/-- the whole, by what is at a place: whatever is put there, at R there lies the whole with it. -/
def Ctx (W : World) (keep : Nat → Prop) (B o R : Nat) (F : V → V) : Prop :=
  ∀ W' m x lx fx, (∀ b, keep b → W'.heap[b]? = W.heap[b]?) → Same5 W W' B o → At m W' B o x lx fx → ∃ M l f, At M W' R 0 (F x) l f
/-- a place in a value that lies at R, all of it in blocks from z on. -/
structure SpotW (n : Nat) (ok keep : Nat → Prop) (z R : Nat) (W : World) (B o : Nat) (u : V) (ul uf : Value) (F : V → V) : Prop where
  at_ : At n W B o u ul uf
  own : Own n ok W u ul uf
  row : ∃ cur t, W.heap[B]? = some (.cells cur t (0, 0)) ∧ o + 5 ≤ cur.size
  ctx : Ctx W keep B o R F
  oks : ∀ b, ok b → ¬ keep b ∧ b ≠ B ∧ z ≤ b ∧ b < W.heap.size
  apart : ¬ keep B
  keeps : ∀ b, keep b → z ≤ b ∧ b < W.heap.size
  le : z ≤ B
  leR : z ≤ R
def Spot (z R : Nat) (W : World) (B o : Nat) (u : V) (ul uf : Value) (F : V → V) : Prop := ∃ n ok keep, SpotW n ok keep z R W B o u ul uf F

theorem SpotW.below {n : Nat} {ok keep : Nat → Prop} {z R : Nat} {W W' : World} {B o : Nat} {u : V} {ul uf : Value} {F : V → V} (h : SpotW n ok keep z R W B o u ul uf F) (hb : Below W.heap.size W W') : SpotW n ok keep z R W' B o u ul uf F := by
  obtain ⟨h1, h2, ⟨cur, t, h3, h3'⟩, h4, h5, h6, h7, h8, h9⟩ := h
  have hB := hb.block B (lt_of_heap h3)
  refine ⟨h1.below hb, h2.move (fun b hb => hb) fun b _ hl => hb.block b hl, ⟨cur, t, hB.trans h3, h3'⟩, fun W'' m x lx fx hk hs ha => ?_, fun b hb' => ?_, h6, fun b hb' => ⟨(h7 b hb').1, Nat.lt_of_lt_of_le (h7 b hb').2 hb.size⟩, h8, h9⟩
  · refine h4 W'' m x lx fx (fun b hb' => (hk b hb').trans (hb.block b (h7 b hb').2)) ?_ ha
    obtain ⟨cur, t, a0, a1, a2, a3, a4, g1, g2, g3⟩ := hs
    exact ⟨cur, t, a0, a1, a2, a3, a4, hB.symm.trans g1, g2, g3⟩
  · obtain ⟨e1, e2, e3, e4⟩ := h5 b hb'
    exact ⟨e1, e2, e3, Nat.lt_of_lt_of_le e4 hb.size⟩
theorem Spot.below {z R : Nat} {W W' : World} {B o : Nat} {u : V} {ul uf : Value} {F : V → V} (h : Spot z R W B o u ul uf F) (hb : Below W.heap.size W W') : Spot z R W' B o u ul uf F := by
  obtain ⟨n, ok, keep, h⟩ := h
  exact ⟨n, ok, keep, h.below hb⟩
/-- from a place to one within it. -/
theorem SpotW.sub {n : Nat} {ok keep : Nat → Prop} {z R : Nat} {w W : World} {B o : Nat} {u : V} {ul uf : Value} {F : V → V} (h : SpotW n ok keep z R w B o u ul uf F) {u' y : V} {l f yl yf : Value} {okk : Nat → Prop} {C o' : Nat} {G : V → V}
    (hk : Kid okk W l f C o' y yl yf G) (kk : ∀ b, keep b → W.heap[b]? = w.heap[b]?) (ko : ∀ b, okk b → ¬ keep b ∧ b ≠ B ∧ z ≤ b ∧ b < W.heap.size)
    (hs : Same5 w W B o) (c0 : W.cell? ⟨B, o, none⟩ = some (.int .i64 u'.kind)) (c1 : W.cell? ⟨B, o + 1, none⟩ = some (.int .i64 u'.num)) (c2 : W.cell? ⟨B, o + 2, none⟩ = some (.string u'.text)) (c3 : W.cell? ⟨B, o + 3, none⟩ = some l) (c4 : W.cell? ⟨B, o + 4, none⟩ = some f)
    (hG : ∀ x, (G x).kind = u'.kind ∧ (G x).num = u'.num ∧ (G x).text = u'.text) (hsz : w.heap.size ≤ W.heap.size) : Spot z R W C o' y yl yf (fun x => F (G x)) := by
  obtain ⟨h1, h2, h3, h4, h5, h6, h7, h8, h9⟩ := h
  obtain ⟨m, okc, keepc, k1, k2, k3, k4, k5, k6, k7⟩ := hk
  have hBW : B < W.heap.size := lt_of_cell c0
  refine ⟨m, okc, fun b => keep b ∨ keepc b ∨ b = B, k1, k2, k4, ?_, fun b hb => ?_, ?_, fun b hb => ?_, (ko C k7).2.2.1, h9⟩
  · intro W' p x lx fx hkeep hs' ha
    obtain ⟨M, hM⟩ := k3 W' p x lx fx (fun b hb => hkeep b (.inr (.inl hb))) hs' ha
    have hBB := hkeep B (.inr (.inr rfl))
    obtain ⟨g0, g1, g2⟩ := hG x
    refine h4 W' M (G x) l f (fun b hb => (hkeep b (.inl hb)).trans (kk b hb)) ?_ ⟨?_, ?_, ?_, (cell_congr hBB).trans c3, (cell_congr hBB).trans c4, hM⟩
    · obtain ⟨cur, t, a0, a1, a2, a3, a4, q1, q2, q3⟩ := hs
      exact ⟨cur, t, a0, a1, a2, a3, a4, q1, q2, hBB.trans q3⟩
    · rw [g0]; exact (cell_congr hBB).trans c0
    · rw [g1]; exact (cell_congr hBB).trans c1
    · rw [g2]; exact (cell_congr hBB).trans c2
  · obtain ⟨e1, e2, e3⟩ := k5 b hb
    obtain ⟨f1, f2, f3, f4⟩ := ko b e1
    refine ⟨fun h => ?_, e3, f3, f4⟩
    rcases h with h | h | h
    · exact f1 h
    · exact e2 h
    · exact f2 h
  · intro h
    rcases h with h | h | h
    · exact (ko C k7).1 h
    · exact (k6 C h).2 rfl
    · exact (ko C k7).2.1 h
  · rcases hb with hb | hb | hb
    · exact ⟨(h7 b hb).1, Nat.lt_of_lt_of_le (h7 b hb).2 hsz⟩
    · exact (ko b (k6 b hb).1).2.2
    · rw [hb]; exact ⟨h8, hBW⟩
/-- a place that is there already. -/
theorem SpotW.kid {n : Nat} {ok keep : Nat → Prop} {z R : Nat} {w : World} {B o : Nat} {u : V} {ul uf : Value} {F : V → V} (h : SpotW n ok keep z R w B o u ul uf F) {y : V} {yl yf : Value} {C o' : Nat} {G : V → V} (hk : Kid ok w ul uf C o' y yl yf G) (hG : ∀ x, (G x).kind = u.kind ∧ (G x).num = u.num ∧ (G x).text = u.text) : Spot z R w C o' y yl yf (fun x => F (G x)) := by
  obtain ⟨c0, c1, c2, c3, c4, _⟩ := h.at_
  obtain ⟨cur, t, g1, g2⟩ := h.row
  exact h.sub hk (fun _ _ => rfl) h.oks (Same5.refl g1 g2 rfl) c0 c1 c2 c3 c4 hG (Nat.le_refl _)

/-- five cells of a place, written. -/
def write5 (W : World) (B o : Nat) (a0 a1 a2 a3 a4 : Value) : World := set5W W B o (o + 1) (o + 2) (o + 3) (o + 4) a0 a1 a2 a3 a4
theorem write5_same {W : World} {B o : Nat} {cur : Array Value} {t : Nat} (h : W.heap[B]? = some (.cells cur t (0, 0))) (ho : o + 5 ≤ cur.size) (a0 a1 a2 a3 a4 : Value) : Same5 W (write5 W B o a0 a1 a2 a3 a4) B o ∧
    (write5 W B o a0 a1 a2 a3 a4).cell? ⟨B, o, none⟩ = some a0 ∧ (write5 W B o a0 a1 a2 a3 a4).cell? ⟨B, o + 1, none⟩ = some a1 ∧ (write5 W B o a0 a1 a2 a3 a4).cell? ⟨B, o + 2, none⟩ = some a2 ∧ (write5 W B o a0 a1 a2 a3 a4).cell? ⟨B, o + 3, none⟩ = some a3 ∧ (write5 W B o a0 a1 a2 a3 a4).cell? ⟨B, o + 4, none⟩ = some a4 := by
  have hg : (write5 W B o a0 a1 a2 a3 a4).heap[B]? = some (.cells (cur.toList.take o ++ [a0, a1, a2, a3, a4] ++ cur.toList.drop (o + 5)).toArray t (0, 0)) := set5 h ho a0 a1 a2 a3 a4
  exact ⟨⟨cur, t, a0, a1, a2, a3, a4, h, ho, hg⟩, five_at cur.toList o (by simpa using ho) hg⟩
theorem write5_ne (W : World) (B o : Nat) (a0 a1 a2 a3 a4 : Value) {k : Nat} (h : k ≠ B) : (write5 W B o a0 a1 a2 a3 a4).heap[k]? = W.heap[k]? := set5W_ne _ _ _ _ _ _ _ _ _ _ _ _ h
theorem write5_size (W : World) (B o : Nat) (a0 a1 a2 a3 a4 : Value) : (write5 W B o a0 a1 a2 a3 a4).heap.size = W.heap.size := set5W_size _ _ _ _ _ _ _ _ _ _ _ _
theorem write5_below {w W : World} {C B : Nat} (hb : Below C w W) (h : C ≤ B) (o : Nat) (a0 a1 a2 a3 a4 : Value) : Below C w (write5 W B o a0 a1 a2 a3 a4) := set5W_below hb h _ _ _ _ _ _ _ _ _ _
/-- a value is written at a place: the whole has it. -/
theorem Spot.write {z R : Nat} {w W : World} {B o : Nat} {u : V} {ul uf : Value} {F : V → V} (h : Spot z R w B o u ul uf F) {m : Nat} {x : V} {lx fx : Value} (hW : ∀ b, z ≤ b → b ≠ B → b < w.heap.size → W.heap[b]? = w.heap[b]?) (hs : Same5 w W B o) (ha : At m W B o x lx fx) :
    ∃ M l f, At M W R 0 (F x) l f := by
  obtain ⟨n, okn, keep, h⟩ := h
  exact h.ctx _ m x lx fx (fun b hb => hW b (h.keeps b hb).1 (fun e => h.apart (e ▸ hb)) (h.keeps b hb).2) hs ha
/-- where a copy lies. -/
theorem spot_new {z : Nat} {W : World} {B : Nat} {n : Nat} {ok : Nat → Prop} {u : V} {ul uf : Value} {t : Nat} (h : W.heap[B]? = some (.cells #[.int .i64 u.kind, .int .i64 u.num, .string u.text, ul, uf] t (0, 0))) (ho : Own n ok W u ul uf) (hb : ∀ b, ok b → b ≠ B ∧ z ≤ b ∧ b < W.heap.size) (hB : z ≤ B) :
    Spot z B W B 0 u ul uf (fun x => x) := by
  obtain ⟨a0, a1, a2, a3, a4, _⟩ := row5 h
  exact ⟨n, ok, fun _ => False, ⟨⟨a0, a1, a2, a3, a4, ho.rep.lies⟩, ho, ⟨_, _, h, by simp⟩, fun W' m x lx fx _ _ ha => ⟨m, lx, fx, ha⟩, fun b hb' => ⟨fun h => h, hb b hb'⟩, fun h => h, fun b h => absurd h id, hB, hB⟩⟩

/-- names rise, and there is room, so deep. -/
def Fit (N : Nat) : Nat → V → Prop
  | 0, _ => True
  | n + 1, v => Rises v.fields ∧ v.fields.length ≤ N ∧ (∀ x ∈ v.list, Fit N n x) ∧ ∀ p ∈ v.fields, Fit N n p.2
theorem fit_obj (N : Nat) : ∀ n, Fit N n objE
  | 0 => trivial
  | n + 1 => ⟨trivial, Nat.zero_le _, fun _ h => (by cases h), fun _ h => (by cases h)⟩

theorem put_field {v y : V} {p q : ByteArray} {j : Nat} (hk : v.kind = 5) (hr : Rises v.fields) (hw : whereI (isName p) v.fields = (j : Nat)) (hj : v.fields[j]? = some (q, y)) (ps : List ByteArray) (x : V) :
    putP v (p :: ps) x = (putP y ps x).map fun z => { v with fields := v.fields.set j (q, z) } := by
  rcases where_name p v.fields with ⟨h1, h2⟩ | ⟨j', q', y', h1, h2, h3, h4, _⟩
  · rw [h1] at hw; omega
  · obtain rfl : j' = j := by rw [h1] at hw; omega
    rw [hj] at h2
    cases h2
    show (if v.kind = 5 then _ else _) = _
    rw [if_pos hk, h3]
    have : ∀ z, setF p z v.fields = v.fields.set j' (q, z) := fun z => by rw [← h4, repl_set hr (by rw [h3]; rfl)]
    simp only [Option.getD_some, this]
theorem put_list {v y : V} {p : ByteArray} {j : Nat} (hk : v.kind = 4) (hp : placeOf p = some j) (hj : v.list[j]? = some y) (ps : List ByteArray) (x : V) :
    putP v (p :: ps) x = (putP y ps x).map fun z => { v with list := v.list.set j z } := by
  show (if v.kind = 5 then _ else if v.kind = 4 then _ else _) = _
  rw [if_neg (by omega), if_pos hk, hp, Option.bind_some, hj, Option.bind_some]
theorem put_made {v : V} {p : ByteArray} {j : Nat} (hk : v.kind = 5) (hn : getF p v.fields = none) (ha : aboveI p v.fields = (j : Nat)) (ps : List ByteArray) (x : V) :
    putP v (p :: ps) x = (putP objE ps x).map fun z => { v with fields := (insF p objE v.fields).set j (p, z) } := by
  show (if v.kind = 5 then _ else _) = _
  rw [if_pos hk, hn]
  have : ∀ z, setF p z v.fields = (insF p objE v.fields).set j (p, z) := fun z => by
    rw [← ins_set hn]
    obtain ⟨j1, a1, a2, a3⟩ := where_above p z v.fields
    obtain ⟨j2, b1, b2, b3⟩ := where_above p objE v.fields
    obtain rfl : j1 = j := by rw [a1] at ha; omega
    obtain rfl : j2 = j1 := by rw [b1] at ha; omega
    rw [a3, b3]
    have hl : (v.fields.take j2).length = j2 := by rw [List.length_take]; omega
    rw [List.set_append_right _ _ (by omega), hl, Nat.sub_self]
    rfl
  simp only [Option.getD_none, this]
theorem put_no {v : V} {p : ByteArray} (h5 : ¬ v.kind = 5) (ha : atP v p = none) (ps : List ByteArray) (x : V) : putP v (p :: ps) x = none := by
  show (if v.kind = 5 then _ else if v.kind = 4 then _ else _) = _
  rw [if_neg h5]
  by_cases h4 : v.kind = 4
  · rw [if_pos h4]
    rw [at4 h4] at ha
    rcases hp : placeOf p with _ | i
    · rfl
    · rw [hp, Option.bind_some] at ha
      rw [Option.bind_some, ha]; rfl
  · rw [if_neg h4]
end Go.Proofs.YtgcccihnlecpnaaGreatDoor
