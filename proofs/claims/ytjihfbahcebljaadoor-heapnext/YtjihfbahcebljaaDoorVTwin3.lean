/-
  package twin's Value by its contract. No conditions beyond those stated.
-/
import Derived.Test.YtjihfbahcebljaaDoorVTwin2
namespace Go.Proofs.YtjihfbahcebljaaDoor
open Go.RowKit

theorem bcell {W w1 : World} (hb : Below W.heap.size W w1) : (∀ b o, b < W.heap.size → w1.cell? ⟨b, o, none⟩ = W.cell? ⟨b, o, none⟩) ∧ (∀ b o, b < W.heap.size → w1.frozen? ⟨b, o, none⟩ = W.frozen? ⟨b, o, none⟩) :=
  ⟨fun b o h => hb.cell (p := ⟨b, o, none⟩) h, fun b o h => hb.frozen (p := ⟨b, o, none⟩) h⟩

theorem row5 {W : World} {B t : Nat} {a0 a1 a2 a3 a4 : Value} (h : W.heap[B]? = some (.cells #[a0, a1, a2, a3, a4] t (0, 0))) :
    W.cell? ⟨B, 0, none⟩ = some a0 ∧ W.cell? ⟨B, 1, none⟩ = some a1 ∧ W.cell? ⟨B, 2, none⟩ = some a2 ∧ W.cell? ⟨B, 3, none⟩ = some a3 ∧ W.cell? ⟨B, 4, none⟩ = some a4 ∧ ∀ j, W.frozen? ⟨B, j, none⟩ = false := by
  simp [World.cell?, World.frozen?, h]
theorem row6 {W : World} {B t : Nat} {a0 a1 a2 a3 a4 a5 : Value} (h : W.heap[B]? = some (.cells #[a0, a1, a2, a3, a4, a5] t (0, 0))) :
    W.cell? ⟨B, 0, none⟩ = some a0 ∧ W.cell? ⟨B, 1, none⟩ = some a1 ∧ W.cell? ⟨B, 2, none⟩ = some a2 ∧ W.cell? ⟨B, 3, none⟩ = some a3 ∧ W.cell? ⟨B, 4, none⟩ = some a4 ∧ W.cell? ⟨B, 5, none⟩ = some a5 ∧ ∀ j, W.frozen? ⟨B, j, none⟩ = false := by
  simp [World.cell?, World.frozen?, h]
theorem heap_alloc2_old {w : World} {o1 o2 : Obj} : ((w.alloc o1).alloc o2).heap[w.heap.size]? = some o1 := by
  rw [Below.heap_alloc (w.alloc o1) o2 w.heap.size (by simp)]; exact heap_alloc_new w _
theorem heap_alloc2_new {w : World} {o1 o2 : Obj} : ((w.alloc o1).alloc o2).heap[w.heap.size + 1]? = some o2 := by
  have := heap_alloc_new (w.alloc o1) o2
  simpa using this

/-- a copy of a value: its fields' row is apart from all else. -/
def CopyV (m : Nat) (w w' : World) (v : V) (l' f' : Value) : Prop :=
  ∃ B, w.heap.size ≤ B ∧ (∃ es : List El, es.map El.v = v.list ∧ RowAt (fun k => w.heap.size ≤ k ∧ k ≠ B) w' 38 5 l' es.length (encEs es) ∧ ∀ e ∈ es, Rep (fun k => w.heap.size ≤ k ∧ k ≠ B) m w' e.v e.l e.f) ∧
    (∃ fs : List Fl, fs.map Fl.pair = v.fields ∧ RowAt (fun k => k = B) w' 75 6 f' fs.length (encFs fs) ∧ (∀ a n c, f' = .slice a n c → c = n) ∧ ∀ e ∈ fs, Rep (fun k => w.heap.size ≤ k ∧ k ≠ B) m w' e.v e.l e.f)
theorem CopyV.rep {m : Nat} {w w' : World} {v : V} {l' f' : Value} (h : CopyV m w w' v l' f') : Rep (fun k => w.heap.size ≤ k) (m + 1) w' v l' f' := by
  obtain ⟨B, hB, ⟨es, e1, e2, e3⟩, ⟨fs, f1, f2, _, f3⟩⟩ := h
  exact ⟨⟨es, e1, e2.move fun b hb _ => ⟨hb.1, rfl⟩, fun e he => (e3 e he).move fun b hb _ => ⟨hb.1, rfl⟩⟩, ⟨fs, f1, f2.move fun b hb _ => ⟨by omega, rfl⟩, fun e he => (f3 e he).move fun b hb _ => ⟨hb.1, rfl⟩⟩⟩

set_option maxHeartbeats 1000000 in
theorem twinValue_step (n m : Nat) (v : V) (l f : Value) (w : World) (xs : List El) (fs : List Fl) (ea : xs.map El.v = v.list) (ef : fs.map Fl.pair = v.fields)
    (hxs : RowAt (fun _ => True) w 38 5 l xs.length (encEs xs)) (hfs : RowAt (fun _ => True) w 75 6 f fs.length (encFs fs)) (lx : ∀ e ∈ xs, Lies n w e.v e.l e.f) (lf : ∀ e ∈ fs, Lies n w e.v e.l e.f)
    (hv : ∀ (u : V) (ul uf : Value) (W : World), Lies n W u ul uf → (∃ W0, Lies n W0 u ul uf ∧ ((∃ e ∈ xs, e.v = u) ∨ (∃ e ∈ fs, e.v = u))) → Calls Tryd.prog 21 #[.agg #[.int .i64 u.kind, .int .i64 u.num, .string u.text, ul, uf]] W fun r w' => ∃ l' f', r = .returned (.agg #[.int .i64 u.kind, .int .i64 u.num, .string u.text, l', f']) ∧ Rep (fun k => W.heap.size ≤ k) m w' u l' f' ∧ Below W.heap.size W w') :
    Calls Tryd.prog 21 #[.agg #[.int .i64 v.kind, .int .i64 v.num, .string v.text, l, f]] w fun r w' => ∃ l' f', r = .returned (.agg #[.int .i64 v.kind, .int .i64 v.num, .string v.text, l', f']) ∧ CopyV m w w' v l' f' ∧ Below w.heap.size w w' := by
  have hL : ∀ W, Below w.heap.size w W → Calls Tryd.prog 28 #[l] W fun r w' => ∃ l', r = .returned l' ∧ CopyL m W w' xs l' ∧ Below W.heap.size W w' := by
    intro W hW
    have hm : ∀ b, True → b < w.heap.size → True ∧ W.heap[b]? = w.heap[b]? := fun b _ h => ⟨trivial, hW.block b h⟩
    exact twinList_any n m xs l W (hxs.move hm) (fun e he => (lx e he).below hW) fun e he W' hW' => hv e.v e.l e.f W' ((lx e he).below (hW.trans (hW'.mono hW.size))) ⟨w, lx e he, .inl ⟨e, he, rfl⟩⟩
  have hF : ∀ W, Below w.heap.size w W → Calls Tryd.prog 29 #[f] W fun r w' => ∃ l', r = .returned l' ∧ CopyF m W w' fs l' ∧ Below W.heap.size W w' := by
    intro W hW
    have hm : ∀ b, True → b < w.heap.size → True ∧ W.heap[b]? = w.heap[b]? := fun b _ h => ⟨trivial, hW.block b h⟩
    exact twinFields_any n m fs f W (hfs.move hm) (fun e he => (lf e he).below hW) fun e he W' hW' => hv e.v e.l e.f W' ((lf e he).below (hW.trans (hW'.mono hW.size))) ⟨w, lf e he, .inr ⟨e, he, rfl⟩⟩
  obtain ⟨a1, c1, rfl⟩ := hxs.slice
  obtain ⟨a3, c3, rfl⟩ := hfs.slice
  have hB : ∀ (o1 o2 : Obj), Below w.heap.size w ((w.alloc o1).alloc o2) := fun o1 o2 => ((Below.refl _ _).alloc (Nat.le_refl _) _).alloc (by simp) _
  clear hxs hfs lx lf hv
  go_enter Tryd.func21, Tryd.ntmps21
  go_wp2_with fail
  refine (hL _ (hB _ _)).mono ?_
  rintro e w1 ⟨l', rfl, hcl, hb1⟩
  obtain ⟨es', e1, e2, e3⟩ := hcl
  obtain ⟨al', cl', rfl⟩ := e2.slice
  have r1 := (hb1.block w.heap.size (by simp; omega)).trans heap_alloc2_old
  have q1 := (hb1.block (w.heap.size + 1) (by simp)).trans heap_alloc2_new
  have hB1 : Below w.heap.size w w1 := (hB _ _).trans (hb1.mono (hB _ _).size)
  have hBs : ∀ u, Below w.heap.size w (w1.setCell ⟨w.heap.size, 3, none⟩ u) := fun u => hB1.setCell (Nat.le_refl _) u
  obtain ⟨p0, p1, p2, p3, p4, pf⟩ := row5 r1
  have S := (show Aside _ from And.intro hb1 (And.intro e2 (And.intro e3 (And.intro r1 q1))))
  clear e2 e3 hb1 r1 q1
  go_wp2_with fail
  refine (hF _ (hBs _)).mono ?_
  rintro e w2 ⟨f', rfl, hcf, hb2⟩
  obtain ⟨fs', f1, f2, f3, f4⟩ := hcf
  obtain ⟨af', cf', rfl⟩ := f2.slice
  obtain ⟨hb1, e2, e3, r1, q1⟩ := S.out
  have hz1 : w.heap.size + 1 < w1.heap.size := lt_of_heap q1
  have r2 := (hb2.block w.heap.size (by simp; omega)).trans (setCell_row r1 (i := 3) _)
  have q2 := ((hb2.block (w.heap.size + 1) (by simp; omega)).trans (heap_setCell_ne _ _ _ (by simp))).trans q1
  rw [show (#[Value.int .i64 v.kind, .int .i64 v.num, .string v.text, .slice a1 xs.length c1, .slice a3 fs.length c3].setIfInBounds 3 (.slice al' es'.length cl')) = #[Value.int .i64 v.kind, .int .i64 v.num, .string v.text, .slice al' es'.length cl', .slice a3 fs.length c3] from rfl] at r2
  obtain ⟨k0, k1, k2, k3, k4, kf⟩ := row5 r2
  obtain ⟨o0, o1, o2, o3, o4, of⟩ := row5 q2
  have T := (show Aside _ from And.intro hb2 (And.intro f2 (And.intro f3 f4)))
  clear f2 f3 f4 hb2 p0 p1 p2 p3 p4 pf r1 q1 r2 q2 hb1 e2 e3
  go_wp2
  refine bodyPost_ret (v := .agg #[.int .i64 v.kind, .int .i64 v.num, .string v.text, .slice al' es'.length cl', .slice af' fs'.length cf']) (by simp [results, Tryd.results21, go_sem, o0, o1, o2, o3, o4]) rfl ⟨_, _, rfl, ?_, ?_⟩
  · obtain ⟨hb1, e2, e3, r1, q1⟩ := S.out
    obtain ⟨hb2, f2, f3, f4⟩ := T.out
    generalize hFW : (((((w2.setCell ⟨w.heap.size, 4, none⟩ (.slice af' fs'.length cf')).setCell ⟨w.heap.size + 1, 0, none⟩ (.int .i64 v.kind)).setCell ⟨w.heap.size + 1, 1, none⟩ (.int .i64 v.num)).setCell ⟨w.heap.size + 1, 2, none⟩ (.string v.text)).setCell ⟨w.heap.size + 1, 3, none⟩ (.slice al' es'.length cl')).setCell ⟨w.heap.size + 1, 4, none⟩ (.slice af' fs'.length cf') = FW
    have hfin : ∀ b, b ≠ w.heap.size → b ≠ w.heap.size + 1 → FW.heap[b]? = w2.heap[b]? := by
      intro b h1 h2
      rw [← hFW, heap_setCell_ne _ _ _ h2, heap_setCell_ne _ _ _ h2, heap_setCell_ne _ _ _ h2, heap_setCell_ne _ _ _ h2, heap_setCell_ne _ _ _ h2, heap_setCell_ne _ _ _ h1]
    simp only [World.size_setCell, World.size_alloc] at e2 e3 f2 f4 hb2
    have hold : ∀ b, w.heap.size + 1 < b → b < w1.heap.size → FW.heap[b]? = w1.heap[b]? := by
      intro b h1 h2
      rw [hfin b (by omega) (by omega), hb2.block b h2, heap_setCell_ne _ _ _ (by simp; omega)]
    refine ⟨w1.heap.size, hB1.size, ⟨es', e1.trans ea, e2.move fun b hb hl => ⟨⟨by omega, by omega⟩, hold b (by omega) hl⟩, fun e he => (e3 e he).move fun b hb hl => ⟨⟨by omega, by omega⟩, hold b (by omega) hl⟩⟩,
      ⟨fs', f1.trans ef, f2.move fun b hb hl => ⟨hb, hfin b (by omega) (by omega)⟩, f3, fun e he => (f4 e he).move fun b hb hl => ⟨⟨by omega, by omega⟩, hfin b (by omega) (by omega)⟩⟩⟩
  · have hB2 : Below w.heap.size w w2 := (hBs _).trans (T.out.1.mono (hBs _).size)
    exact ((((((hB2.setCell (Nat.le_refl _) _).setCell (Nat.le_succ _) _).setCell (Nat.le_succ _) _).setCell (Nat.le_succ _) _).setCell (Nat.le_succ _) _).setCell (Nat.le_succ _) _)

theorem twinValue_any : ∀ (n : Nat) (v : V) (l f : Value) (w : World), Lies n w v l f →
    Calls Tryd.prog 21 #[.agg #[.int .i64 v.kind, .int .i64 v.num, .string v.text, l, f]] w fun r w' => ∃ l' f', r = .returned (.agg #[.int .i64 v.kind, .int .i64 v.num, .string v.text, l', f']) ∧ CopyV n w w' v l' f' ∧ Below w.heap.size w w'
  | 0, v, l, f, w, ⟨h1, h2, h3, h4⟩ => by
    subst h3 h4
    refine twinValue_step 0 0 v _ _ w [] [] h1.symm h2.symm RowAt.nil RowAt.nil (fun e he => by cases he) (fun e he => by cases he) ?_
    rintro u ul uf W _ ⟨_, _, ⟨e, he, _⟩ | ⟨e, he, _⟩⟩
    · cases he
    · cases he
  | n + 1, v, l, f, w, ⟨⟨xs, e1, e2, e3⟩, ⟨fs, f1, f2, f3⟩⟩ =>
    twinValue_step n (n + 1) v l f w xs fs e1 f1 e2 f2 e3 f3 fun u ul uf W hu _ => (twinValue_any n u ul uf W hu).mono fun _ _ ⟨l', f', h1, h2, h3⟩ => ⟨l', f', h1, h2.rep, h3⟩
end Go.Proofs.YtjihfbahcebljaaDoor
