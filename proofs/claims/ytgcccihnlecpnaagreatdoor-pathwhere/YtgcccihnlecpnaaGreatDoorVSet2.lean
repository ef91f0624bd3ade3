/-
  package value's Set of a field that is there, by its contract. No conditions beyond those stated.
-/
import Derived.Test.YtgcccihnlecpnaaGreatDoorVSet
namespace Go.Proofs.YtgcccihnlecpnaaGreatDoor
open Go.RowKit

theorem below_of_drew {w W : World} (h : Below w.drew.heap.size w.drew W) : Below w.heap.size w W := ⟨h.os, h.tape, h.output, h.size, h.block⟩

/-- what is there when a field's value was written in place. -/
theorem set_there_rep {n : Nat} {v x : V} {w w1 w2 w3 : World} {o : Obj} {B j z : Nat} {q : ByteArray} {y : V} {es : List El} {fs : List Fl} {cur : Array Value} {l lx fx a0 a1 a2 a3 a4 : Value}
    (e2 : RowAt (fun k => z ≤ k ∧ k ≠ B) w1 28 5 l es.length (encEs es)) (e3 : ∀ e ∈ es, Rep (fun k => z ≤ k ∧ k ≠ B) n w1 e.v e.l e.f) (f4 : ∀ e ∈ fs, Rep (fun k => z ≤ k ∧ k ≠ B) n w1 e.v e.l e.f)
    (hb2 : Below (w1.alloc o).heap.size (w1.alloc o) w2) (hb3 : Below w2.heap.size w2 w3) (c3 : w3.heap[B]? = some (.cells cur 44 (0, 0))) (hrx : Rep (fun k => w2.drew.heap.size ≤ k) (n + 1) w3 x lx fx)
    (e1 : es.map El.v = v.list) (f1 : fs.map Fl.pair = v.fields) (hfl : fs.length = v.fields.length) (hnl : v.fields.length ≤ 1000000) (hcur : cur.toList = encFs fs) (hjy : v.fields[j]? = some (q, y)) (zB : B < w1.heap.size) (zB3 : w.heap.size + 1 + 1 < B) (_hz : w.heap.size ≤ w1.heap.size) (hzz : w.heap.size + 3 ≤ z := by simp) :
    Rep (fun k => w.heap.size ≤ k) (n + 2) (set5W (set5W w3 B (j * 6 + 1) (j * 6 + 2) (j * 6 + 3) (j * 6 + 4) (j * 6 + 5) (.int .i64 x.kind) (.int .i64 x.num) (.string x.text) lx fx) (w.heap.size + 1 + 1) 0 1 2 3 4 a0 a1 a2 a3 a4)
      { kind := 5, num := v.num, text := v.text, list := v.list, fields := v.fields.set j (q, x) } l (.slice (some ⟨B, 0, none⟩) v.fields.length v.fields.length) := by
  obtain ⟨e, he, hq⟩ : ∃ e, fs[j]? = some e ∧ e.name = q := by
    rw [← f1, List.getElem?_map] at hjy
    obtain ⟨⟨q', x', xl, xf⟩, h1, h2⟩ := Option.map_eq_some_iff.1 hjy
    simp only [Fl.pair, Prod.mk.injEq] at h2
    exact ⟨_, h1, h2.1⟩
  obtain ⟨cur', hc1, hc2⟩ := row_set c3 hcur he x lx fx
  generalize hW : set5W (set5W w3 B (j * 6 + 1) (j * 6 + 2) (j * 6 + 3) (j * 6 + 4) (j * 6 + 5) (.int .i64 x.kind) (.int .i64 x.num) (.string x.text) lx fx) (w.heap.size + 1 + 1) 0 1 2 3 4 a0 a1 a2 a3 a4 = W
  have n5 : ∀ b, b ≠ B → b ≠ w.heap.size + 1 + 1 → W.heap[b]? = w3.heap[b]? := fun b h1 h2 => by rw [← hW, set5W_ne _ _ _ _ _ _ _ _ _ _ _ _ h2, set5W_ne _ _ _ _ _ _ _ _ _ _ _ _ h1]
  have nB : W.heap[B]? = some (.cells cur' 44 (0, 0)) := by rw [← hW, set5W_ne _ _ _ _ _ _ _ _ _ _ _ _ (by omega)]; exact hc1
  have hz2 : w1.heap.size < w2.heap.size := by have := hb2.size; simp at this; omega
  have old : ∀ b, (z ≤ b ∧ b ≠ B) → b < w1.heap.size → W.heap[b]? = w1.heap[b]? := fun b h1 h2 => by
    rw [n5 b h1.2 (by omega), hb3.block b (by omega), hb2.block b (by simp; omega), Below.heap_alloc w1 o b h2]
  have hl' : (fs.set j ⟨q, x, lx, fx⟩).length = v.fields.length := by rw [List.length_set, hfl]
  refine ⟨⟨es, e1, e2.move fun b h1 h2 => ⟨by omega, old b h1 h2⟩, fun e he => ((e3 e he).move fun b h1 h2 => ⟨by omega, old b h1 h2⟩ : Rep _ n W _ _ _).up⟩, ⟨fs.set j ⟨q, x, lx, fx⟩, ?_, ?_, fun u hu => ?_⟩⟩
  · rw [List.map_set, f1]; rfl
  · have hs : cur'.size = v.fields.length * 6 := by rw [← Array.length_toList, hc2, encFs_length, List.length_set, hfl]
    rw [hl', ← hq]
    refine ⟨⟨by rw [encFs_length, List.length_set, hfl], .inr ⟨B, _, cur', rfl, Nat.zero_le _, nB, Nat.le_refl _, by unfold maxLen; omega, hs, ?_⟩⟩, hnl, fun b hb => by cases hb; show w.heap.size ≤ B; omega⟩
    rw [← hs, ← Array.length_toList, List.take_length, hc2]
  · rcases List.mem_or_eq_of_mem_set hu with hu | rfl
    · exact ((f4 u hu).move fun b h1 h2 => ⟨by omega, old b h1 h2⟩ : Rep _ n W _ _ _).up
    · refine hrx.move fun b h1 h2 => ?_
      have h1' : w2.heap.size ≤ b := h1
      exact ⟨by omega, n5 b (by omega) (by omega)⟩

set_option maxHeartbeats 2000000 in
theorem Set_there (n : Nat) (v x : V) (l f xl xf : Value) (name : ByteArray) (w : World) (hv : Lies n w v l f) (hx : Lies n w x xl xf) (hk : v.kind = 5) (j : Nat) (q : ByteArray) (y : V) (hj : whereI (isName name) v.fields = j) (hjy : v.fields[j]? = some (q, y)) :
    Calls Tryz.prog 39 #[.agg #[.int .i64 v.kind, .int .i64 v.num, .string v.text, l, f], .string name, .agg #[.int .i64 x.kind, .int .i64 x.num, .string x.text, xl, xf]] w fun r w' => ∃ l' f', r = .returned (.agg #[.int .i64 v.kind, .int .i64 v.num, .string v.text, l', f']) ∧ GotV (n + 2) w w' { v with fields := v.fields.set j (q, x) } l' f' := by
  have hB : ∀ (o1 o2 o3 : Obj), Below w.heap.size w (((w.alloc o1).alloc o2).alloc o3) := fun o1 o2 o3 => (((Below.refl _ _).alloc (Nat.le_refl _) _).alloc (by simp) _).alloc (by simp; omega) _
  have hcall := fun W (hW : Below w.heap.size w W) => twinValue_any n v l f W (hv.below hW)
  have hcallx := fun W (hW : Below w.heap.size w W) => twinValue_any n x xl xf W (hx.below hW)
  have hplace := fun W (hW : Below w.heap.size w W) => place_any n v l f name W (Rep.up (hv.below hW))
  simp only [hk, if_true, hj] at hplace
  obtain ⟨a1, c1, a3, c3, rfl, rfl⟩ := Rep.slices hv
  obtain ⟨a5, c5, a7, c7, rfl, rfl⟩ := Rep.slices hx
  have hjl : j < v.fields.length := (List.getElem?_eq_some_iff.1 hjy).1
  have zj : (j : Int) < (v.fields.length : Int) := by omega
  rw [hk] at hcall ⊢
  clear hv hx hj
  go_enter Tryz.func39, Tryz.ntmps39
  go_wp2_with fail
  refine (hcall _ (hB _ _ _)).mono ?_
  rintro e w1 ⟨l', f', rfl, hcp, hb1⟩
  have hrep := hcp.rep
  obtain ⟨al', cl', af', cf', rfl, rfl⟩ := hrep.slices
  obtain ⟨B, hBB, ⟨es, e1, e2, e3⟩, ⟨fs, f1, f2, f3, f4⟩⟩ := hcp
  have hfl : fs.length = v.fields.length := by rw [← f1, List.length_map]
  rw [hfl] at f2
  obtain ⟨hsl, cur, hcg, hcur⟩ := f2.full f3 (.inl (by omega))
  have hnl : v.fields.length ≤ 1000000 := f2.2.1
  simp only [Value.slice.injEq, true_and] at hsl
  obtain ⟨rfl, rfl⟩ := hsl
  have p1 := row_below hb1 heap_alloc3_0
  have r1 := row_below hb1 heap_alloc3_1
  have q1 := row_below hb1 heap_alloc3_2
  obtain ⟨k0, k1, k2, k3, k4, kf⟩ := row5 p1
  have hz1 : w.heap.size + 2 < w1.heap.size := lt_of_heap q1
  have hz2 : w.heap.size < w1.heap.size := lt_of_heap p1
  have hB1 : Below w.heap.size w w1 := (hB _ _ _).trans (hb1.mono (hB _ _ _).size)
  have hB1a : ∀ o, Below w.heap.size w (w1.alloc o) := fun o => hB1.alloc (by omega) _
  have S := (show Hid _ from And.intro hb1 (And.intro e2 (And.intro e3 (And.intro f4 (And.intro hcg (And.intro p1 (And.intro r1 q1)))))))
  clear hrep hb1 e2 e3 f2 f3 f4 hcg p1 r1 q1
  go_wp2_with fail
  refine (hplace _ (hB1a _)).mono ?_
  rintro e w2 ⟨rfl, hb2⟩
  obtain ⟨hb1, e2, e3, f4, hcg, p1, r1, q1⟩ := S.out
  have hl1 : ∀ (o : Obj) (b : Nat), b < w1.heap.size → (w1.alloc o).heap[b]? = w1.heap[b]? := fun o b h => Below.heap_alloc w1 o b h
  have g2 := row_below hb2 (heap_alloc_new w1 _)
  have r2 := row_below hb2 ((hl1 _ _ (lt_of_heap r1)).trans r1)
  have q2 := row_below hb2 ((hl1 _ _ (lt_of_heap q1)).trans q1)
  have c2 := row_below hb2 ((hl1 _ _ (lt_of_heap hcg)).trans hcg)
  obtain ⟨x0, x1, x2, x3, x4, xfz⟩ := row5 r2
  obtain ⟨u0, u1, u2, u3, u4, ufz⟩ := row5 g2
  have hB2 : Below w.heap.size w w2 := (hB1a _).trans (hb2.mono (hB1a _).size)
  have hB2d : Below w.heap.size w w2.drew := hB2.drew
  have T := (show Hid _ from And.intro hb2 (And.intro g2 (And.intro q2 c2)))
  have zw2 : w1.heap.size < w2.heap.size := lt_of_heap g2
  have zB : B < w1.heap.size := lt_of_heap hcg
  have zB3 : w.heap.size + 1 + 1 < B := by simp at hBB; omega
  have zB4 : w.heap.size + 1 < B := by omega
  clear hb1 e2 e3 f4 hcg p1 r1 q1 hb2 g2 r2 q2 c2 k0 k1 k2 k3 k4 kf
  go_wp2_with fail
  go_region_with (go_at_call 19; refine (hcallx _ hB2d).mono ?_; rintro e w3 ⟨lx, fx, rfl, hcx, hb3⟩; have hrx := hcx.rep; obtain ⟨bl, dl, bf, df, rfl, rfl⟩ := hrx.slices; obtain ⟨hb2, g2, q2, c2⟩ := T.out; have hb3' := below_of_drew hb3; have g3 := row_below hb3' g2; have q3 := row_below hb3' q2; have c3 := row_below hb3' c2; obtain ⟨o0, o1, o2, o3, o4, ofz⟩ := row5 q3; obtain ⟨y0, y1, y2, y3, y4, yfz⟩ := row5 g3; have hs3 : cur.size = v.fields.length * 6 := (by rw [← Array.length_toList, hcur, encFs_length, hfl]); obtain ⟨m1, n1⟩ := cell_row c3 (i := j * 6 + 1) (by omega); obtain ⟨m2, n2⟩ := cell_row c3 (i := j * 6 + 2) (by omega); obtain ⟨m3, n3⟩ := cell_row c3 (i := j * 6 + 3) (by omega); obtain ⟨m4, n4⟩ := cell_row c3 (i := j * 6 + 4) (by omega); obtain ⟨m5, n5⟩ := cell_row c3 (i := j * 6 + 5) (by omega); have nf := frozen_row c3; have U := (show Hid _ from And.intro hrx (And.intro hb3' (And.intro q3 c3))); have zw3 : w1.heap.size < w3.heap.size := lt_of_heap g3; clear hcx hrx hb3 hb3' hb2 g2 q2 c2 g3 q3 c3 hs3)
  all_goals
    go_wp2
    refine bodyPost_ret (v := .agg #[.int .i64 5, .int .i64 v.num, .string v.text, .slice al' v.list.length cl', .slice (some ⟨B, 0, none⟩) v.fields.length v.fields.length]) (by simp [results, Tryz.results39, go_sem, o0, o1, o2, o3, o4]) rfl ⟨_, _, rfl, ?_, ?_⟩
    · exact set_there_rep S.out.2.1 S.out.2.2.1 S.out.2.2.2.1 T.out.1 U.out.2.1 U.out.2.2.2 U.out.1 e1 f1 hfl hnl hcur hjy zB zB3 hB1.size
    · have hB3 := hB2.trans (U.out.2.1.mono hB2.size)
      exact set5W_below (set5W_below hB3 (by omega) _ _ _ _ _ _ _ _ _ _) (by omega) _ _ _ _ _ _ _ _ _ _
end Go.Proofs.YtgcccihnlecpnaaGreatDoor
