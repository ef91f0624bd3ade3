/-
  package value's Del by its contract. No conditions beyond those stated.
-/
import Derived.Test.YtgcccihnlecpnaaGreatDoorVSet
namespace Go.Proofs.YtgcccihnlecpnaaGreatDoor
open Go.RowKit

set_option maxHeartbeats 1000000 in
theorem Del_none (n : Nat) (v : V) (l f : Value) (name : ByteArray) (w : World) (hv : Lies n w v l f) (hp : (if v.kind = 5 then whereI (isName name) v.fields else -1) = -1) :
    Calls Tryz.prog 25 #[.agg #[.int .i64 v.kind, .int .i64 v.num, .string v.text, l, f], .string name] w fun r w' => ∃ l' f', r = .returned (.tuple #[.agg #[.int .i64 v.kind, .int .i64 v.num, .string v.text, l', f'], .bool false]) ∧ GotV (n + 1) w w' v l' f' := by
  have hB : ∀ (o1 o2 : Obj), Below w.heap.size w ((w.alloc o1).alloc o2) := fun o1 o2 => ((Below.refl _ _).alloc (Nat.le_refl _) _).alloc (by simp) _
  have hcall := fun W (hW : Below w.heap.size w W) => twinValue_any n v l f W (hv.below hW)
  have hplace := fun W (hW : Below w.heap.size w W) => place_any n v l f name W (Rep.up (hv.below hW))
  rw [hp] at hplace
  obtain ⟨a1, c1, a3, c3, rfl, rfl⟩ := Rep.slices hv
  clear hv hp
  go_enter Tryz.func25, Tryz.ntmps25
  go_wp2_with fail
  refine (hcall _ (hB _ _)).mono ?_
  rintro e w1 ⟨l', f', rfl, hcp, hb1⟩
  have hrep := hcp.rep
  obtain ⟨al', cl', af', cf', rfl, rfl⟩ := hrep.slices
  have p1 := row_below hb1 heap_alloc2_old
  have q1 := row_below hb1 heap_alloc2_new
  obtain ⟨k0, k1, k2, k3, k4, kf⟩ := row5 p1
  have hz1 : w.heap.size + 1 < w1.heap.size := lt_of_heap q1
  have hz2 : w.heap.size < w1.heap.size := lt_of_heap p1
  have hB1 : Below w.heap.size w w1 := (hB _ _).trans (hb1.mono (hB _ _).size)
  have hB1a : ∀ o, Below w.heap.size w (w1.alloc o) := fun o => hB1.alloc (by omega) _
  have S := (show Hid _ from And.intro hrep (And.intro hb1 q1))
  clear hcp hrep hb1 p1 q1
  go_wp2_with fail
  refine (hplace _ (hB1a _)).mono ?_
  rintro e w2 ⟨rfl, hb2⟩
  have g2 := row_below hb2 (heap_alloc_new w1 _)
  have q2 := row_below hb2 ((Below.heap_alloc w1 _ _ (lt_of_heap S.out.2.2)).trans S.out.2.2)
  obtain ⟨u0, u1, u2, u3, u4, uf⟩ := row5 g2
  obtain ⟨o0, o1, o2, o3, o4, of⟩ := row5 q2
  have hB2 : Below w.heap.size w w2 := (hB1a _).trans (hb2.mono (hB1a _).size)
  have hb12 : Below w1.heap.size w1 w2 := ((Below.refl _ _).alloc (Nat.le_refl _) _).trans (hb2.mono (by simp))
  have T := (show Hid _ from hb12)
  clear g2 q2 hb2 hb12
  go_wp2
  refine bodyPost_ret (v := .tuple #[.agg #[.int .i64 v.kind, .int .i64 v.num, .string v.text, .slice al' v.list.length cl', .slice af' v.fields.length cf'], .bool false]) (by simp [results, Tryz.results25, go_sem, o0, o1, o2, o3, o4]) rfl ⟨_, _, rfl, ?_, ?_⟩
  · refine S.out.1.move fun b hb hl => ⟨by simp at hb; omega, ?_⟩
    refine (set5W_ne w2 (w.heap.size + 1) 0 1 2 3 4 _ _ _ _ _ (by simp at hb; omega)).trans ?_
    exact T.out.block b hl
  · exact set5W_below hB2 (by omega) 0 1 2 3 4 _ _ _ _ _

/-- what is there when a field was taken away. -/
theorem del_rep {n : Nat} {v : V} {w w1 w2 w3 : World} {B j z : Nat} {es : List El} {fs : List Fl} {cur' : Array Value} {l a0 a1 a2 a3 a4 u : Value}
    (e2 : RowAt (fun k => z ≤ k ∧ k ≠ B) w1 28 5 l es.length (encEs es)) (e3 : ∀ e ∈ es, Rep (fun k => z ≤ k ∧ k ≠ B) n w1 e.v e.l e.f) (f4 : ∀ e ∈ fs, Rep (fun k => z ≤ k ∧ k ≠ B) n w1 e.v e.l e.f)
    (hb12 : Below w1.heap.size w1 w2) (hg : w2.grownBy w3 (some B)) (c3 : w3.heap[B]? = some (.cells cur' 44 (0, 0))) (hs : cur'.size = fs.length * 6) (ht : cur'.toList.take ((fs.length - 1) * 6) = encFs (fs.take j ++ fs.drop (j + 1)))
    (e1 : es.map El.v = v.list) (f1 : fs.map Fl.pair = v.fields) (hnl : fs.length ≤ 1000000) (hj : j < fs.length) (zB : B < w1.heap.size) (zw : w1.heap.size < w2.heap.size) (hBz : z ≤ B) (_hz : w.heap.size ≤ w1.heap.size) (hzz : w.heap.size + 2 ≤ z := by simp) :
    Rep (fun k => w.heap.size ≤ k) (n + 1) (set5W (w3.setCell ⟨w1.heap.size, 4, none⟩ u) (w.heap.size + 1) 0 1 2 3 4 a0 a1 a2 a3 a4)
      { kind := 5, num := v.num, text := v.text, list := v.list, fields := v.fields.take j ++ v.fields.drop (j + 1) } l (.slice (some ⟨B, 0, none⟩) (fs.length - 1) fs.length) := by
  generalize hW : set5W (w3.setCell ⟨w1.heap.size, 4, none⟩ u) (w.heap.size + 1) 0 1 2 3 4 a0 a1 a2 a3 a4 = W
  have n5 : ∀ b, b ≠ w1.heap.size → b ≠ w.heap.size + 1 → W.heap[b]? = w3.heap[b]? := fun b h1 h2 => by rw [← hW, set5W_ne _ _ _ _ _ _ _ _ _ _ _ _ h2, heap_setCell_ne _ _ _ h1]
  have old : ∀ b, (z ≤ b ∧ b ≠ B) → b < w1.heap.size → W.heap[b]? = w1.heap[b]? := fun b h1 h2 => by
    rw [n5 b (by omega) (by omega), hg.block b (by omega) (fun e => h1.2 (Option.some.inj e)), hb12.block b h2]
  have hl' : (fs.take j ++ fs.drop (j + 1)).length = fs.length - 1 := by simp; omega
  refine ⟨⟨es, e1, e2.move fun b h1 h2 => ⟨by omega, old b h1 h2⟩, fun e he => (e3 e he).move fun b h1 h2 => ⟨by omega, old b h1 h2⟩⟩, ⟨fs.take j ++ fs.drop (j + 1), ?_, ?_, fun u hu => ?_⟩⟩
  · rw [← f1, List.map_append, List.map_take, List.map_drop]
  · rw [hl']
    exact ⟨⟨by rw [encFs_length, hl'], .inr ⟨B, _, cur', rfl, Nat.zero_le _, by rw [n5 B (by omega) (by omega)]; exact c3, by omega, by unfold maxLen; omega, hs, ht⟩⟩, by omega, fun b hb => by cases hb; show w.heap.size ≤ B; omega⟩
  · rcases List.mem_append.1 hu with hu | hu
    · exact (f4 u (List.mem_of_mem_take hu)).move fun b h1 h2 => ⟨by omega, old b h1 h2⟩
    · exact (f4 u (List.mem_of_mem_drop hu)).move fun b h1 h2 => ⟨by omega, old b h1 h2⟩

set_option maxHeartbeats 1000000 in
theorem Del_there (n : Nat) (v : V) (l f : Value) (name : ByteArray) (w : World) (hv : Lies n w v l f) (hk : v.kind = 5) (j : Nat) (hj : whereI (isName name) v.fields = j) (hjl : j < v.fields.length) :
    Calls Tryz.prog 25 #[.agg #[.int .i64 v.kind, .int .i64 v.num, .string v.text, l, f], .string name] w fun r w' => ∃ l' f', r = .returned (.tuple #[.agg #[.int .i64 v.kind, .int .i64 v.num, .string v.text, l', f'], .bool true]) ∧ GotV (n + 1) w w' { v with fields := v.fields.take j ++ v.fields.drop (j + 1) } l' f' := by
  have hB : ∀ (o1 o2 : Obj), Below w.heap.size w ((w.alloc o1).alloc o2) := fun o1 o2 => ((Below.refl _ _).alloc (Nat.le_refl _) _).alloc (by simp) _
  have hcall := fun W (hW : Below w.heap.size w W) => twinValue_any n v l f W (hv.below hW)
  have hplace := fun W (hW : Below w.heap.size w W) => place_any n v l f name W (Rep.up (hv.below hW))
  simp only [hk, if_true, hj] at hplace
  obtain ⟨a1, c1, a3, c3, rfl, rfl⟩ := Rep.slices hv
  rw [hk] at hcall ⊢
  have zj0 : ¬ (j : Int) < 0 := by omega
  clear hv hj
  go_enter Tryz.func25, Tryz.ntmps25
  go_wp2_with fail
  refine (hcall _ (hB _ _)).mono ?_
  rintro e w1 ⟨l', f', rfl, hcp, hb1⟩
  have hrep := hcp.rep
  obtain ⟨al', cl', af', cf', rfl, rfl⟩ := hrep.slices
  obtain ⟨B, hBB, ⟨es, e1, e2, e3⟩, ⟨fs, f1, f2, f3, f4⟩⟩ := hcp
  have hfl : fs.length = v.fields.length := by rw [← f1, List.length_map]
  rw [hfl] at f2
  obtain ⟨hsl, cur, hcg, hcur⟩ := f2.full f3 (.inl (by omega))
  have hnl : fs.length ≤ 1000000 := by rw [hfl]; exact f2.2.1
  simp only [Value.slice.injEq, true_and] at hsl
  obtain ⟨rfl, rfl⟩ := hsl
  have hone : ∀ u ∈ encFs fs, u.oneCell' = true := encFs_one fun e he => (f4 e he).shape
  have p1 := row_below hb1 heap_alloc2_old
  have q1 := row_below hb1 heap_alloc2_new
  obtain ⟨k0, k1, k2, k3, k4, kf⟩ := row5 p1
  have hz1 : w.heap.size + 1 < w1.heap.size := lt_of_heap q1
  have hz2 : w.heap.size < w1.heap.size := lt_of_heap p1
  have hB1 : Below w.heap.size w w1 := (hB _ _).trans (hb1.mono (hB _ _).size)
  have hB1a : ∀ o, Below w.heap.size w (w1.alloc o) := fun o => hB1.alloc (by omega) _
  have zB : B < w1.heap.size := lt_of_heap hcg
  have S := (show Hid _ from And.intro e2 (And.intro e3 (And.intro f4 (And.intro hcg q1))))
  clear hrep hb1 p1 q1 e2 e3 f2 f3 f4 hcg
  go_wp2_with fail
  refine (hplace _ (hB1a _)).mono ?_
  rintro e w2 ⟨rfl, hb2⟩
  have g2 := row_below hb2 (heap_alloc_new w1 _)
  have q2 := row_below hb2 ((Below.heap_alloc w1 _ _ (lt_of_heap S.out.2.2.2.2)).trans S.out.2.2.2.2)
  have c2 := row_below hb2 ((Below.heap_alloc w1 _ _ zB).trans S.out.2.2.2.1)
  obtain ⟨u0, u1, u2, u3, u4, uf⟩ := row5 g2
  have hB2 : Below w.heap.size w w2 := (hB1a _).trans (hb2.mono (hB1a _).size)
  have hb12 : Below w1.heap.size w1 w2 := ((Below.refl _ _).alloc (Nat.le_refl _) _).trans (hb2.mono (by simp))
  have zw2 : w1.heap.size < w2.heap.size := lt_of_heap g2
  have hdel := Delete_any fs B j w2 hone cur c2 hcur hnl (by omega)
  rw [hfl] at hdel
  have T := (show Hid _ from And.intro hb12 (And.intro g2 q2))
  have zj : (j : Int) ≤ 1000000 := by omega
  clear g2 q2 c2 hb2 hb12 k0 k1 k2 k3 k4 kf
  go_wp2_with fail
  refine hdel.mono ?_
  rintro e w3 ⟨rfl, ⟨cur', hc1, hc2, hc3⟩, hgr⟩
  obtain ⟨hb12, g2, q2⟩ := T.out
  have g3 := (hgr.block w1.heap.size zw2 (fun e => by have := Option.some.inj e; omega)).trans g2
  have q3 := (hgr.block (w.heap.size + 1) (by omega) (fun e => by have := Option.some.inj e; simp at hBB; omega)).trans q2
  obtain ⟨m0, m1, m2, m3, m4, mf⟩ := row5 g3
  obtain ⟨o0, o1, o2, o3, o4, of⟩ := row5 q3
  have U := (show Hid _ from And.intro hgr (And.intro hc1 (And.intro hc2 hc3)))
  clear hgr hc1 hc2 hc3 g3 q3 g2 q2 hb12 hdel u0 u1 u2 u3 u4 uf
  go_wp2
  refine bodyPost_ret (v := .tuple #[.agg #[.int .i64 5, .int .i64 v.num, .string v.text, .slice al' v.list.length cl', .slice (some ⟨B, 0, none⟩) (v.fields.length - 1) v.fields.length], .bool true]) (by simp [results, Tryz.results25, go_sem, o0, o1, o2, o3, o4]) rfl ⟨_, _, rfl, ?_, ?_⟩
  · obtain ⟨hgr, hc1, hc2, hc3⟩ := U.out
    rw [← hfl] at hc2 hc3 ⊢
    exact del_rep S.out.1 S.out.2.1 S.out.2.2.1 T.out.1 hgr hc1 hc2 hc3 e1 f1 hnl (by omega) zB zw2 hBB hB1.size
  · have hB3 : Below w.heap.size w w3 := hB2.grown U.out.1 hB2.size (fun k e => by have := Option.some.inj e; simp at hBB; omega)
    exact set5W_below (hB3.setCell (by simp; omega) _) (by omega) 0 1 2 3 4 _ _ _ _ _
end Go.Proofs.YtgcccihnlecpnaaGreatDoor
