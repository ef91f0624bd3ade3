/-
  A heap's Insert by its contract. Conditions: as stated.
-/
import Derived.Test.YtjihfbahcebljaaDoorHNext
import Derived.Deep.AppendLies
import Derived.Test.YtjihfbahcebljaaDoorVSnoc2
namespace Go.Proofs.YtjihfbahcebljaaDoor
open Go.RowKit

theorem infoD1 : (Tryd.prog.info? 46).map (fun i => (i.zero, i.size, i.bytes)) = some (some (.agg #[.int .i64 0, .int .i64 0, .int .i64 0, .string ⟨#[]⟩, .slice none 0 0, .slice none 0 0]), 6, 88) := by kernel_rfl
theorem kept_setCell {W : World} {B i : Nat} {u : Value} {cur : Array Value} (h : W.heap[B]? = some (.cells cur 57 (0, 0))) : Kept W (W.setCell ⟨B, i, none⟩ u) := by
  intro b o ho h1 _
  rw [heap_setCell_ne _ _ _ (fun e => h1 cur (by subst e; rw [h] at ho; exact (Option.some.inj ho).symm))]
  exact ho
theorem kept_docCell {W : World} {B i : Nat} {u : Value} {cur : Array Value} (h : W.heap[B]? = some (.cells cur 46 (0, 0))) : Kept W (W.setCell ⟨B, i, none⟩ u) := by
  intro b o ho _ h1
  rw [heap_setCell_ne _ _ _ (fun e => h1 cur (by subst e; rw [h] at ho; exact (Option.some.inj ho).symm))]
  exact ho
theorem kept_alloc (W : World) (o : Obj) : Kept W (W.alloc o) := below_kept ((Below.refl _ _).alloc (Nat.le_refl _) _)
theorem kept_grown {base : Nat} {W W' : World} {s : Value} {n : Nat} {xs : List Value} (h : W.ownsRow base 46 6 s n xs) (hg : W.grownBy W' s.ownBlock) : Kept W W' := by
  intro b o ho _ h2
  rw [hg.block b (lt_of_heap ho) (fun e => ?_)]
  · exact ho
  · rcases h.2 with ⟨rfl, _⟩ | ⟨g, cap, cur, rfl, _, hgg, _⟩
    · cases e
    · cases e
      rw [hgg] at ho
      exact h2 cur (Option.some.inj ho).symm
theorem below_grown {base : Nat} {w W W' : World} {s : Value} {n : Nat} {xs : List Value} (hb : Below base w W) (h : W.ownsRow base 46 6 s n xs) (hg : W.grownBy W' s.ownBlock) (hB : base ≤ W.heap.size) : Below base w W' :=
  hb.grown hg hB fun k hk => (h.lt k hk).1

section
variable {base B : Nat} {rs : List Rec} {last lo : Int}
attribute [local go_sem ↓] Go.wp_at_zero Go.wp_at_succ
set_option maxRecDepth 100000 in
set_option maxHeartbeats 8000000 in
theorem Insert_room (v : V) (l f : Value) (w : World) (h : HeapAt base w B rs last) (hv : Lies 3 w v l f) (hn : rs.length < 500) (hbase : base ≤ w.heap.size) (hl1 : -1 ≤ last) (hl2 : last ≤ 1000000000) :
    Calls Tryd.prog 18 #[.pointer (some ⟨B, 0, none⟩), .agg #[.int .i64 v.kind, .int .i64 v.num, .string v.text, l, f]] w
      fun e w' => e = .returned (.tuple #[.int .i64 (last + 1), .bool true]) ∧ HeapAt base w' B (rs ++ [(last + 1, v)]) (last + 1) ∧ Kept w w' ∧ Below base w w' := by
  obtain ⟨a1, c1, a2, c2, rfl, rfl⟩ := hv.slices
  obtain ⟨h0, s, ds, h1, h2, h3, h4⟩ := h
  obtain ⟨sa, sc, rfl⟩ := slice_of_row h3
  have hl : ds.length = rs.length := by rw [← h1, List.length_map]
  obtain ⟨n, hnd⟩ : ∃ n, ds.length = n := ⟨_, rfl⟩
  rw [hnd] at h2 h3
  have zn : ¬ (500 : Int) ≤ (n : Int) := by omega
  have zl : wrap64 (last + 1) = last + 1 := by unfold wrap64; omega
  have b0 : w.cell? ⟨B, 0, none⟩ = some (.slice sa n sc) := by simp [World.cell?, h2]
  have b1 : w.cell? ⟨B, 1, none⟩ = some (.int .i64 last) := by simp [World.cell?, h2]
  have bf : ∀ j, w.frozen? ⟨B, j, none⟩ = false := fun j => by simp [World.frozen?, h2]
  have hBw := lt_of_heap h2
  have HH := (show Hid _ from And.intro h0 (And.intro h1 (And.intro h2 (And.intro h3 (And.intro h4 (And.intro hv (And.intro hnd hl)))))))
  clear h0 h1 h2 h3 h4 hv hnd hl
  go_enter Tryd.func18, Tryd.ntmps18
  go_wp2_with fail
  obtain ⟨W4, hW4⟩ : ∃ W4, ((w.setCell ⟨B, 1, none⟩ (.int .i64 (last + 1))).alloc (.cells #[.int .i64 v.kind, .int .i64 v.num, .string v.text, .slice a1 v.list.length c1, .slice a2 v.fields.length c2] 38)) = W4 := ⟨_, rfl⟩
  have hk4 : Kept w W4 := by rw [← hW4]; exact (kept_setCell HH.out.2.2.1).trans (kept_alloc _ _)
  have hs4 : W4.heap.size = w.heap.size + 1 := by rw [← hW4]; simp
  have hB4 : W4.heap[B]? = some (.cells #[.slice sa n sc, .int .i64 (last + 1)] 57 (0, 0)) := by
    rw [← hW4, Below.heap_alloc _ _ _ (by simpa using hBw), setCell_row HH.out.2.2.1]; rfl
  have hN4 : W4.heap[w.heap.size]? = some (.cells #[.int .i64 v.kind, .int .i64 v.num, .string v.text, .slice a1 v.list.length c1, .slice a2 v.fields.length c2] 38 (0, 0)) := by
    rw [← hW4]; have := heap_alloc_new (w.setCell ⟨B, 1, none⟩ (.int .i64 (last + 1))) (.cells #[.int .i64 v.kind, .int .i64 v.num, .string v.text, .slice a1 v.list.length c1, .slice a2 v.fields.length c2] 38)
    simpa using this
  have hb4 : Below base w W4 := by rw [← hW4]; exact ((Below.refl _ _).setCell HH.out.1 _).alloc (by simpa using hbase) _
  have hrow4 : W4.ownsRow base 46 6 (.slice sa n sc) n (encDs ds) := by
    rw [← hW4]
    refine World.ownsRow.alloc ?_ _
    refine ⟨HH.out.2.2.2.1.1, ?_⟩
    rcases HH.out.2.2.2.1.2 with hn | ⟨g, cap, cur, e, hb, hg, rest⟩
    · exact .inl hn
    · refine .inr ⟨g, cap, cur, e, hb, ?_, rest⟩
      rw [heap_setCell_ne _ _ _ (fun e => ?_)]
      · exact hg
      · have e : g = B := e
        subst e; rw [HH.out.2.2.1] at hg; cases hg
  have hv4 : Lies 3 W4.drew v (.slice a1 v.list.length c1) (.slice a2 v.fields.length c2) := Lies.kept (HH.out.2.2.2.2.2.1) hk4
  have htw := twinValue_any 3 v _ _ W4.drew hv4
  rw [hW4]
  obtain ⟨q0, q1, q2, q3, q4, qf⟩ := row5 hN4
  have e0 : W4.cell? ⟨B, 0, none⟩ = some (.slice sa n sc) := by simp [World.cell?, hB4]
  have e1 : W4.cell? ⟨B, 1, none⟩ = some (.int .i64 (last + 1)) := by simp [World.cell?, hB4]
  have P0 := fun (w' : World) (h : w'.heap[B]? = W4.heap[B]? ∧ w'.heap[w.heap.size]? = W4.heap[w.heap.size]?) => (World.cell?_of_block (a := ⟨B, 0, none⟩) h.1).trans e0
  have P1 := fun (w' : World) (h : w'.heap[B]? = W4.heap[B]? ∧ w'.heap[w.heap.size]? = W4.heap[w.heap.size]?) => (World.cell?_of_block (a := ⟨B, 1, none⟩) h.1).trans e1
  have Q0 := fun (w' : World) (h : w'.heap[B]? = W4.heap[B]? ∧ w'.heap[w.heap.size]? = W4.heap[w.heap.size]?) => (World.cell?_of_block (a := ⟨w.heap.size, 0, none⟩) h.2).trans q0
  have Q1 := fun (w' : World) (h : w'.heap[B]? = W4.heap[B]? ∧ w'.heap[w.heap.size]? = W4.heap[w.heap.size]?) => (World.cell?_of_block (a := ⟨w.heap.size, 1, none⟩) h.2).trans q1
  have Q2 := fun (w' : World) (h : w'.heap[B]? = W4.heap[B]? ∧ w'.heap[w.heap.size]? = W4.heap[w.heap.size]?) => (World.cell?_of_block (a := ⟨w.heap.size, 2, none⟩) h.2).trans q2
  have Q3 := fun (w' : World) (h : w'.heap[B]? = W4.heap[B]? ∧ w'.heap[w.heap.size]? = W4.heap[w.heap.size]?) => (World.cell?_of_block (a := ⟨w.heap.size, 3, none⟩) h.2).trans q3
  have Q4 := fun (w' : World) (h : w'.heap[B]? = W4.heap[B]? ∧ w'.heap[w.heap.size]? = W4.heap[w.heap.size]?) => (World.cell?_of_block (a := ⟨w.heap.size, 4, none⟩) h.2).trans q4
  have H4 := (show Hid _ from And.intro hk4 (And.intro hs4 (And.intro hB4 (And.intro hN4 (And.intro hb4 hrow4)))))
  clear hk4 hs4 hB4 hN4 hb4 hrow4 hv4 hW4 q0 q1 q2 q3 q4 qf e0 e1 b0 b1 bf
  have h0 : (fun w' : World => w'.heap[B]? = W4.heap[B]? ∧ w'.heap[w.heap.size]? = W4.heap[w.heap.size]?) W4.drew := ⟨rfl, rfl⟩
  refine wp_region_snoc_held2 (S := fun w' => w'.heap[B]? = W4.heap[B]? ∧ w'.heap[w.heap.size]? = W4.heap[w.heap.size]?) (head := #[_, _, _, _, _, _, _, _, _, _, _, _, _, _, _, _]) (last := ⟨_, _, _, _, _, _⟩) mixed (by kernel_rfl) rfl ?_
  refine wpAnyH_take (i := 0) (oi := ⟨_, _, _, _, _, _⟩) (v := ?v0) rfl (by kernel_rfl) (by kernel_rfl) (by kernel_rfl) (fun _ _ _ h => h) (Or.inl ⟨by rfl, ?hy0⟩) h0 ?rest0
  case hy0 => (intro w hSw; (try dsimp only at hSw); go_simp; try with_reducible rfl)
  simp only [Act.put, List.setIfInBounds_toArray, List.set_cons_zero, List.set_cons_succ]
  refine wpAnyH_take (i := 1) (oi := ⟨_, _, _, _, _, _⟩) (v := ?v1) rfl (by kernel_rfl) (by kernel_rfl) (by kernel_rfl) (fun _ _ _ h => h) (Or.inl ⟨by rfl, ?hy1⟩) h0 ?rest1
  case hy1 => (intro w hSw; (try dsimp only at hSw); go_simp; try with_reducible rfl)
  simp only [Act.put, List.setIfInBounds_toArray, List.set_cons_zero, List.set_cons_succ]
  refine wpAnyH_take (i := 2) (oi := ⟨_, _, _, _, _, _⟩) (v := ?v2) rfl (by kernel_rfl) (by kernel_rfl) (by kernel_rfl) (fun _ _ _ h => h) (Or.inl ⟨by rfl, ?hy2⟩) h0 ?rest2
  case hy2 => (intro w hSw; (try dsimp only at hSw); go_simp; try with_reducible rfl)
  simp only [Act.put, List.setIfInBounds_toArray, List.set_cons_zero, List.set_cons_succ]
  refine wpAnyH_take (i := 3) (oi := ⟨_, _, _, _, _, _⟩) (v := ?v3) rfl (by kernel_rfl) (by kernel_rfl) (by kernel_rfl) (fun _ _ _ h => h) (Or.inl ⟨by rfl, ?hy3⟩) h0 ?rest3
  case hy3 => (intro w hSw; (try dsimp only at hSw); go_simp; try with_reducible rfl)
  simp only [Act.put, List.setIfInBounds_toArray, List.set_cons_zero, List.set_cons_succ]
  refine wpAnyH_take (i := 4) (oi := ⟨_, _, _, _, _, _⟩) (v := ?v4) rfl (by kernel_rfl) (by kernel_rfl) (by kernel_rfl) (fun _ _ _ h => h) (Or.inl ⟨by rfl, ?hy4⟩) h0 ?rest4
  case hy4 => (intro w hSw; (try dsimp only at hSw); go_simp; try with_reducible rfl)
  simp only [Act.put, List.setIfInBounds_toArray, List.set_cons_zero, List.set_cons_succ]
  refine wpAnyH_take (i := 5) (oi := ⟨_, _, _, _, _, _⟩) (v := ?v5) rfl (by kernel_rfl) (by kernel_rfl) (by kernel_rfl) (fun _ _ _ h => h) (Or.inl ⟨by rfl, ?hy5⟩) h0 ?rest5
  case hy5 => (intro w hSw; (try dsimp only at hSw); go_simp; try with_reducible rfl)
  simp only [Act.put, List.setIfInBounds_toArray, List.set_cons_zero, List.set_cons_succ]
  refine wpAnyH_take (i := 6) (oi := ⟨_, _, _, _, _, _⟩) (v := ?v6) rfl (by kernel_rfl) (by kernel_rfl) (by kernel_rfl) (fun _ _ _ h => h) (Or.inl ⟨by rfl, ?hy6⟩) h0 ?rest6
  case hy6 => (intro w hSw; (try dsimp only at hSw); go_simp; try with_reducible rfl)
  simp only [Act.put, List.setIfInBounds_toArray, List.set_cons_zero, List.set_cons_succ]
  refine wpAnyH_take (i := 7) (oi := ⟨_, _, _, _, _, _⟩) (v := ?v7) rfl (by kernel_rfl) (by kernel_rfl) (by kernel_rfl) (fun _ _ _ h => h) (Or.inl ⟨by rfl, ?hy7⟩) h0 ?rest7
  case hy7 => (intro w hSw; (try dsimp only at hSw); go_simp; try with_reducible rfl)
  simp only [Act.put, List.setIfInBounds_toArray, List.set_cons_zero, List.set_cons_succ]
  refine wpAnyH_take (i := 8) (oi := ⟨_, _, _, _, _, _⟩) (v := ?v8) rfl (by kernel_rfl) (by kernel_rfl) (by kernel_rfl) (fun _ _ _ h => h) (Or.inl ⟨by rfl, ?hy8⟩) h0 ?rest8
  case hy8 => (intro w hSw; (try dsimp only at hSw); go_simp; try with_reducible rfl)
  simp only [Act.put, List.setIfInBounds_toArray, List.set_cons_zero, List.set_cons_succ]
  refine wpAnyH_take (i := 9) (oi := ⟨_, _, _, _, _, _⟩) (v := ?v9) rfl (by kernel_rfl) (by kernel_rfl) (by kernel_rfl) (fun _ _ _ h => h) (Or.inl ⟨by rfl, ?hy9⟩) h0 ?rest9
  case hy9 => (intro w hSw; (try dsimp only at hSw); go_simp; try with_reducible rfl)
  simp only [Act.put, List.setIfInBounds_toArray, List.set_cons_zero, List.set_cons_succ]
  refine wpAnyH_ready (rs := [10]) (by kernel_rfl) (by simp) ?_
  refine AllReadyH.cons (o := ⟨_, _, _, _, _, _⟩) rfl (fun K hK => ?_) AllReadyH.nil
  go_simp
  refine htw.mono ?_
  rintro e w5 ⟨l', f', rfl, hcp, hb5⟩
  have hrep := hcp.rep
  obtain ⟨al', cl', af', cf', rfl, rfl⟩ := hrep.slices
  have hlt5 : W4.heap.size ≤ w5.heap.size := hb5.size
  have z5 : B < W4.heap.size ∧ w.heap.size < W4.heap.size := ⟨lt_of_heap H4.out.2.2.1, lt_of_heap H4.out.2.2.2.1⟩
  have h5 : w5.heap[B]? = W4.heap[B]? ∧ w5.heap[w.heap.size]? = W4.heap[w.heap.size]? := ⟨hb5.block B z5.1, hb5.block w.heap.size z5.2⟩
  have hrow5 : w5.ownsRow base 46 6 (.slice sa n sc) n (encDs ds) := ownsRow_cells (below_cells (Below.drop_drew hb5)) H4.out.2.2.2.2.2
  have H5 := (show Hid _ from And.intro hrep hb5)
  clear hcp hrep hb5 htw
  refine hK.out _ _ h5 (fun hHeld => ?_)
  clear hK K hHeld
  try simp only [Act.put, List.setIfInBounds_toArray, List.set_cons_zero, List.set_cons_succ]
  refine wpAnyH_ready (rs := [11]) (by kernel_rfl) (by simp) ?_
  refine AllReadyH.cons (o := ⟨_, _, _, _, _, _⟩) rfl (fun K hK => ?_) AllReadyH.nil
  go_simp
  refine hK.out _ _ h5 (fun hHeld => ?_)
  clear hK K hHeld
  try simp only [Act.put, List.setIfInBounds_toArray, List.set_cons_zero, List.set_cons_succ]
  refine wpAnyH_ready (rs := [12]) (by kernel_rfl) (by simp) ?_
  refine AllReadyH.cons (o := ⟨_, _, _, _, _, _⟩) rfl (fun K hK => ?_) AllReadyH.nil
  go_simp
  refine hK.out _ _ ⟨(Below.heap_alloc w5 _ B (by omega)).trans h5.1, (Below.heap_alloc w5 _ w.heap.size (by omega)).trans h5.2⟩ (fun hHeld => ?_)
  clear hK K hHeld
  try simp only [Act.put, List.setIfInBounds_toArray, List.set_cons_zero, List.set_cons_succ]
  obtain ⟨w6, hw6⟩ : ∃ w6, w5.alloc (.cells #[.int .i64 (last + 1), .int .i64 v.kind, .int .i64 v.num, .string v.text, .slice al' v.list.length cl', .slice af' v.fields.length cf'] 46) = w6 := ⟨_, rfl⟩
  have hn6 : w6.heap[w5.heap.size]? = some (.cells #[.int .i64 (last + 1), .int .i64 v.kind, .int .i64 v.num, .string v.text, .slice al' v.list.length cl', .slice af' v.fields.length cf'] 46 (0, 0)) := by rw [← hw6]; exact heap_alloc_new _ _
  have hs6 : w6.heap.size = w5.heap.size + 1 := by rw [← hw6]; simp
  have hk6 : Kept w5 w6 := by rw [← hw6]; exact kept_alloc _ _
  have hb6 : Below w5.heap.size w5 w6 := by rw [← hw6]; exact (Below.refl _ _).alloc (Nat.le_refl _) _
  have h6 : w6.heap[B]? = W4.heap[B]? ∧ w6.heap[w.heap.size]? = W4.heap[w.heap.size]? := ⟨(hb6.block B (by omega)).trans h5.1, (hb6.block w.heap.size (by omega)).trans h5.2⟩
  have hrow6 : w6.ownsRow base 46 6 (.slice sa n sc) n (encDs ds) := ownsRow_cells (below_cells hb6) hrow5
  rw [hw6]
  obtain ⟨i0, hi, hz0, hz1, hz2⟩ := info_parts infoD1
  have zb6 : base ≤ w6.heap.size := by have := H4.out.2.1; omega
  refine wpAnyH_ready (rs := [13]) (by kernel_rfl) (by simp) ?_
  refine AllReadyH.cons (o := ⟨_, _, _, _, _, _⟩) rfl (fun K hK => ?_) AllReadyH.nil
  refine step_append_lies _ rfl (.tmp 23) (.tmp 31) 55 rfl base 46 i0 _ 6 88 Tryd.underlying55 hi hz0 hz1 hz2 rfl (by decide) _ n (encDs ds) (by simp [Act.eval]) hrow6 ⟨w5.heap.size, 0, none⟩ 1 1 [.int .i64 (last + 1), .int .i64 v.kind, .int .i64 v.num, .string v.text, .slice al' v.list.length cl', .slice af' v.fields.length cf'] (by simp [Act.eval]) rfl (World.news_of_block hn6) (by intro u hu; simp only [List.mem_cons, List.not_mem_nil, or_false] at hu; rcases hu with rfl | rfl | rfl | rfl | rfl | rfl <;> rfl) (by omega) (by unfold maxLen; omega) (by omega) zb6 _ rfl ?_
  intro g cap w7 hown7 hgrow7 hlie hlt7
  have hd7 : some B ≠ (Value.slice sa n sc).ownBlock ∧ some w.heap.size ≠ (Value.slice sa n sc).ownBlock := by
    rcases hrow6.2 with ⟨e, _⟩ | ⟨g2, cap2, cur2, e, _, hgg, _⟩
    · rw [e]; exact ⟨by simp [Value.ownBlock], by simp [Value.ownBlock]⟩
    · rw [e]
      refine ⟨fun e2 => ?_, fun e2 => ?_⟩
      · have e3 : B = g2 := by simpa [Value.ownBlock] using e2
        rw [← e3, h6.1, H4.out.2.2.1] at hgg; cases hgg
      · have e3 : w.heap.size = g2 := by simpa [Value.ownBlock] using e2
        rw [← e3, h6.2, H4.out.2.2.2.1] at hgg; cases hgg
  have h7 : w7.heap[B]? = W4.heap[B]? ∧ w7.heap[w.heap.size]? = W4.heap[w.heap.size]? := ⟨(hgrow7.block B (by omega) hd7.1).trans h6.1, (hgrow7.block w.heap.size (by omega) hd7.2).trans h6.2⟩
  refine hK.out _ _ h7 (fun hHeld => ?_)
  clear hK K hHeld
  try simp only [Act.put, List.setIfInBounds_toArray, List.set_cons_zero, List.set_cons_succ]
  refine wpAnyH_ready (rs := [14]) (by kernel_rfl) (by simp) ?_
  refine AllReadyH.cons (o := ⟨_, _, _, _, _, _⟩) rfl (fun K hK => ?_) AllReadyH.nil
  go_simp
  refine hK.out _ _ h7 (fun hHeld => ?_)
  clear hK K hHeld
  try simp only [Act.put, List.setIfInBounds_toArray, List.set_cons_zero, List.set_cons_succ]
  refine wpAnyH_ready (rs := [15]) (by kernel_rfl) (by simp) ?_
  refine AllReadyH.cons (o := ⟨_, _, _, _, _, _⟩) rfl (fun K hK => ?_) AllReadyH.nil
  go_simp
  refine hK.out _ _ h7 (fun hHeld => ?_)
  clear hK K hHeld
  try simp only [Act.put, List.setIfInBounds_toArray, List.set_cons_zero, List.set_cons_succ]
  refine wpAnyH_done (by kernel_rfl) ?_ _
  have hB7 : w7.heap[B]? = some (.cells #[.slice sa n sc, .int .i64 (last + 1)] 57 (0, 0)) := h7.1.trans H4.out.2.2.1
  have k0 : w7.cell? ⟨B, 0, none⟩ = some (.slice sa n sc) := by simp [World.cell?, hB7]
  have k1 : w7.cell? ⟨B, 1, none⟩ = some (.int .i64 (last + 1)) := by simp [World.cell?, hB7]
  have kf : ∀ j, w7.frozen? ⟨B, j, none⟩ = false := fun j => by simp [World.frozen?, hB7]
  have H7 := (show Hid _ from And.intro hB7 (And.intro hown7 (And.intro hgrow7 (And.intro hk6 (And.intro hb6 (And.intro hrow6 zb6))))))
  clear hB7 hown7 hgrow7 hk6 hb6 hrow6 hrow5 hn6 h5 h6 h7 hd7 hlie P0 P1 Q0 Q1 Q2 Q3 Q4 h0 hi hz0 hz1 hz2 hw6 zb6
  show Oper.wp _ _ _ _ _ _
  go_simp
  go_wp2
  go_ret2
  obtain ⟨hB7, hown7, hgrow7, hk6, hb6, hrow6, zb6⟩ := H7.out
  obtain ⟨h0, h1, h2, h3, h4, hv, hnd, hl⟩ := HH.out
  obtain ⟨hk4, hs4, hB4, hN4, hb4, hrow4⟩ := H4.out
  obtain ⟨hrep, hb5⟩ := H5.out
  have hk67 : Kept w6 w7 := kept_grown hrow6 hgrow7
  have hk78 := kept_setCell (i := 0) (u := .slice (some ⟨g, 0, none⟩) (n + 1) cap) hB7
  have hk5 : Kept W4 w5 := below_kept (Below.drop_drew hb5)
  have hkall := hk4.trans (hk5.trans (hk6.trans (hk67.trans hk78)))
  have hb15 : Below base w w5 := hb4.trans ((Below.drop_drew hb5).mono (by show base ≤ W4.heap.size; omega))
  have hb16 : Below base w w6 := hb15.trans (hb6.mono (by omega))
  refine ⟨rfl, ⟨h0, .slice (some ⟨g, 0, none⟩) (n + 1) cap, ds ++ [⟨last + 1, v, .slice al' v.list.length cl', .slice af' v.fields.length cf'⟩], ?_, ?_, ?_, ?_⟩, hkall, ?_⟩
  · rw [List.map_append, h1]; rfl
  · rw [setCell_row hB7]; rfl
  · have hgB : g ≠ B := by
      rcases hown7.2 with ⟨e, _⟩ | ⟨g2, cap2, cur2, e, _, hgg, _⟩
      · cases e
      · cases e; intro e2; subst e2; rw [hB7] at hgg; cases hgg
    rw [List.length_append, hnd, encDs_append]
    refine ⟨hown7.1, ?_⟩
    rcases hown7.2 with ⟨e, _⟩ | ⟨g2, cap2, cur2, e, hb2, hgg, rest⟩
    · cases e
    · refine .inr ⟨g2, cap2, cur2, e, hb2, ?_, rest⟩
      cases e
      rw [heap_setCell_ne _ _ _ hgB]; exact hgg
  · intro d hd
    rcases List.mem_append.1 hd with hd | hd
    · exact (h4 d hd).kept hkall
    · simp only [List.mem_cons, List.not_mem_nil, or_false] at hd
      subst hd
      exact Lies.kept (Lies.kept (Lies.kept (Rep.lies hrep) hk6) hk67) hk78
  · exact (below_grown hb16 hrow6 hgrow7 zb6).setCell h0 _

theorem Insert_full (v : V) (l f : Value) (w : World) (h : HeapAt base w B rs last) (hv : Lies 3 w v l f) (hn : 500 ≤ rs.length) :
    Calls Tryd.prog 18 #[.pointer (some ⟨B, 0, none⟩), .agg #[.int .i64 v.kind, .int .i64 v.num, .string v.text, l, f]] w
      fun e w' => e = .returned (.tuple #[.int .i64 0, .bool false]) ∧ Below w.heap.size w w' := by
  obtain ⟨a1, c1, a2, c2, rfl, rfl⟩ := hv.slices
  obtain ⟨a, c, c0, c1'⟩ := h.head
  have hBw := h.lt
  have zn : (500 : Int) ≤ (rs.length : Int) := by omega
  clear h hv
  go_enter Tryd.func18, Tryd.ntmps18
  go_wp2
  go_ret2
  exact ⟨rfl, (Below.refl _ _).alloc (Nat.le_refl _) _⟩
end
end Go.Proofs.YtjihfbahcebljaaDoor
