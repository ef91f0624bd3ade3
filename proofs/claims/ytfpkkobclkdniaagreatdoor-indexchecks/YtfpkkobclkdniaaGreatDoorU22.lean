/-
  A heap's Insert by its contract. Conditions: as stated.
  A heap's Set and Delete by their contracts. Conditions: as stated.
  A heap as the law holds it: its numbers rise from 1 on, none is above the last. All its deeds by their contracts. Conditions: as stated.
-/
import Derived.Test.YtfpkkobclkdniaaGreatDoorU21
import Derived.Deep.AppendLies
import Derived.Test.YtfpkkobclkdniaaGreatDoorU15
namespace Go.Proofs.YtfpkkobclkdniaaGreatDoor
open Go.RowKit

theorem infoD1 : (Tryz.prog.info? 94).map (fun i => (i.zero, i.size, i.bytes)) = some (some (.agg #[.int .i64 0, .int .i64 0, .int .i64 0, .string ⟨#[]⟩, .slice none 0 0, .slice none 0 0]), 6, 88) := by kernel_rfl
theorem kept_setCell {W : World} {B i : Nat} {u : Value} {cur : Array Value} (h : W.heap[B]? = some (.cells cur 89 (0, 0))) : Kept W (W.setCell ⟨B, i, none⟩ u) := by
  intro b o ho h1 _
  rw [heap_setCell_ne _ _ _ (fun e => h1 cur (by subst e; rw [h] at ho; exact (Option.some.inj ho).symm))]
  exact ho
theorem kept_docCell {W : World} {B i : Nat} {u : Value} {cur : Array Value} (h : W.heap[B]? = some (.cells cur 94 (0, 0))) : Kept W (W.setCell ⟨B, i, none⟩ u) := by
  intro b o ho _ h1
  rw [heap_setCell_ne _ _ _ (fun e => h1 cur (by subst e; rw [h] at ho; exact (Option.some.inj ho).symm))]
  exact ho
theorem kept_alloc (W : World) (o : Obj) : Kept W (W.alloc o) := below_kept ((Below.refl _ _).alloc (Nat.le_refl _) _)
theorem kept_grown {base : Nat} {W W' : World} {s : Value} {n : Nat} {xs : List Value} (h : W.ownsRow base 94 6 s n xs) (hg : W.grownBy W' s.ownBlock) : Kept W W' := by
  intro b o ho _ h2
  rw [hg.block b (lt_of_heap ho) (fun e => ?_)]
  · exact ho
  · rcases h.2 with ⟨rfl, _⟩ | ⟨g, cap, cur, rfl, _, hgg, _⟩
    · cases e
    · cases e
      rw [hgg] at ho
      exact h2 cur (Option.some.inj ho).symm
theorem below_grown {base : Nat} {w W W' : World} {s : Value} {n : Nat} {xs : List Value} (hb : Below base w W) (h : W.ownsRow base 94 6 s n xs) (hg : W.grownBy W' s.ownBlock) (hB : base ≤ W.heap.size) : Below base w W' :=
  hb.grown hg hB fun k hk => (h.lt k hk).1

section
variable {base B : Nat} {rs : List Rec} {last lo : Int}
attribute [local go_sem ↓] Go.wp_at_zero Go.wp_at_succ
set_option maxRecDepth 100000 in
set_option maxHeartbeats 8000000 in
theorem Insert_room (v : V) (l f : Value) (w : World) (h : HeapAt base w B rs last) (hv : Lies 3 w v l f) (hn : rs.length < 500) (hbase : base ≤ w.heap.size) (hl1 : -1 ≤ last) (hl2 : last ≤ 1000000000) :
    Calls Tryz.prog 40 #[.pointer (some ⟨B, 0, none⟩), .agg #[.int .i64 v.kind, .int .i64 v.num, .string v.text, l, f]] w
      fun e w' => e = .returned (.tuple #[.int .i64 (last + 1), .bool true]) ∧ HeapAt base w' B (rs ++ [(last + 1, v)]) (last + 1) ∧ Kept w w' ∧ Below base w w' := by
  obtain ⟨a1, c1, a2, c2, rfl, rfl⟩ := hv.slices
  obtain ⟨h0, s, ds, h1, h2, h3, h4⟩ := h
  obtain ⟨sa, sc, rfl⟩ := slice_of_row h3
  have hl : ds.length = rs.length := by rw [← h1, List.length_map]
  obtain ⟨n, hnd⟩ : ∃ n, ds.length = n := ⟨_, rfl⟩
  rw [hnd] at h2 h3
  have zn : ¬ (500 : Int) ≤ (n : Int) := by omega
  have zl : wrap64 (last + 1) = last + 1 := by unfold wrap64; omega
  have b0 : w.cell? ⟨B, 0, none⟩ = some (.slice sa n sc) := by simp [World.cell?, h2]
  have b1 : w.cell? ⟨B, 1, none⟩ = some (.int .i64 last) := by simp [World.cell?, h2]
  have bf : ∀ j, w.frozen? ⟨B, j, none⟩ = false := fun j => by simp [World.frozen?, h2]
  have hBw := lt_of_heap h2
  have HH := (show Hid _ from And.intro h0 (And.intro h1 (And.intro h2 (And.intro h3 (And.intro h4 (And.intro hv (And.intro hnd hl)))))))
  clear h0 h1 h2 h3 h4 hv hnd hl
  go_enter Tryz.func40, Tryz.ntmps40
  go_wp2_with fail
  obtain ⟨W4, hW4⟩ : ∃ W4, ((w.setCell ⟨B, 1, none⟩ (.int .i64 (last + 1))).alloc (.cells #[.int .i64 v.kind, .int .i64 v.num, .string v.text, .slice a1 v.list.length c1, .slice a2 v.fields.length c2] 40)) = W4 := ⟨_, rfl⟩
  have hk4 : Kept w W4 := by rw [← hW4]; exact (kept_setCell HH.out.2.2.1).trans (kept_alloc _ _)
  have hs4 : W4.heap.size = w.heap.size + 1 := by rw [← hW4]; simp
  have hB4 : W4.heap[B]? = some (.cells #[.slice sa n sc, .int .i64 (last + 1)] 89 (0, 0)) := by
    rw [← hW4, Below.heap_alloc _ _ _ (by simpa using hBw), setCell_row HH.out.2.2.1]; rfl
  have hN4 : W4.heap[w.heap.size]? = some (.cells #[.int .i64 v.kind, .int .i64 v.num, .string v.text, .slice a1 v.list.length c1, .slice a2 v.fields.length c2] 40 (0, 0)) := by
    rw [← hW4]; have := heap_alloc_new (w.setCell ⟨B, 1, none⟩ (.int .i64 (last + 1))) (.cells #[.int .i64 v.kind, .int .i64 v.num, .string v.text, .slice a1 v.list.length c1, .slice a2 v.fields.length c2] 40)
    simpa using this
  have hb4 : Below base w W4 := by rw [← hW4]; exact ((Below.refl _ _).setCell HH.out.1 _).alloc (by simpa using hbase) _
  have hrow4 : W4.ownsRow base 94 6 (.slice sa n sc) n (encDs ds) := by
    rw [← hW4]
    refine World.ownsRow.alloc ?_ _
    refine ⟨HH.out.2.2.2.1.1, ?_⟩
    rcases HH.out.2.2.2.1.2 with hn | ⟨g, cap, cur, e, hb, hg, rest⟩
    · exact .inl hn
    · refine .inr ⟨g, cap, cur, e, hb, ?_, rest⟩
      rw [heap_setCell_ne _ _ _ (fun e => ?_)]
      · exact hg
      · have e : g = B := e
        subst e; rw [HH.out.2.2.1] at hg; cases hg
  have hv4 : Lies 3 W4.drew v (.slice a1 v.list.length c1) (.slice a2 v.fields.length c2) := Lies.kept (HH.out.2.2.2.2.2.1) hk4
  have htw := twinValue_any 3 v _ _ W4.drew hv4
  rw [hW4]
  obtain ⟨q0, q1, q2, q3, q4, qf⟩ := row5 hN4
  have e0 : W4.cell? ⟨B, 0, none⟩ = some (.slice sa n sc) := by simp [World.cell?, hB4]
  have e1 : W4.cell? ⟨B, 1, none⟩ = some (.int .i64 (last + 1)) := by simp [World.cell?, hB4]
  have P0 := fun (w' : World) (h : w'.heap[B]? = W4.heap[B]? ∧ w'.heap[w.heap.size]? = W4.heap[w.heap.size]?) => (World.cell?_of_block (a := ⟨B, 0, none⟩) h.1).trans e0
  have P1 := fun (w' : World) (h : w'.heap[B]? = W4.heap[B]? ∧ w'.heap[w.heap.size]? = W4.heap[w.heap.size]?) => (World.cell?_of_block (a := ⟨B, 1, none⟩) h.1).trans e1
  have Q0 := fun (w' : World) (h : w'.heap[B]? = W4.heap[B]? ∧ w'.heap[w.heap.size]? = W4.heap[w.heap.size]?) => (World.cell?_of_block (a := ⟨w.heap.size, 0, none⟩) h.2).trans q0
  have Q1 := fun (w' : World) (h : w'.heap[B]? = W4.heap[B]? ∧ w'.heap[w.heap.size]? = W4.heap[w.heap.size]?) => (World.cell?_of_block (a := ⟨w.heap.size, 1, none⟩) h.2).trans q1
  have Q2 := fun (w' : World) (h : w'.heap[B]? = W4.heap[B]? ∧ w'.heap[w.heap.size]? = W4.heap[w.heap.size]?) => (World.cell?_of_block (a := ⟨w.heap.size, 2, none⟩) h.2).trans q2
  have Q3 := fun (w' : World) (h : w'.heap[B]? = W4.heap[B]? ∧ w'.heap[w.heap.size]? = W4.heap[w.heap.size]?) => (World.cell?_of_block (a := ⟨w.heap.size, 3, none⟩) h.2).trans q3
  have Q4 := fun (w' : World) (h : w'.heap[B]? = W4.heap[B]? ∧ w'.heap[w.heap.size]? = W4.heap[w.heap.size]?) => (World.cell?_of_block (a := ⟨w.heap.size, 4, none⟩) h.2).trans q4
  have H4 := (show Hid _ from And.intro hk4 (And.intro hs4 (And.intro hB4 (And.intro hN4 (And.intro hb4 hrow4)))))
  clear hk4 hs4 hB4 hN4 hb4 hrow4 hv4 hW4 q0 q1 q2 q3 q4 qf e0 e1 b0 b1 bf
  have h0 : (fun w' : World => w'.heap[B]? = W4.heap[B]? ∧ w'.heap[w.heap.size]? = W4.heap[w.heap.size]?) W4.drew := ⟨rfl, rfl⟩
  refine wp_region_snoc_held2 (S := fun w' => w'.heap[B]? = W4.heap[B]? ∧ w'.heap[w.heap.size]? = W4.heap[w.heap.size]?) (head := #[_, _, _, _, _, _, _, _, _, _, _, _, _, _, _, _]) (last := ⟨_, _, _, _, _, _⟩) mixed (by kernel_rfl) rfl ?_
  refine wpAnyH_take (i := 0) (oi := ⟨_, _, _, _, _, _⟩) (v := ?v0) rfl (by kernel_rfl) (by kernel_rfl) (by kernel_rfl) (fun _ _ _ h => h) (Or.inl ⟨by rfl, ?hy0⟩) h0 ?rest0
  case hy0 => (intro w hSw; (try dsimp only at hSw); go_simp; try with_reducible rfl)
  simp only [Act.put, List.setIfInBounds_toArray, List.set_cons_zero, List.set_cons_succ]
  refine wpAnyH_take (i := 1) (oi := ⟨_, _, _, _, _, _⟩) (v := ?v1) rfl (by kernel_rfl) (by kernel_rfl) (by kernel_rfl) (fun _ _ _ h => h) (Or.inl ⟨by rfl, ?hy1⟩) h0 ?rest1
  case hy1 => (intro w hSw; (try dsimp only at hSw); go_simp; try with_reducible rfl)
  simp only [Act.put, List.setIfInBounds_toArray, List.set_cons_zero, List.set_cons_succ]
  refine wpAnyH_take (i := 2) (oi := ⟨_, _, _, _, _, _⟩) (v := ?v2) rfl (by kernel_rfl) (by kernel_rfl) (by kernel_rfl) (fun _ _ _ h => h) (Or.inl ⟨by rfl, ?hy2⟩) h0 ?rest2
  case hy2 => (intro w hSw; (try dsimp only at hSw); go_simp; try with_reducible rfl)
  simp only [Act.put, List.setIfInBounds_toArray, List.set_cons_zero, List.set_cons_succ]
  refine wpAnyH_take (i := 3) (oi := ⟨_, _, _, _, _, _⟩) (v := ?v3) rfl (by kernel_rfl) (by kernel_rfl) (by kernel_rfl) (fun _ _ _ h => h) (Or.inl ⟨by rfl, ?hy3⟩) h0 ?rest3
  case hy3 => (intro w hSw; (try dsimp only at hSw); go_simp; try with_reducible rfl)
  simp only [Act.put, List.setIfInBounds_toArray, List.set_cons_zero, List.set_cons_succ]
  refine wpAnyH_take (i := 4) (oi := ⟨_, _, _, _, _, _⟩) (v := ?v4) rfl (by kernel_rfl) (by kernel_rfl) (by kernel_rfl) (fun _ _ _ h => h) (Or.inl ⟨by rfl, ?hy4⟩) h0 ?rest4
  case hy4 => (intro w hSw; (try dsimp only at hSw); go_simp; try with_reducible rfl)
  simp only [Act.put, List.setIfInBounds_toArray, List.set_cons_zero, List.set_cons_succ]
  refine wpAnyH_take (i := 5) (oi := ⟨_, _, _, _, _, _⟩) (v := ?v5) rfl (by kernel_rfl) (by kernel_rfl) (by kernel_rfl) (fun _ _ _ h => h) (Or.inl ⟨by rfl, ?hy5⟩) h0 ?rest5
  case hy5 => (intro w hSw; (try dsimp only at hSw); go_simp; try with_reducible rfl)
  simp only [Act.put, List.setIfInBounds_toArray, List.set_cons_zero, List.set_cons_succ]
  refine wpAnyH_take (i := 6) (oi := ⟨_, _, _, _, _, _⟩) (v := ?v6) rfl (by kernel_rfl) (by kernel_rfl) (by kernel_rfl) (fun _ _ _ h => h) (Or.inl ⟨by rfl, ?hy6⟩) h0 ?rest6
  case hy6 => (intro w hSw; (try dsimp only at hSw); go_simp; try with_reducible rfl)
  simp only [Act.put, List.setIfInBounds_toArray, List.set_cons_zero, List.set_cons_succ]
  refine wpAnyH_take (i := 7) (oi := ⟨_, _, _, _, _, _⟩) (v := ?v7) rfl (by kernel_rfl) (by kernel_rfl) (by kernel_rfl) (fun _ _ _ h => h) (Or.inl ⟨by rfl, ?hy7⟩) h0 ?rest7
  case hy7 => (intro w hSw; (try dsimp only at hSw); go_simp; try with_reducible rfl)
  simp only [Act.put, List.setIfInBounds_toArray, List.set_cons_zero, List.set_cons_succ]
  refine wpAnyH_take (i := 8) (oi := ⟨_, _, _, _, _, _⟩) (v := ?v8) rfl (by kernel_rfl) (by kernel_rfl) (by kernel_rfl) (fun _ _ _ h => h) (Or.inl ⟨by rfl, ?hy8⟩) h0 ?rest8
  case hy8 => (intro w hSw; (try dsimp only at hSw); go_simp; try with_reducible rfl)
  simp only [Act.put, List.setIfInBounds_toArray, List.set_cons_zero, List.set_cons_succ]
  refine wpAnyH_take (i := 9) (oi := ⟨_, _, _, _, _, _⟩) (v := ?v9) rfl (by kernel_rfl) (by kernel_rfl) (by kernel_rfl) (fun _ _ _ h => h) (Or.inl ⟨by rfl, ?hy9⟩) h0 ?rest9
  case hy9 => (intro w hSw; (try dsimp only at hSw); go_simp; try with_reducible rfl)
  simp only [Act.put, List.setIfInBounds_toArray, List.set_cons_zero, List.set_cons_succ]
  refine wpAnyH_ready (rs := [10]) (by kernel_rfl) (by simp) ?_
  refine AllReadyH.cons (o := ⟨_, _, _, _, _, _⟩) rfl (fun K hK => ?_) AllReadyH.nil
  go_simp
  refine htw.mono ?_
  rintro e w5 ⟨l', f', rfl, hcp, hb5⟩
  have hrep := hcp.rep
  obtain ⟨al', cl', af', cf', rfl, rfl⟩ := hrep.slices
  have hlt5 : W4.heap.size ≤ w5.heap.size := hb5.size
  have z5 : B < W4.heap.size ∧ w.heap.size < W4.heap.size := ⟨lt_of_heap H4.out.2.2.1, lt_of_heap H4.out.2.2.2.1⟩
  have h5 : w5.heap[B]? = W4.heap[B]? ∧ w5.heap[w.heap.size]? = W4.heap[w.heap.size]? := ⟨hb5.block B z5.1, hb5.block w.heap.size z5.2⟩
  have hrow5 : w5.ownsRow base 94 6 (.slice sa n sc) n (encDs ds) := ownsRow_cells (below_cells (Below.drop_drewH hb5)) H4.out.2.2.2.2.2
  have H5 := (show Hid _ from And.intro hrep hb5)
  clear hcp hrep hb5 htw
  refine hK.out _ _ h5 (fun hHeld => ?_)
  clear hK K hHeld
  try simp only [Act.put, List.setIfInBounds_toArray, List.set_cons_zero, List.set_cons_succ]
  refine wpAnyH_ready (rs := [11]) (by kernel_rfl) (by simp) ?_
  refine AllReadyH.cons (o := ⟨_, _, _, _, _, _⟩) rfl (fun K hK => ?_) AllReadyH.nil
  go_simp
  refine hK.out _ _ h5 (fun hHeld => ?_)
  clear hK K hHeld
  try simp only [Act.put, List.setIfInBounds_toArray, List.set_cons_zero, List.set_cons_succ]
  refine wpAnyH_ready (rs := [12]) (by kernel_rfl) (by simp) ?_
  refine AllReadyH.cons (o := ⟨_, _, _, _, _, _⟩) rfl (fun K hK => ?_) AllReadyH.nil
  go_simp
  refine hK.out _ _ ⟨(Below.heap_alloc w5 _ B (by omega)).trans h5.1, (Below.heap_alloc w5 _ w.heap.size (by omega)).trans h5.2⟩ (fun hHeld => ?_)
  clear hK K hHeld
  try simp only [Act.put, List.setIfInBounds_toArray, List.set_cons_zero, List.set_cons_succ]
  obtain ⟨w6, hw6⟩ : ∃ w6, w5.alloc (.cells #[.int .i64 (last + 1), .int .i64 v.kind, .int .i64 v.num, .string v.text, .slice al' v.list.length cl', .slice af' v.fields.length cf'] 94) = w6 := ⟨_, rfl⟩
  have hn6 : w6.heap[w5.heap.size]? = some (.cells #[.int .i64 (last + 1), .int .i64 v.kind, .int .i64 v.num, .string v.text, .slice al' v.list.length cl', .slice af' v.fields.length cf'] 94 (0, 0)) := by rw [← hw6]; exact heap_alloc_new _ _
  have hs6 : w6.heap.size = w5.heap.size + 1 := by rw [← hw6]; simp
  have hk6 : Kept w5 w6 := by rw [← hw6]; exact kept_alloc _ _
  have hb6 : Below w5.heap.size w5 w6 := by rw [← hw6]; exact (Below.refl _ _).alloc (Nat.le_refl _) _
  have h6 : w6.heap[B]? = W4.heap[B]? ∧ w6.heap[w.heap.size]? = W4.heap[w.heap.size]? := ⟨(hb6.block B (by omega)).trans h5.1, (hb6.block w.heap.size (by omega)).trans h5.2⟩
  have hrow6 : w6.ownsRow base 94 6 (.slice sa n sc) n (encDs ds) := ownsRow_cells (below_cells hb6) hrow5
  rw [hw6]
  obtain ⟨i0, hi, hz0, hz1, hz2⟩ := info_parts infoD1
  have zb6 : base ≤ w6.heap.size := by have := H4.out.2.1; omega
  refine wpAnyH_ready (rs := [13]) (by kernel_rfl) (by simp) ?_
  refine AllReadyH.cons (o := ⟨_, _, _, _, _, _⟩) rfl (fun K hK => ?_) AllReadyH.nil
  refine step_append_lies _ rfl (.tmp 23) (.tmp 31) 87 rfl base 94 i0 _ 6 88 Tryz.underlying87 hi hz0 hz1 hz2 rfl (by decide) _ n (encDs ds) (by simp [Act.eval]) hrow6 ⟨w5.heap.size, 0, none⟩ 1 1 [.int .i64 (last + 1), .int .i64 v.kind, .int .i64 v.num, .string v.text, .slice al' v.list.length cl', .slice af' v.fields.length cf'] (by simp [Act.eval]) rfl (World.news_of_block hn6) (by intro u hu; simp only [List.mem_cons, List.not_mem_nil, or_false] at hu; rcases hu with rfl | rfl | rfl | rfl | rfl | rfl <;> rfl) (by omega) (by unfold maxLen; omega) (by omega) zb6 _ rfl ?_
  intro g cap w7 hown7 hgrow7 hlie hlt7
  have hd7 : some B ≠ (Value.slice sa n sc).ownBlock ∧ some w.heap.size ≠ (Value.slice sa n sc).ownBlock := by
    rcases hrow6.2 with ⟨e, _⟩ | ⟨g2, cap2, cur2, e, _, hgg, _⟩
    · rw [e]; exact ⟨by simp [Value.ownBlock], by simp [Value.ownBlock]⟩
    · rw [e]
      refine ⟨fun e2 => ?_, fun e2 => ?_⟩
      · have e3 : B = g2 := by simpa [Value.ownBlock] using e2
        rw [← e3, h6.1, H4.out.2.2.1] at hgg; cases hgg
      · have e3 : w.heap.size = g2 := by simpa [Value.ownBlock] using e2
        rw [← e3, h6.2, H4.out.2.2.2.1] at hgg; cases hgg
  have h7 : w7.heap[B]? = W4.heap[B]? ∧ w7.heap[w.heap.size]? = W4.heap[w.heap.size]? := ⟨(hgrow7.block B (by omega) hd7.1).trans h6.1, (hgrow7.block w.heap.size (by omega) hd7.2).trans h6.2⟩
  refine hK.out _ _ h7 (fun hHeld => ?_)
  clear hK K hHeld
  try simp only [Act.put, List.setIfInBounds_toArray, List.set_cons_zero, List.set_cons_succ]
  refine wpAnyH_ready (rs := [14]) (by kernel_rfl) (by simp) ?_
  refine AllReadyH.cons (o := ⟨_, _, _, _, _, _⟩) rfl (fun K hK => ?_) AllReadyH.nil
  go_simp
  refine hK.out _ _ h7 (fun hHeld => ?_)
  clear hK K hHeld
  try simp only [Act.put, List.setIfInBounds_toArray, List.set_cons_zero, List.set_cons_succ]
  refine wpAnyH_ready (rs := [15]) (by kernel_rfl) (by simp) ?_
  refine AllReadyH.cons (o := ⟨_, _, _, _, _, _⟩) rfl (fun K hK => ?_) AllReadyH.nil
  go_simp
  refine hK.out _ _ h7 (fun hHeld => ?_)
  clear hK K hHeld
  try simp only [Act.put, List.setIfInBounds_toArray, List.set_cons_zero, List.set_cons_succ]
  refine wpAnyH_done (by kernel_rfl) ?_ _
  have hB7 : w7.heap[B]? = some (.cells #[.slice sa n sc, .int .i64 (last + 1)] 89 (0, 0)) := h7.1.trans H4.out.2.2.1
  have k0 : w7.cell? ⟨B, 0, none⟩ = some (.slice sa n sc) := by simp [World.cell?, hB7]
  have k1 : w7.cell? ⟨B, 1, none⟩ = some (.int .i64 (last + 1)) := by simp [World.cell?, hB7]
  have kf : ∀ j, w7.frozen? ⟨B, j, none⟩ = false := fun j => by simp [World.frozen?, hB7]
  have H7 := (show Hid _ from And.intro hB7 (And.intro hown7 (And.intro hgrow7 (And.intro hk6 (And.intro hb6 (And.intro hrow6 zb6))))))
  clear hB7 hown7 hgrow7 hk6 hb6 hrow6 hrow5 hn6 h5 h6 h7 hd7 hlie P0 P1 Q0 Q1 Q2 Q3 Q4 h0 hi hz0 hz1 hz2 hw6 zb6
  show Oper.wp _ _ _ _ _ _
  go_simp
  go_wp2
  go_ret2
  obtain ⟨hB7, hown7, hgrow7, hk6, hb6, hrow6, zb6⟩ := H7.out
  obtain ⟨h0, h1, h2, h3, h4, hv, hnd, hl⟩ := HH.out
  obtain ⟨hk4, hs4, hB4, hN4, hb4, hrow4⟩ := H4.out
  obtain ⟨hrep, hb5⟩ := H5.out
  have hk67 : Kept w6 w7 := kept_grown hrow6 hgrow7
  have hk78 := kept_setCell (i := 0) (u := .slice (some ⟨g, 0, none⟩) (n + 1) cap) hB7
  have hk5 : Kept W4 w5 := below_kept (Below.drop_drewH hb5)
  have hkall := hk4.trans (hk5.trans (hk6.trans (hk67.trans hk78)))
  have hb15 : Below base w w5 := hb4.trans ((Below.drop_drewH hb5).mono (by show base ≤ W4.heap.size; omega))
  have hb16 : Below base w w6 := hb15.trans (hb6.mono (by omega))
  refine ⟨rfl, ⟨h0, .slice (some ⟨g, 0, none⟩) (n + 1) cap, ds ++ [⟨last + 1, v, .slice al' v.list.length cl', .slice af' v.fields.length cf'⟩], ?_, ?_, ?_, ?_⟩, hkall, ?_⟩
  · rw [List.map_append, h1]; rfl
  · rw [setCell_row hB7]; rfl
  · have hgB : g ≠ B := by
      rcases hown7.2 with ⟨e, _⟩ | ⟨g2, cap2, cur2, e, _, hgg, _⟩
      · cases e
      · cases e; intro e2; subst e2; rw [hB7] at hgg; cases hgg
    rw [List.length_append, hnd, encDs_append]
    refine ⟨hown7.1, ?_⟩
    rcases hown7.2 with ⟨e, _⟩ | ⟨g2, cap2, cur2, e, hb2, hgg, rest⟩
    · cases e
    · refine .inr ⟨g2, cap2, cur2, e, hb2, ?_, rest⟩
      cases e
      rw [heap_setCell_ne _ _ _ hgB]; exact hgg
  · intro d hd
    rcases List.mem_append.1 hd with hd | hd
    · exact (h4 d hd).kept hkall
    · simp only [List.mem_cons, List.not_mem_nil, or_false] at hd
      subst hd
      exact Lies.kept (Lies.kept (Lies.kept (Rep.lies hrep) hk6) hk67) hk78
  · exact (below_grown hb16 hrow6 hgrow7 zb6).setCell h0 _

theorem Insert_full (v : V) (l f : Value) (w : World) (h : HeapAt base w B rs last) (hv : Lies 3 w v l f) (hn : 500 ≤ rs.length) :
    Calls Tryz.prog 40 #[.pointer (some ⟨B, 0, none⟩), .agg #[.int .i64 v.kind, .int .i64 v.num, .string v.text, l, f]] w
      fun e w' => e = .returned (.tuple #[.int .i64 0, .bool false]) ∧ Below w.heap.size w w' := by
  obtain ⟨a1, c1, a2, c2, rfl, rfl⟩ := hv.slices
  obtain ⟨a, c, c0, c1'⟩ := h.head
  have hBw := h.lt
  have zn : (500 : Int) ≤ (rs.length : Int) := by omega
  clear h hv
  go_enter Tryz.func40, Tryz.ntmps40
  go_wp2
  go_ret2
  exact ⟨rfl, (Below.refl _ _).alloc (Nat.le_refl _) _⟩
end
end Go.Proofs.YtfpkkobclkdniaaGreatDoor

namespace Go.Proofs.YtfpkkobclkdniaaGreatDoor
open Go.RowKit

theorem six_set {A C : List Value} {x0 x1 x2 x3 x4 x5 y1 y2 y3 y4 y5 : Value} {n : Nat} (h : A.length = n) : (((((A ++ [x0, x1, x2, x3, x4, x5] ++ C).set (n + 1) y1).set (n + 2) y2).set (n + 3) y3).set (n + 4) y4).set (n + 5) y5 = A ++ [x0, y1, y2, y3, y4, y5] ++ C := by
  subst h
  simp
theorem encDs_five {ds : List Dl} {j : Nat} {e : Dl} (h : ds[j]? = some e) (v : V) (l f : Value) :
    ((((((encDs ds).set (j * 6 + 1) (.int .i64 v.kind)).set (j * 6 + 2) (.int .i64 v.num)).set (j * 6 + 3) (.string v.text)).set (j * 6 + 4) l).set (j * 6 + 5) f) = encDs (ds.set j ⟨e.id, v, l, f⟩) := by
  have hj := (List.getElem?_eq_some_iff.1 h).1
  have e1 : encDs ds = encDs (ds.take j) ++ e.enc ++ encDs (ds.drop (j + 1)) := by
    have h5 : ds = ds.take j ++ e :: ds.drop (j + 1) := by
      have h6 := List.drop_eq_getElem_cons hj
      have h7 : ds[j] = e := by rw [List.getElem?_eq_getElem hj] at h; exact Option.some.inj h
      rw [h7] at h6
      rw [← h6, List.take_append_drop]
    have h8 : encDs ds = encDs (ds.take j ++ e :: ds.drop (j + 1)) := congrArg encDs h5
    rw [h8, encDs_append]
    simp [encDs]
  rw [e1, encDs_set ds j e _ h]
  exact six_set (by rw [encDs_length, List.length_take]; congr 1; omega)

section
variable {base B : Nat} {rs : List Rec} {last lo : Int}
theorem Set_none (k : Int) (v : V) (l f : Value) (w : World) (h : HeapAt base w B rs last) (hr : RisesR lo rs) (hn : rs.length ≤ 1000000) (hs : ∃ a1 n1 c1 a2 n2 c2, l = .slice a1 n1 c1 ∧ f = .slice a2 n2 c2) (hg : getR k rs = none) :
    Calls Tryz.prog 28 #[.pointer (some ⟨B, 0, none⟩), .int .i64 k, .agg #[.int .i64 v.kind, .int .i64 v.num, .string v.text, l, f]] w fun e w' => e = .returned (.bool false) ∧ Below w.heap.size w w' := by
  obtain ⟨a1, n1, c1, a2, n2, c2, rfl, rfl⟩ := hs
  have hpl := fun W (hW : Below w.heap.size w W) => placeH_any k W (h.below hW) hr hn
  rw [hg] at hpl
  clear h hr hn
  go_enter Tryz.func28, Tryz.ntmps28
  go_wp2_with fail
  refine (hpl _ ((Below.refl _ _).alloc (Nat.le_refl _) _)).mono ?_
  rintro e w1 ⟨rfl, hb1⟩
  have hB : Below w.heap.size w w1 := ((Below.refl _ _).alloc (Nat.le_refl _) _).trans (hb1.mono (by simp))
  clear hpl hb1
  go_wp2
  go_ret
  exact ⟨rfl, hB⟩

attribute [local go_sem ↓] Go.wp_at_zero Go.wp_at_succ
set_option maxRecDepth 100000 in
set_option maxHeartbeats 8000000 in
theorem Set_some (k : Int) (v : V) (l f : Value) (w : World) (h : HeapAt base w B rs last) (hv : Lies 3 w v l f) (hr : RisesR lo rs) (hn : rs.length ≤ 1000000) (hbase : base ≤ w.heap.size) (hg : (getR k rs).isSome = true) :
    Calls Tryz.prog 28 #[.pointer (some ⟨B, 0, none⟩), .int .i64 k, .agg #[.int .i64 v.kind, .int .i64 v.num, .string v.text, l, f]] w
      fun e w' => e = .returned (.bool true) ∧ HeapAt base w' B (setR k v rs) last ∧ Kept w w' ∧ Below base w w' := by
  have hpl := fun W (hW : Below w.heap.size w W) => placeH_any k W (h.below hW) hr hn
  rw [hg] at hpl
  obtain ⟨y, hy⟩ := Option.isSome_iff_exists.1 hg
  have hx := (ahead_at k rs hr).1 y hy
  have hset := set_split (v := v) rs hr hg
  obtain ⟨j, hjd⟩ : ∃ j, aheadH k rs = j := ⟨_, rfl⟩
  rw [hjd] at hpl hx hset
  have hj := (List.getElem?_eq_some_iff.1 hx).1
  have zj : (j : Int) < (rs.length : Int) := by omega
  obtain ⟨al, cl, af, cf, rfl, rfl⟩ := hv.slices
  have HH : Hid (HeapAt base w B rs last) := h
  have HV := (show Hid _ from And.intro hv (And.intro hx hset))
  clear h hr hg hy hx hset hjd hv
  go_enter Tryz.func28, Tryz.ntmps28
  go_wp2_with fail
  refine (hpl _ ((Below.refl _ _).alloc (Nat.le_refl _) _)).mono ?_
  rintro e w1 ⟨rfl, hb1⟩
  have hB : Below w.heap.size w w1 := ((Below.refl _ _).alloc (Nat.le_refl _) _).trans (hb1.mono (by simp))
  have r1 := row_below hb1 (heap_alloc_new w _)
  have hh1 : HeapAt base w1 B rs last := HeapAt.below HH.out hB
  obtain ⟨D, c, al0, cl0, af0, cf0, c0, hD, hbD, hc1, hc2, a0, a1, a2, a3, a4, a5, hli⟩ := hh1.at HV.out.2.1 hn
  obtain ⟨q0, q1, q2, q3, q4, qf⟩ := row5 r1
  have hlt1 : w.heap.size < w1.heap.size := lt_of_heap r1
  have hv1 : Lies 3 w1.drew v (.slice al v.list.length cl) (.slice af v.fields.length cf) := Lies.below hB HV.out.1
  have htw := twinValue_any 3 v _ _ w1.drew hv1
  have df : ∀ i, w1.frozen? ⟨D, i, none⟩ = false := by
    obtain ⟨_, s, ds, h1, h2, h3, h4⟩ := hh1
    have hl : ds.length = rs.length := by rw [← h1, List.length_map]
    obtain ⟨D', c', cur, e, _, hgg, _⟩ := cells_of_row h3 (by omega)
    have := c0
    simp [World.cell?, h2, e] at this
    intro i
    rw [← this.1]
    simp [World.frozen?, hgg]
  have H1 := (show Hid _ from And.intro hB (And.intro hh1 (And.intro hD c0)))
  have hBw := hh1.lt
  clear hpl hb1 r1 hh1 hli hv1 hB a0
  simp only at a1 a2 a3 a4 a5
  go_wp2
  have P0 := fun (w' : World) (h : Below w1.heap.size w1 w') => (h.cell (lt_of_cell c0)).trans c0
  have Q0 := fun (w' : World) (h : Below w1.heap.size w1 w') => (h.cell (lt_of_cell q0)).trans q0
  have Q1 := fun (w' : World) (h : Below w1.heap.size w1 w') => (h.cell (lt_of_cell q1)).trans q1
  have Q2 := fun (w' : World) (h : Below w1.heap.size w1 w') => (h.cell (lt_of_cell q2)).trans q2
  have Q3 := fun (w' : World) (h : Below w1.heap.size w1 w') => (h.cell (lt_of_cell q3)).trans q3
  have Q4 := fun (w' : World) (h : Below w1.heap.size w1 w') => (h.cell (lt_of_cell q4)).trans q4
  have A := (show Hid _ from And.intro a1 (And.intro a2 (And.intro a3 (And.intro a4 (And.intro a5 df)))))
  clear q0 q1 q2 q3 q4 qf c0 a1 a2 a3 a4 a5 df
  have h0 : (fun w' : World => Below w1.heap.size w1 w') w1.drew := (Below.refl _ _).drew
  refine wp_region_snoc_held2 (S := fun w' => Below w1.heap.size w1 w') (head := #[_, _, _, _, _, _, _, _, _]) (last := ⟨_, _, _, _, _, _⟩) mixed (by kernel_rfl) rfl ?_
  refine wpAnyH_take (i := 0) (oi := ⟨_, _, _, _, _, _⟩) (v := ?v0) rfl (by kernel_rfl) (by kernel_rfl) (by kernel_rfl) (fun _ _ _ h => h) (Or.inl ⟨by rfl, ?hy0⟩) h0 ?rest0
  case hy0 => (intro w hSw; (try dsimp only at hSw); go_simp; try with_reducible rfl)
  simp only [Act.put, List.setIfInBounds_toArray, List.set_cons_zero, List.set_cons_succ]
  refine wpAnyH_take (i := 1) (oi := ⟨_, _, _, _, _, _⟩) (v := ?v1) rfl (by kernel_rfl) (by kernel_rfl) (by kernel_rfl) (fun _ _ _ h => h) (Or.inl ⟨by rfl, ?hy1⟩) h0 ?rest1
  case hy1 => (intro w hSw; (try dsimp only at hSw); go_simp; try with_reducible rfl)
  simp only [Act.put, List.setIfInBounds_toArray, List.set_cons_zero, List.set_cons_succ]
  refine wpAnyH_take (i := 2) (oi := ⟨_, _, _, _, _, _⟩) (v := ?v2) rfl (by kernel_rfl) (by kernel_rfl) (by kernel_rfl) (fun _ _ _ h => h) (Or.inl ⟨by rfl, ?hy2⟩) h0 ?rest2
  case hy2 => (intro w hSw; (try dsimp only at hSw); go_simp; try with_reducible rfl)
  simp only [Act.put, List.setIfInBounds_toArray, List.set_cons_zero, List.set_cons_succ]
  refine wpAnyH_take (i := 3) (oi := ⟨_, _, _, _, _, _⟩) (v := ?v3) rfl (by kernel_rfl) (by kernel_rfl) (by kernel_rfl) (fun _ _ _ h => h) (Or.inl ⟨by rfl, ?hy3⟩) h0 ?rest3
  case hy3 => (intro w hSw; (try dsimp only at hSw); go_simp; try with_reducible rfl)
  simp only [Act.put, List.setIfInBounds_toArray, List.set_cons_zero, List.set_cons_succ]
  refine wpAnyH_take (i := 4) (oi := ⟨_, _, _, _, _, _⟩) (v := ?v4) rfl (by kernel_rfl) (by kernel_rfl) (by kernel_rfl) (fun _ _ _ h => h) (Or.inl ⟨by rfl, ?hy4⟩) h0 ?rest4
  case hy4 => (intro w hSw; (try dsimp only at hSw); go_simp; try with_reducible rfl)
  simp only [Act.put, List.setIfInBounds_toArray, List.set_cons_zero, List.set_cons_succ]
  refine wpAnyH_take (i := 5) (oi := ⟨_, _, _, _, _, _⟩) (v := ?v5) rfl (by kernel_rfl) (by kernel_rfl) (by kernel_rfl) (fun _ _ _ h => h) (Or.inl ⟨by rfl, ?hy5⟩) h0 ?rest5
  case hy5 => (intro w hSw; (try dsimp only at hSw); go_simp; try with_reducible rfl)
  simp only [Act.put, List.setIfInBounds_toArray, List.set_cons_zero, List.set_cons_succ]
  refine wpAnyH_ready (rs := [6]) (by kernel_rfl) (by simp) ?_
  refine AllReadyH.cons (o := ⟨_, _, _, _, _, _⟩) rfl (fun K hK => ?_) AllReadyH.nil
  go_simp
  refine htw.mono ?_
  rintro e w2 ⟨l', f', rfl, hcp, hb2⟩
  have hrep := hcp.rep
  obtain ⟨al', cl', af', cf', rfl, rfl⟩ := hrep.slices
  have h2 : Below w1.heap.size w1 w2 := Below.drop_drewH hb2
  have H2 := (show Hid _ from And.intro hrep h2)
  clear hcp hrep hb2 htw
  refine hK.out _ _ h2 (fun hHeld => ?_)
  clear hK K hHeld
  try simp only [Act.put, List.setIfInBounds_toArray, List.set_cons_zero, List.set_cons_succ]
  refine wpAnyH_ready (rs := [7]) (by kernel_rfl) (by simp) ?_
  refine AllReadyH.cons (o := ⟨_, _, _, _, _, _⟩) rfl (fun K hK => ?_) AllReadyH.nil
  go_simp
  refine hK.out _ _ h2 (fun hHeld => ?_)
  clear hK K hHeld
  try simp only [Act.put, List.setIfInBounds_toArray, List.set_cons_zero, List.set_cons_succ]
  refine wpAnyH_ready (rs := [8]) (by kernel_rfl) (by simp) ?_
  refine AllReadyH.cons (o := ⟨_, _, _, _, _, _⟩) rfl (fun K hK => ?_) AllReadyH.nil
  go_simp
  refine hK.out _ _ h2 (fun hHeld => ?_)
  clear hK K hHeld
  try simp only [Act.put, List.setIfInBounds_toArray, List.set_cons_zero, List.set_cons_succ]
  refine wpAnyH_done (by kernel_rfl) ?_ _
  obtain ⟨a1, a2, a3, a4, a5, df⟩ := A.out
  have b1 := (h2.cell (lt_of_cell a1)).trans a1
  have b2 := (h2.cell (lt_of_cell a2)).trans a2
  have b3 := (h2.cell (lt_of_cell a3)).trans a3
  have b4 := (h2.cell (lt_of_cell a4)).trans a4
  have b5 := (h2.cell (lt_of_cell a5)).trans a5
  have bf : ∀ i, w2.frozen? ⟨D, i, none⟩ = false := fun i => (h2.frozen (p := ⟨D, i, none⟩) hD).trans (df i)
  clear a1 a2 a3 a4 a5 df P0 Q0 Q1 Q2 Q3 Q4 h2 h0
  show Oper.wp _ _ _ _ _ _
  go_simp
  go_wp2
  go_ret
  obtain ⟨hB, hh1, hD, hc0⟩ := H1.out
  obtain ⟨hrep, h2⟩ := H2.out
  obtain ⟨hv, hx, hset⟩ := HV.out
  have hh2 : HeapAt base w2 B rs last := HeapAt.below hh1 h2
  obtain ⟨h0, s, ds, e1, e2, e3, e4⟩ := hh2
  have hl : ds.length = rs.length := by rw [← e1, List.length_map]
  have hc2 : w2.cell? ⟨B, 0, none⟩ = some (.slice (some ⟨D, 0, none⟩) rs.length c) := (h2.cell (lt_of_cell hc0)).trans hc0
  obtain rfl : s = .slice (some ⟨D, 0, none⟩) ds.length c := by
    simp [World.cell?, e2] at hc2
    rw [hc2, hl]
  obtain ⟨d, hd, hdx⟩ : ∃ d, ds[j]? = some d ∧ Dl.pairR d = (k, y) := by
    rw [← e1, List.getElem?_map] at hx
    cases hd : ds[j]? with
    | none => rw [hd] at hx; cases hx
    | some d => rw [hd] at hx; exact ⟨d, rfl, by simpa using hx⟩
  have hdk : d.id = k := congrArg Prod.fst hdx
  have hlies : Lies 4 w2 v (.slice al' v.list.length cl') (.slice af' v.fields.length cf') := Rep.lies hrep
  have zb2 : base ≤ w2.heap.size := by have := hB.size; have := h2.size; omega
  have hb2 : Below base w w2 := (hB.trans (h2.mono hB.size)).mono hbase
  have hk2 : Kept w w2 := (below_kept hB).trans (below_kept h2)
  obtain ⟨t1, g1⟩ := e3.stored (j * 6 + 1) (.int .i64 v.kind)
  obtain ⟨t2, g2⟩ := t1.stored (j * 6 + 2) (.int .i64 v.num)
  obtain ⟨t3, g3⟩ := t2.stored (j * 6 + 3) (.string v.text)
  obtain ⟨t4, g4⟩ := t3.stored (j * 6 + 4) (.slice al' v.list.length cl')
  obtain ⟨t5, g5⟩ := t4.stored (j * 6 + 5) (.slice af' v.fields.length cf')
  rw [encDs_five hd, hdk] at t5
  have hkS : Kept w2 _ := (kept_grown e3 g1).trans ((kept_grown t1 g2).trans ((kept_grown t2 g3).trans ((kept_grown t3 g4).trans (kept_grown t4 g5))))
  have hDB : B ≠ D := by
    intro e
    obtain ⟨D', c', cur, e6, _, hgg, _⟩ := cells_of_row e3 (by omega)
    simp only [Value.slice.injEq, Option.some.injEq, Addr.mk.injEq, true_and, and_true] at e6
    rw [← e6.1, ← e, e2] at hgg
    cases hgg
  refine ⟨rfl, ⟨h0, .slice (some ⟨D, 0, none⟩) ds.length c, ds.set j ⟨k, v, .slice al' v.list.length cl', .slice af' v.fields.length cf'⟩, ?_, ?_, ?_, ?_⟩, hk2.trans hkS, ?_⟩
  · rw [hset, List.map_set, e1]; rfl
  · rw [heap_setCell_ne _ _ _ hDB, heap_setCell_ne _ _ _ hDB, heap_setCell_ne _ _ _ hDB, heap_setCell_ne _ _ _ hDB, heap_setCell_ne _ _ _ hDB]; exact e2
  · rw [List.length_set]; exact t5
  · intro x hx
    rcases List.mem_or_eq_of_mem_set hx with hx | rfl
    · exact (e4 x hx).kept hkS
    · exact hlies.kept hkS
  · exact below_grown (below_grown (below_grown (below_grown (below_grown hb2 e3 g1 zb2) t1 g2 (by have := g1.size; omega)) t2 g3 (by have := g1.size; have := g2.size; omega)) t3 g4 (by have := g1.size; have := g2.size; have := g3.size; omega)) t4 g5 (by have := g1.size; have := g2.size; have := g3.size; have := g4.size; omega)

theorem Delete_none (k : Int) (w : World) (h : HeapAt base w B rs last) (hr : RisesR lo rs) (hn : rs.length ≤ 1000000) (hg : getR k rs = none) :
    Calls Tryz.prog 20 #[.pointer (some ⟨B, 0, none⟩), .int .i64 k] w fun e w' => e = .returned (.bool false) ∧ Below w.heap.size w w' := by
  have hpl := placeH_any k w h hr hn
  rw [hg] at hpl
  clear h hr hn
  go_enter Tryz.func20, Tryz.ntmps20
  go_wp2_with fail
  refine hpl.mono ?_
  rintro e w1 ⟨rfl, hb1⟩
  clear hpl
  go_wp2
  go_ret
  exact ⟨rfl, hb1⟩

set_option maxRecDepth 100000 in
set_option maxHeartbeats 2000000 in
theorem Delete_some (k : Int) (w : World) (h : HeapAt base w B rs last) (hr : RisesR lo rs) (hn : rs.length ≤ 1000000) (hbase : base ≤ w.heap.size) (hg : (getR k rs).isSome = true) :
    Calls Tryz.prog 20 #[.pointer (some ⟨B, 0, none⟩), .int .i64 k] w
      fun e w' => e = .returned (.bool true) ∧ HeapAt base w' B (delR k rs) last ∧ Kept w w' ∧ Below base w w' := by
  have hpl := placeH_any k w h hr hn
  rw [hg] at hpl
  obtain ⟨y, hy⟩ := Option.isSome_iff_exists.1 hg
  have hx := (ahead_at k rs hr).1 y hy
  have hdel := del_split rs hr hg
  obtain ⟨j, hjd⟩ : ∃ j, aheadH k rs = j := ⟨_, rfl⟩
  rw [hjd] at hpl hx hdel
  have hj := (List.getElem?_eq_some_iff.1 hx).1
  have zj : wrap64 ((j : Int) + 1) = (j : Int) + 1 := by unfold wrap64; omega
  have HH : Hid (HeapAt base w B rs last) := h
  clear h hr hg hy hx hjd
  go_enter Tryz.func20, Tryz.ntmps20
  go_wp2_with fail
  refine hpl.mono ?_
  rintro e w1 ⟨rfl, hb1⟩
  have hh1 : HeapAt base w1 B rs last := HeapAt.below HH.out hb1
  obtain ⟨h0, s, ds, e1, e2, e3, e4⟩ := hh1
  have hl : ds.length = rs.length := by rw [← e1, List.length_map]
  obtain ⟨D, c, cur, rfl, hbD, hgD, hc1, hc2, _⟩ := cells_of_row e3 (by omega)
  have hdl := DeleteD_any ds base D c j w1 (encDs_one fun d hd => by
    obtain ⟨a1, c1, a2, c2, h1, h2⟩ := (e4 d hd).slices
    exact ⟨_, _, _, _, _, _, h1, h2⟩) e3 (by omega)
  have c0 : w1.cell? ⟨B, 0, none⟩ = some (.slice (some ⟨D, 0, none⟩) ds.length c) := by simp [World.cell?, e2]
  have H1 := (show Hid _ from And.intro h0 (And.intro e1 (And.intro e2 (And.intro e3 (And.intro e4 (And.intro hl (And.intro hb1 (And.intro hgD hdel))))))))
  clear hpl hb1 h0 e1 e2 e3 e4 hl hgD hdel
  go_wp2_with fail
  refine hdl.mono ?_
  rintro e w2 ⟨rfl, hrow2, hg2⟩
  obtain ⟨h0, e1, e2, e3, e4, hl, hb1, hgD, hdel⟩ := H1.out
  have hDB : B ≠ D := fun e => by rw [← e, e2] at hgD; cases hgD
  have hB2 : w2.heap[B]? = some (.cells #[.slice (some ⟨D, 0, none⟩) ds.length c, .int .i64 last] 89 (0, 0)) := (hg2.block B (lt_of_heap e2) (fun e => hDB (by simpa using e))).trans e2
  have k0 : w2.cell? ⟨B, 0, none⟩ = some (.slice (some ⟨D, 0, none⟩) ds.length c) := by simp [World.cell?, hB2]
  have kf : ∀ i, w2.frozen? ⟨B, i, none⟩ = false := fun i => by simp [World.frozen?, hB2]
  have H2 := (show Hid _ from And.intro hB2 (And.intro hrow2 (And.intro hg2 hDB)))
  clear h0 e1 e2 e3 e4 hl hb1 hgD hdel hdl hrow2 hg2 hDB hB2 c0
  go_wp2
  go_ret
  obtain ⟨h0, e1, e2, e3, e4, hl, hb1, hgD, hdel⟩ := H1.out
  obtain ⟨hB2, hrow2, hg2, hDB⟩ := H2.out
  have hk1 : Kept w w1 := below_kept hb1
  have hk2 : Kept w1 w2 := kept_grown e3 hg2
  have hk3 := kept_setCell (i := 0) (u := .slice (some ⟨D, 0, none⟩) (ds.length - 1) c) hB2
  have hlen : (ds.take j ++ ds.drop (j + 1)).length = ds.length - 1 := by simp; omega
  refine ⟨rfl, ⟨h0, .slice (some ⟨D, 0, none⟩) (ds.length - 1) c, ds.take j ++ ds.drop (j + 1), ?_, ?_, ?_, ?_⟩, hk1.trans (hk2.trans hk3), ?_⟩
  · rw [hdel, ← e1, List.map_append, List.map_take, List.map_drop]
  · rw [setCell_row hB2]; rfl
  · rw [hlen]
    refine ⟨hrow2.1, ?_⟩
    rcases hrow2.2 with hn0 | ⟨g, cap, cur2, e, hb, hgg, rest⟩
    · exact .inl hn0
    · refine .inr ⟨g, cap, cur2, e, hb, ?_, rest⟩
      simp only [Value.slice.injEq, Option.some.injEq, Addr.mk.injEq, true_and, and_true] at e
      rw [heap_setCell_ne _ _ _ (fun e2 => hDB (by rw [e.1]; exact e2.symm))]
      exact hgg
  · intro d hd
    have hm : d ∈ ds := by
      rcases List.mem_append.1 hd with hd | hd
      · exact List.mem_of_mem_take hd
      · exact List.mem_of_mem_drop hd
    exact (e4 d hm).kept (hk2.trans hk3)
  · exact (below_grown (hb1.mono hbase) e3 hg2 (by have := hb1.size; omega)).setCell h0 _
end
end Go.Proofs.YtfpkkobclkdniaaGreatDoor

namespace Go.Proofs.YtfpkkobclkdniaaGreatDoor
open Go.RowKit

def HSt (base : Nat) (W : World) (B : Nat) (rs : List Rec) (last : Int) : Prop := HeapAt base W B rs last ∧ RisesR 0 rs ∧ UpTo last rs ∧ 0 ≤ last ∧ rs.length ≤ 500
section
variable {base B : Nat} {rs : List Rec} {last : Int}
theorem HSt.cells {W W' : World} (h : HSt base W B rs last) (k : Cells W W') : HSt base W' B rs last := ⟨h.1.cells k, h.2⟩
theorem HSt.below {W W' : World} (h : HSt base W B rs last) (k : Below W.heap.size W W') : HSt base W' B rs last := ⟨h.1.below k, h.2⟩
theorem HSt.base_le {W : World} (h : HSt base W B rs last) : base ≤ W.heap.size := by
  have h1 := h.1.1
  have h2 := h.1.lt
  omega

theorem NewH_any (w : World) : Calls Tryz.prog 19 #[] w fun e w' => e = .returned (.pointer (some ⟨w.heap.size, 0, none⟩)) ∧ HSt w.heap.size w' w.heap.size [] 0 ∧ Below w.heap.size w w' :=
  (New_any w).mono fun e w' h => ⟨h.1, ⟨h.2.1, trivial, fun r hr => (by cases hr), Int.le_refl _, Nat.zero_le _⟩, h.2.2⟩
theorem LenH_any (w : World) (h : HSt base w B rs last) : Calls Tryz.prog 25 #[.pointer (some ⟨B, 0, none⟩)] w fun e w' => e = .returned (.int .i64 rs.length) ∧ w' = w := Len_any w h.1
theorem InsH_any (v : V) (l f : Value) (w : World) (h : HSt base w B rs last) (hv : Lies 3 w v l f) (hn : rs.length < 500) (hl : last ≤ 1000000000) :
    Calls Tryz.prog 40 #[.pointer (some ⟨B, 0, none⟩), .agg #[.int .i64 v.kind, .int .i64 v.num, .string v.text, l, f]] w
      fun e w' => e = .returned (.tuple #[.int .i64 (last + 1), .bool true]) ∧ HSt base w' B (rs ++ [(last + 1, v)]) (last + 1) ∧ Kept w w' ∧ Below base w w' :=
  (Insert_room v l f w h.1 hv hn h.base_le (by have := h.2.2.2.1; omega) hl).mono fun e w' k => ⟨k.1, ⟨k.2.1, rises_app h.2.1 h.2.2.1 h.2.2.2.1, upTo_app h.2.2.1, by have := h.2.2.2.1; omega, by simp; omega⟩, k.2.2⟩
theorem FullH_any (v : V) (l f : Value) (w : World) (h : HSt base w B rs last) (hv : Lies 3 w v l f) (hn : 500 ≤ rs.length) :
    Calls Tryz.prog 40 #[.pointer (some ⟨B, 0, none⟩), .agg #[.int .i64 v.kind, .int .i64 v.num, .string v.text, l, f]] w
      fun e w' => e = .returned (.tuple #[.int .i64 0, .bool false]) ∧ Below w.heap.size w w' := Insert_full v l f w h.1 hv hn
theorem SetH_any (k : Int) (v : V) (l f : Value) (w : World) (h : HSt base w B rs last) (hv : Lies 3 w v l f) :
    Calls Tryz.prog 28 #[.pointer (some ⟨B, 0, none⟩), .int .i64 k, .agg #[.int .i64 v.kind, .int .i64 v.num, .string v.text, l, f]] w
      fun e w' => e = .returned (.bool (getR k rs).isSome) ∧ HSt base w' B (setR k v rs) last ∧ Kept w w' ∧ Below base w w' := by
  have hn : rs.length ≤ 1000000 := by have := h.2.2.2.2; omega
  cases hg : getR k rs with
  | none =>
    refine (Set_none k v l f w h.1 h.2.1 hn ?_ hg).mono fun e w' k => ⟨k.1, ?_, below_kept k.2, k.2.mono h.base_le⟩
    · obtain ⟨al, cl, af, cf, e1, e2⟩ := hv.slices
      exact ⟨_, _, _, _, _, _, e1, e2⟩
    · rw [set_noneR hg]; exact h.below k.2
  | some y =>
    exact (Set_some k v l f w h.1 hv h.2.1 hn h.base_le (by rw [hg]; rfl)).mono fun e w' k => ⟨k.1, ⟨k.2.1, rises_setR h.2.1, upTo_set h.2.2.1, h.2.2.2.1, by rw [len_setR]; exact h.2.2.2.2⟩, k.2.2⟩
theorem DelH_any (k : Int) (w : World) (h : HSt base w B rs last) :
    Calls Tryz.prog 20 #[.pointer (some ⟨B, 0, none⟩), .int .i64 k] w
      fun e w' => e = .returned (.bool (getR k rs).isSome) ∧ HSt base w' B (delR k rs) last ∧ Kept w w' ∧ Below base w w' := by
  have hn : rs.length ≤ 1000000 := by have := h.2.2.2.2; omega
  cases hg : getR k rs with
  | none => exact (Delete_none k w h.1 h.2.1 hn hg).mono fun e w' k => ⟨k.1, by rw [del_noneR hg]; exact h.below k.2, below_kept k.2, k.2.mono h.base_le⟩
  | some y =>
    exact (Delete_some k w h.1 h.2.1 hn h.base_le (by rw [hg]; rfl)).mono fun e w' k => ⟨k.1, ⟨k.2.1, rises_delR h.2.1, upTo_del h.2.2.1, h.2.2.2.1, by rw [len_delR]; have := h.2.2.2.2; omega⟩, k.2.2⟩
theorem GetH_any (k : Int) (w : World) (h : HSt base w B rs last) :
    Calls Tryz.prog 26 #[.pointer (some ⟨B, 0, none⟩), .int .i64 k] w fun e w' => ∃ l f, e = .returned (.tuple #[.agg #[.int .i64 ((getR k rs).getD zeroH).kind, .int .i64 ((getR k rs).getD zeroH).num, .string ((getR k rs).getD zeroH).text, l, f], .bool (getR k rs).isSome]) ∧ Lies 5 w' ((getR k rs).getD zeroH) l f ∧ Below w.heap.size w w' := by
  have hn : rs.length ≤ 1000000 := by have := h.2.2.2.2; omega
  cases hg : getR k rs with
  | none => exact (Get_none k w h.1 h.2.1 hn hg).mono fun e w' k => ⟨_, _, k.1, lies_zero, k.2⟩
  | some y => exact (Get_some k y w h.1 h.2.1 hn hg).mono fun e w' ⟨l, f, k⟩ => ⟨l, f, k⟩
theorem NextH_none (k : Int) (w : World) (h : HSt base w B rs last) (hg : nextR k rs = none) :
    Calls Tryz.prog 43 #[.pointer (some ⟨B, 0, none⟩), .int .i64 k] w fun e w' => e = .returned (.tuple #[.agg #[.int .i64 0, .int .i64 0, .int .i64 0, .string ⟨#[]⟩, .slice none 0 0, .slice none 0 0], .bool false]) ∧ Below w.heap.size w w' :=
  NextD_none k w h.1 h.2.1 (by have := h.2.2.2.2; omega) hg
theorem NextH_some (k : Int) (x : Rec) (w : World) (h : HSt base w B rs last) (hg : nextR k rs = some x) :
    Calls Tryz.prog 43 #[.pointer (some ⟨B, 0, none⟩), .int .i64 k] w fun e w' => ∃ l f, e = .returned (.tuple #[.agg #[.int .i64 x.1, .int .i64 x.2.kind, .int .i64 x.2.num, .string x.2.text, l, f], .bool true]) ∧ Lies 5 w' x.2 l f ∧ Below w.heap.size w w' :=
  NextD_some k x w h.1 h.2.1 (by have := h.2.2.2.2; omega) hg
end

def intH (n : Int) : V := ⟨2, n, ⟨#[]⟩, [], []⟩
theorem lies_int {n : Nat} {W : World} {k : Int} : Lies n W (intH k) (.slice none 0 0) (.slice none 0 0) := (show Rep _ 0 W (intH k) _ _ from ⟨rfl, rfl, rfl, rfl⟩ : Rep (fun _ => True) 0 W (intH k) _ _).le (Nat.zero_le n)

end Go.Proofs.YtfpkkobclkdniaaGreatDoor
