/-
  First, Last, After, Before of a tree by their contracts. Conditions: as stated.
  The law's All by its contract: all entries of a tree, by After. Conditions: as stated.
  The law's Same by its contract: are two rows of entries the same. No conditions beyond those stated.
  tell and Nodes by their contracts: all nodes of a tree, each ahead of those below it. Conditions: as stated.
  rise and sink by their contracts: the topmost node of a tree. Conditions: as stated.
-/
import Derived.Test.YtoaekmighinmhaaU20
import Derived.Test.YtoaekmighinmhaaU7
import Derived.Deep.Heap
namespace Go.Proofs.Ytoaekmighinmhaa
open Go.RowKit

section
variable {F : Nat → Prop} {T : Nat} {l : List En}
set_option maxRecDepth 100000 in
theorem LastT_any (w : World) (h : TrF F w T l) : Calls Try.prog 56 #[.pointer (some ⟨T, 0, none⟩)] w fun r w' => r = .returned (retO l.getLast?) ∧ Below w.heap.size w w' := by
  obtain ⟨n, t, h1, hl, -⟩ := h
  have hr0 : ∃ W0, w.alloc (.cells #[.string ⟨#[]⟩, .int .i64 0] 34) = W0 := ⟨_, rfl⟩
  obtain ⟨W0, hW0⟩ := hr0
  have hbW : Below w.heap.size w W0 := by rw [← hW0]; exact (Below.refl _ _).alloc (Nat.le_refl _) _
  have r0 : W0.heap[w.heap.size]? = some (.cells #[.string ⟨#[]⟩, .int .i64 0] 34) := by rw [← hW0]; exact heap_alloc_new _ _
  have h2 := h1.below hbW
  obtain ⟨c0, c1, -, -⟩ := h2.view
  obtain ⟨q0, q1, qf, hlt⟩ := row2_of r0
  cases hx : l.getLast? with
  | none =>
    have hl0 : l = [] := List.getLast?_eq_none_iff.1 hx
    rw [hl, hl0] at c1
    clear h1 h2 hl hx r0
    go_enter Try.func56, Try.ntmps56
    go_wp2
    rw [retO_none]
    refine bodyPost_ret (v := .tuple #[.agg #[.string ⟨#[]⟩, .int .i64 0], .bool false]) (by simp [results, Try.results56, go_sem, q0, q1]) rfl ⟨rfl, ?_⟩
    exact (hbW.setCell (Nat.le_refl _) _).setCell (Nat.le_refl _) _
  | some x =>
    obtain ⟨xk, xi⟩ := x
    have hne : ¬ (l.length : Int) = 0 := by
      intro hc
      have : l = [] := List.length_eq_zero_iff.1 (by omega)
      rw [this] at hx; cases hx
    have hes : 1 ≤ t.es.length := by
      rcases h1.top.2.2 with h0 | h0
      · subst h0
        have e : t.es = l := hl
        rw [e]; omega
      · exact h0
    have hcall := last_any n t (xk, xi) W0 h2.own.1 h2.top.1 hes h2.top.2.1 (by rw [hl]; exact hx)
    rw [hl] at c1
    generalize l.length = m at *
    have hne2 : ¬ m = 0 := by omega
    clear h1 h2 hl hx hes
    go_enter Try.func56, Try.ntmps56
    go_wp2_with fail
    refine hcall.mono ?_
    rintro e w1 ⟨rfl, hb1⟩
    obtain ⟨e0, e1, ef, hel⟩ := row2_of ((hb1.block _ hlt).trans r0)
    have hb := hbW.trans (hb1.mono hbW.size)
    clear hcall hb1 r0 q0 q1 qf c0 c1 hW0
    go_wp2
    rw [retO_some]
    refine bodyPost_ret (v := .tuple #[.agg #[.string xk, .int .i64 xi], .bool true]) (by simp [results, Try.results56, go_sem, e0, e1]) rfl ⟨rfl, ?_⟩
    exact (hb.setCell (Nat.le_refl _) _).setCell (Nat.le_refl _) _
theorem retO_form (o : Option En) : ∃ (k : ByteArray) (i : Int) (b : Bool), retO o = .tuple #[.agg #[.string k, .int .i64 i], .bool b] := by
  cases o with
  | none => exact ⟨_, _, _, rfl⟩
  | some x => exact ⟨_, _, _, rfl⟩
set_option maxRecDepth 100000 in
theorem AfterT_any (e : En) (w : World) (h : TrF F w T l) : Calls Try.prog 57 #[.pointer (some ⟨T, 0, none⟩), .agg #[.string e.1, .int .i64 e.2]] w fun r w' => r = .returned (retO (afterE e l)) ∧ Below w.heap.size w w' := by
  obtain ⟨n, t, h1, hl, -⟩ := h
  obtain ⟨ek, ei⟩ := e
  obtain ⟨W0, hW0, hwW, hs0, k0, k1, r0⟩ := box2_any w ek ei
  have h2 := h1.below hwW
  obtain ⟨c0, -, -, hTl⟩ := h2.view
  have hcall := after_any n t (ek, ei) W0.drew (h2.own.1.below (Below.refl _ _).drew) h2.top.1 h2.top.2.1 h2.sort
  rw [hl] at hcall
  obtain ⟨xk, xi, xb, hx⟩ := retO_form (afterE (ek, ei) l)
  rw [hx] at hcall ⊢
  have P0 := fun (w' : World) (h : w'.heap[T]? = W0.heap[T]? ∧ w'.heap[w.heap.size]? = W0.heap[w.heap.size]?) => (World.cell?_of_block (a := ⟨T, 0, none⟩) h.1).trans c0
  have P1 := fun (w' : World) (h : w'.heap[T]? = W0.heap[T]? ∧ w'.heap[w.heap.size]? = W0.heap[w.heap.size]?) => (World.cell?_of_block (a := ⟨w.heap.size, 0, none⟩) h.2).trans k0
  have P2 := fun (w' : World) (h : w'.heap[T]? = W0.heap[T]? ∧ w'.heap[w.heap.size]? = W0.heap[w.heap.size]?) => (World.cell?_of_block (a := ⟨w.heap.size, 1, none⟩) h.2).trans k1
  have hTw := lt_of_heap h1.cell
  clear h1 h2 hl hx c0 k0 k1
  have h0 : (fun w' : World => w'.heap[T]? = W0.heap[T]? ∧ w'.heap[w.heap.size]? = W0.heap[w.heap.size]?) W0.drew := ⟨rfl, rfl⟩
  go_enter Try.func57, Try.ntmps57
  go_wp2_with fail
  refine wp_region_held (S := fun w' => w'.heap[T]? = W0.heap[T]? ∧ w'.heap[w.heap.size]? = W0.heap[w.heap.size]?) mixed ?_
  refine wpAnyH_take (i := 0) (oi := ⟨_, _, _, _, _, _⟩) (v := ?v1) rfl (by kernel_rfl) (by kernel_rfl) (by kernel_rfl) (fun _ _ _ h => h) (Or.inl ⟨by rfl, ?hy1⟩) h0 ?rest1
  case hy1 => (intro w hSw; (try dsimp only at hSw); go_simp; try with_reducible rfl)
  simp only [Act.put, List.setIfInBounds_toArray, List.set_cons_zero, List.set_cons_succ]
  refine wpAnyH_take (i := 1) (oi := ⟨_, _, _, _, _, _⟩) (v := ?v2) rfl (by kernel_rfl) (by kernel_rfl) (by kernel_rfl) (fun _ _ _ h => h) (Or.inl ⟨by rfl, ?hy2⟩) h0 ?rest2
  case hy2 => (intro w hSw; (try dsimp only at hSw); go_simp; try with_reducible rfl)
  simp only [Act.put, List.setIfInBounds_toArray, List.set_cons_zero, List.set_cons_succ]
  refine wpAnyH_take (i := 2) (oi := ⟨_, _, _, _, _, _⟩) (v := ?v3) rfl (by kernel_rfl) (by kernel_rfl) (by kernel_rfl) (fun _ _ _ h => h) (Or.inl ⟨by rfl, ?hy3⟩) h0 ?rest3
  case hy3 => (intro w hSw; (try dsimp only at hSw); go_simp; try with_reducible rfl)
  simp only [Act.put, List.setIfInBounds_toArray, List.set_cons_zero, List.set_cons_succ]
  refine wpAnyH_take (i := 3) (oi := ⟨_, _, _, _, _, _⟩) (v := ?v4) rfl (by kernel_rfl) (by kernel_rfl) (by kernel_rfl) (fun _ _ _ h => h) (Or.inl ⟨by rfl, ?hy4⟩) h0 ?rest4
  case hy4 => (intro w hSw; (try dsimp only at hSw); go_simp; try with_reducible rfl)
  simp only [Act.put, List.setIfInBounds_toArray, List.set_cons_zero, List.set_cons_succ]
  refine wpAnyH_take (i := 4) (oi := ⟨_, _, _, _, _, _⟩) (v := ?v5) rfl (by kernel_rfl) (by kernel_rfl) (by kernel_rfl) (fun _ _ _ h => h) (Or.inl ⟨by rfl, ?hy5⟩) h0 ?rest5
  case hy5 => (intro w hSw; (try dsimp only at hSw); go_simp; try with_reducible rfl)
  simp only [Act.put, List.setIfInBounds_toArray, List.set_cons_zero, List.set_cons_succ]
  refine wpAnyH_ready (rs := [5]) (by kernel_rfl) (by simp) ?_
  refine AllReadyH.cons (o := ⟨_, _, _, _, _, _⟩) rfl (fun K hK => ?_) AllReadyH.nil
  go_simp
  refine hcall.mono ?_
  rintro e w1 ⟨rfl, hb1⟩
  have h3 : w1.heap[T]? = W0.heap[T]? ∧ w1.heap[w.heap.size]? = W0.heap[w.heap.size]? := ⟨hb1.block T hTl, hb1.block w.heap.size (show w.heap.size < W0.heap.size by omega)⟩
  obtain ⟨e0, e1, ef, hel⟩ := row2_of ((hb1.block _ (show w.heap.size + 1 < W0.heap.size by omega)).trans r0)
  have hb := hwW.trans ((Below.drop_drew hb1).mono hwW.size)
  clear hcall hb1 r0
  refine hK.out _ _ h3 (fun hHeld => ?_)
  clear hK K hHeld
  try simp only [Act.put, List.setIfInBounds_toArray, List.set_cons_zero, List.set_cons_succ]
  refine wpAnyH_take (i := 6) (oi := ⟨_, _, _, _, _, _⟩) (v := ?v6) rfl (by kernel_rfl) (by kernel_rfl) (by kernel_rfl) (fun _ _ _ h => h) (Or.inl ⟨by rfl, ?hy6⟩) h3 ?rest6
  case hy6 => (intro w hSw; (try dsimp only at hSw); go_simp; try with_reducible rfl)
  simp only [Act.put, List.setIfInBounds_toArray, List.set_cons_zero, List.set_cons_succ]
  refine wpAnyH_take (i := 7) (oi := ⟨_, _, _, _, _, _⟩) (v := ?v7) rfl (by kernel_rfl) (by kernel_rfl) (by kernel_rfl) (fun _ _ _ h => h) (Or.inl ⟨by rfl, ?hy7⟩) h3 ?rest7
  case hy7 => (intro w hSw; (try dsimp only at hSw); go_simp; try with_reducible rfl)
  simp only [Act.put, List.setIfInBounds_toArray, List.set_cons_zero, List.set_cons_succ]
  refine wpAnyH_ready (rs := [8]) (by kernel_rfl) (by simp) ?_
  refine AllReadyH.cons (o := ⟨_, _, _, _, _, _⟩) rfl (fun K hK => ?_) AllReadyH.nil
  go_simp
  have h4 : ((w1.setCell ⟨w.heap.size + 1, 0, none⟩ (.string xk)).setCell ⟨w.heap.size + 1, 1, none⟩ (.int .i64 xi)).heap[T]? = W0.heap[T]? ∧ ((w1.setCell ⟨w.heap.size + 1, 0, none⟩ (.string xk)).setCell ⟨w.heap.size + 1, 1, none⟩ (.int .i64 xi)).heap[w.heap.size]? = W0.heap[w.heap.size]? := by
    have n1 : T ≠ w.heap.size + 1 := by omega
    have n2 : w.heap.size ≠ w.heap.size + 1 := by omega
    rw [Below.heap_setCell _ _ _ _ n1, Below.heap_setCell _ _ _ _ n1, Below.heap_setCell _ _ _ _ n2, Below.heap_setCell _ _ _ _ n2]
    exact h3
  refine hK.out _ _ h4 (fun hHeld => ?_)
  clear hK K hHeld
  try simp only [Act.put, List.setIfInBounds_toArray, List.set_cons_zero, List.set_cons_succ]
  refine wpAnyH_ready (rs := [9]) (by kernel_rfl) (by simp) ?_
  refine AllReadyH.cons (o := ⟨_, _, _, _, _, _⟩) rfl (fun K hK => ?_) AllReadyH.nil
  go_simp
  refine hK.out _ _ h4 (fun hHeld => ?_)
  clear hK K hHeld
  try simp only [Act.put, List.setIfInBounds_toArray, List.set_cons_zero, List.set_cons_succ]
  refine wpAnyH_done (by kernel_rfl) ?_ _
  clear P0 P1 P2 h0 h3 h4 hW0
  go_wp2
  refine bodyPost_ret (v := .tuple #[.agg #[.string xk, .int .i64 xi], .bool xb]) (by simp [results, Try.results57, go_sem, e0, e1]) rfl ⟨rfl, ?_⟩
  exact (hb.setCell (Nat.le_succ _) _).setCell (Nat.le_succ _) _
set_option maxRecDepth 100000 in
theorem BeforeT_any (e : En) (w : World) (h : TrF F w T l) : Calls Try.prog 55 #[.pointer (some ⟨T, 0, none⟩), .agg #[.string e.1, .int .i64 e.2]] w fun r w' => r = .returned (retO (beforeE e l)) ∧ Below w.heap.size w w' := by
  obtain ⟨n, t, h1, hl, -⟩ := h
  obtain ⟨ek, ei⟩ := e
  obtain ⟨W0, hW0, hwW, hs0, k0, k1, r0⟩ := box2_any w ek ei
  have h2 := h1.below hwW
  obtain ⟨c0, -, -, hTl⟩ := h2.view
  have hcall := before_any n t (ek, ei) W0.drew (h2.own.1.below (Below.refl _ _).drew) h2.top.1 h2.top.2.1 h2.sort
  rw [hl] at hcall
  obtain ⟨xk, xi, xb, hx⟩ := retO_form (beforeE (ek, ei) l)
  rw [hx] at hcall ⊢
  have P0 := fun (w' : World) (h : w'.heap[T]? = W0.heap[T]? ∧ w'.heap[w.heap.size]? = W0.heap[w.heap.size]?) => (World.cell?_of_block (a := ⟨T, 0, none⟩) h.1).trans c0
  have P1 := fun (w' : World) (h : w'.heap[T]? = W0.heap[T]? ∧ w'.heap[w.heap.size]? = W0.heap[w.heap.size]?) => (World.cell?_of_block (a := ⟨w.heap.size, 0, none⟩) h.2).trans k0
  have P2 := fun (w' : World) (h : w'.heap[T]? = W0.heap[T]? ∧ w'.heap[w.heap.size]? = W0.heap[w.heap.size]?) => (World.cell?_of_block (a := ⟨w.heap.size, 1, none⟩) h.2).trans k1
  have hTw := lt_of_heap h1.cell
  clear h1 h2 hl hx c0 k0 k1
  have h0 : (fun w' : World => w'.heap[T]? = W0.heap[T]? ∧ w'.heap[w.heap.size]? = W0.heap[w.heap.size]?) W0.drew := ⟨rfl, rfl⟩
  go_enter Try.func55, Try.ntmps55
  go_wp2_with fail
  refine wp_region_held (S := fun w' => w'.heap[T]? = W0.heap[T]? ∧ w'.heap[w.heap.size]? = W0.heap[w.heap.size]?) mixed ?_
  refine wpAnyH_take (i := 0) (oi := ⟨_, _, _, _, _, _⟩) (v := ?v8) rfl (by kernel_rfl) (by kernel_rfl) (by kernel_rfl) (fun _ _ _ h => h) (Or.inl ⟨by rfl, ?hy8⟩) h0 ?rest8
  case hy8 => (intro w hSw; (try dsimp only at hSw); go_simp; try with_reducible rfl)
  simp only [Act.put, List.setIfInBounds_toArray, List.set_cons_zero, List.set_cons_succ]
  refine wpAnyH_take (i := 1) (oi := ⟨_, _, _, _, _, _⟩) (v := ?v9) rfl (by kernel_rfl) (by kernel_rfl) (by kernel_rfl) (fun _ _ _ h => h) (Or.inl ⟨by rfl, ?hy9⟩) h0 ?rest9
  case hy9 => (intro w hSw; (try dsimp only at hSw); go_simp; try with_reducible rfl)
  simp only [Act.put, List.setIfInBounds_toArray, List.set_cons_zero, List.set_cons_succ]
  refine wpAnyH_take (i := 2) (oi := ⟨_, _, _, _, _, _⟩) (v := ?v10) rfl (by kernel_rfl) (by kernel_rfl) (by kernel_rfl) (fun _ _ _ h => h) (Or.inl ⟨by rfl, ?hy10⟩) h0 ?rest10
  case hy10 => (intro w hSw; (try dsimp only at hSw); go_simp; try with_reducible rfl)
  simp only [Act.put, List.setIfInBounds_toArray, List.set_cons_zero, List.set_cons_succ]
  refine wpAnyH_take (i := 3) (oi := ⟨_, _, _, _, _, _⟩) (v := ?v11) rfl (by kernel_rfl) (by kernel_rfl) (by kernel_rfl) (fun _ _ _ h => h) (Or.inl ⟨by rfl, ?hy11⟩) h0 ?rest11
  case hy11 => (intro w hSw; (try dsimp only at hSw); go_simp; try with_reducible rfl)
  simp only [Act.put, List.setIfInBounds_toArray, List.set_cons_zero, List.set_cons_succ]
  refine wpAnyH_take (i := 4) (oi := ⟨_, _, _, _, _, _⟩) (v := ?v12) rfl (by kernel_rfl) (by kernel_rfl) (by kernel_rfl) (fun _ _ _ h => h) (Or.inl ⟨by rfl, ?hy12⟩) h0 ?rest12
  case hy12 => (intro w hSw; (try dsimp only at hSw); go_simp; try with_reducible rfl)
  simp only [Act.put, List.setIfInBounds_toArray, List.set_cons_zero, List.set_cons_succ]
  refine wpAnyH_ready (rs := [5]) (by kernel_rfl) (by simp) ?_
  refine AllReadyH.cons (o := ⟨_, _, _, _, _, _⟩) rfl (fun K hK => ?_) AllReadyH.nil
  go_simp
  refine hcall.mono ?_
  rintro e w1 ⟨rfl, hb1⟩
  have h3 : w1.heap[T]? = W0.heap[T]? ∧ w1.heap[w.heap.size]? = W0.heap[w.heap.size]? := ⟨hb1.block T hTl, hb1.block w.heap.size (show w.heap.size < W0.heap.size by omega)⟩
  obtain ⟨e0, e1, ef, hel⟩ := row2_of ((hb1.block _ (show w.heap.size + 1 < W0.heap.size by omega)).trans r0)
  have hb := hwW.trans ((Below.drop_drew hb1).mono hwW.size)
  clear hcall hb1 r0
  refine hK.out _ _ h3 (fun hHeld => ?_)
  clear hK K hHeld
  try simp only [Act.put, List.setIfInBounds_toArray, List.set_cons_zero, List.set_cons_succ]
  refine wpAnyH_take (i := 6) (oi := ⟨_, _, _, _, _, _⟩) (v := ?v13) rfl (by kernel_rfl) (by kernel_rfl) (by kernel_rfl) (fun _ _ _ h => h) (Or.inl ⟨by rfl, ?hy13⟩) h3 ?rest13
  case hy13 => (intro w hSw; (try dsimp only at hSw); go_simp; try with_reducible rfl)
  simp only [Act.put, List.setIfInBounds_toArray, List.set_cons_zero, List.set_cons_succ]
  refine wpAnyH_take (i := 7) (oi := ⟨_, _, _, _, _, _⟩) (v := ?v14) rfl (by kernel_rfl) (by kernel_rfl) (by kernel_rfl) (fun _ _ _ h => h) (Or.inl ⟨by rfl, ?hy14⟩) h3 ?rest14
  case hy14 => (intro w hSw; (try dsimp only at hSw); go_simp; try with_reducible rfl)
  simp only [Act.put, List.setIfInBounds_toArray, List.set_cons_zero, List.set_cons_succ]
  refine wpAnyH_ready (rs := [8]) (by kernel_rfl) (by simp) ?_
  refine AllReadyH.cons (o := ⟨_, _, _, _, _, _⟩) rfl (fun K hK => ?_) AllReadyH.nil
  go_simp
  have h4 : ((w1.setCell ⟨w.heap.size + 1, 0, none⟩ (.string xk)).setCell ⟨w.heap.size + 1, 1, none⟩ (.int .i64 xi)).heap[T]? = W0.heap[T]? ∧ ((w1.setCell ⟨w.heap.size + 1, 0, none⟩ (.string xk)).setCell ⟨w.heap.size + 1, 1, none⟩ (.int .i64 xi)).heap[w.heap.size]? = W0.heap[w.heap.size]? := by
    have n1 : T ≠ w.heap.size + 1 := by omega
    have n2 : w.heap.size ≠ w.heap.size + 1 := by omega
    rw [Below.heap_setCell _ _ _ _ n1, Below.heap_setCell _ _ _ _ n1, Below.heap_setCell _ _ _ _ n2, Below.heap_setCell _ _ _ _ n2]
    exact h3
  refine hK.out _ _ h4 (fun hHeld => ?_)
  clear hK K hHeld
  try simp only [Act.put, List.setIfInBounds_toArray, List.set_cons_zero, List.set_cons_succ]
  refine wpAnyH_ready (rs := [9]) (by kernel_rfl) (by simp) ?_
  refine AllReadyH.cons (o := ⟨_, _, _, _, _, _⟩) rfl (fun K hK => ?_) AllReadyH.nil
  go_simp
  refine hK.out _ _ h4 (fun hHeld => ?_)
  clear hK K hHeld
  try simp only [Act.put, List.setIfInBounds_toArray, List.set_cons_zero, List.set_cons_succ]
  refine wpAnyH_done (by kernel_rfl) ?_ _
  clear P0 P1 P2 h0 h3 h4 hW0
  go_wp2
  refine bodyPost_ret (v := .tuple #[.agg #[.string xk, .int .i64 xi], .bool xb]) (by simp [results, Try.results55, go_sem, e0, e1]) rfl ⟨rfl, ?_⟩
  exact (hb.setCell (Nat.le_succ _) _).setCell (Nat.le_succ _) _
end
end Go.Proofs.Ytoaekmighinmhaa

namespace Go.Proofs.Ytoaekmighinmhaa
open Go.RowKit

theorem set2 {w : World} {b : Nat} {k k' : ByteArray} {i i' : Int} (h : w.heap[b]? = some (.cells #[.string k, .int .i64 i] 34 (0, 0))) : ((w.setCell ⟨b, 0, none⟩ (.string k')).setCell ⟨b, 1, none⟩ (.int .i64 i')).heap[b]? = some (.cells #[.string k', .int .i64 i'] 34 (0, 0)) := by
  rw [heap_setCell_at (heap_setCell_at h)]; rfl
theorem OwE.set {w0 w : World} {B b j : Nat} {s v : Value} {l : List En} (h : OwE w0 B s l w) (hb : b < B) (h0 : w0.heap.size ≤ b) : OwE w0 B s l (w.setCell ⟨b, j, none⟩ v) :=
  ⟨h.below.setCell h0 _, own_keep h.own fun a ha => Go.Deep.blk_setCell_other _ _ _ _ (by have := (h.own.lt a (vc_ne ha)).1; show a ≠ b; omega), h.le⟩
theorem retO_form2 (o : Option En) : ∃ (k : ByteArray) (i : Int) (b : Bool), retO o = .tuple #[.agg #[.string k, .int .i64 i], .bool b] ∧ b = o.isSome ∧ (∀ x, o = some x → x = (k, i)) ∧ (o = none → k = ⟨#[]⟩ ∧ i = 0) := by
  cases o with
  | none => exact ⟨⟨#[]⟩, 0, false, rfl, rfl, (fun x h => by cases h), fun _ => ⟨rfl, rfl⟩⟩
  | some x => exact ⟨x.1, x.2, true, rfl, rfl, (fun y h => by cases h; rfl), (fun h => by cases h)⟩
section
variable {F : Nat → Prop} {T : Nat} {l : List En}
end
end Go.Proofs.Ytoaekmighinmhaa

namespace Go.Proofs.Ytoaekmighinmhaa
open Go.RowKit

theorem take_snoc {l : List En} {j : Nat} {x : En} (h : l[j]? = some x) : l.take (j + 1) = l.take j ++ [x] := by rw [List.take_add_one, h]; rfl
set_option maxRecDepth 100000 in
set_option maxHeartbeats 4000000 in
theorem Same_any (a b : List En) (B1 B2 : Nat) (va vb : Value) (w : World) (ha : w.ownsRow B1 34 2 va a.length (encEns a)) (hb : w.ownsRow B2 34 2 vb b.length (encEns b)) (hl : a.length ≤ 1000000) :
    Calls Try.prog 21 #[va, vb] w fun r w' => r = .returned (.bool (decide (a = b))) ∧ Below w.heap.size w w' := by
  obtain ⟨aa, ac, rfl⟩ := slice_of_row ha
  obtain ⟨ba, bc, rfl⟩ := slice_of_row hb
  obtain ⟨N, hN⟩ : ∃ N, a.length = N := ⟨_, rfl⟩
  obtain ⟨M, hM⟩ : ∃ M, b.length = M := ⟨_, rfl⟩
  rw [hN] at ha hl ⊢
  rw [hM] at hb ⊢
  by_cases hNM : N = M
  · subst hNM
    have HH := (show Hid _ from And.intro ha (And.intro hb (And.intro hN hM)))
    clear ha hb hN hM
    go_enter Try.func21, Try.ntmps21
    go_wp2
    go_loopg [5, 13] N (fun gg _ i wr => ∃ (j : Nat), j ≤ N ∧ N - j ≤ gg ∧ i = .int .i64 j ∧ Aside (a.take j = b.take j ∧ Below w.heap.size w wr))
    case atStart => exact ⟨0, Nat.zero_le _, by omega, rfl, rfl, Below.refl _ _⟩
    case round =>
      obtain ⟨j, hjN, hgg, rfl, HR⟩ := hrel
      obtain ⟨heq, hbR⟩ := HR.out
      clear HR
      by_cases hj : j < N
      · obtain ⟨ha, hb, hN, hM⟩ := HH.out
        obtain ⟨⟨xk, xi⟩, hx⟩ : ∃ x, a[j]? = some x := ⟨_, List.getElem?_eq_getElem (by omega)⟩
        obtain ⟨⟨yk, yi⟩, hy⟩ : ∃ x, b[j]? = some x := ⟨_, List.getElem?_eq_getElem (by omega)⟩
        have ha' := own_keep (W' := wr) ha fun c hc => hbR.block c (own_lt ha hc)
        have hb' := own_keep (W' := wr) hb fun c hc => hbR.block c (own_lt hb hc)
        rw [← hN] at ha'
        obtain ⟨P, c1, hv1, l1, l2, e0, e1, -⟩ := row_entry ha' hx
        rw [hN] at ha' hv1 l1
        rw [← hM] at hb'
        obtain ⟨Q, c2, hv2, l3, l4, d0, d1, -⟩ := row_entry hb' hy
        rw [hM] at hb' hv2 l3
        obtain ⟨rfl, rfl⟩ : aa = some ⟨P, 0, none⟩ ∧ ac = c1 := by
          simp only [Value.slice.injEq, true_and] at hv1; exact hv1
        obtain ⟨rfl, rfl⟩ : ba = some ⟨Q, 0, none⟩ ∧ bc = c2 := by
          simp only [Value.slice.injEq, true_and] at hv2; exact hv2
        have zj : (j : Int) < (N : Int) := by omega
        have hs1 := take_snoc hx
        have hs2 := take_snoc hy
        dsimp only at e0 e1 d0 d1
        have P0 := fun (w' : World) (h : w'.heap[P]? = wr.heap[P]? ∧ w'.heap[Q]? = wr.heap[Q]?) => (World.cell?_of_block (a := ⟨P, j * 2, none⟩) h.1).trans e0
        have P1 := fun (w' : World) (h : w'.heap[P]? = wr.heap[P]? ∧ w'.heap[Q]? = wr.heap[Q]?) => (World.cell?_of_block (a := ⟨P, j * 2 + 1, none⟩) h.1).trans e1
        have P2 := fun (w' : World) (h : w'.heap[P]? = wr.heap[P]? ∧ w'.heap[Q]? = wr.heap[Q]?) => (World.cell?_of_block (a := ⟨Q, j * 2, none⟩) h.2).trans d0
        have P3 := fun (w' : World) (h : w'.heap[P]? = wr.heap[P]? ∧ w'.heap[Q]? = wr.heap[Q]?) => (World.cell?_of_block (a := ⟨Q, j * 2 + 1, none⟩) h.2).trans d1
        have HE := (show Hid _ from And.intro heq (And.intro hbR (And.intro hs1 (And.intro hs2 (And.intro hgg (And.intro hjN (And.intro hx hy)))))))
        clear ha hb ha' hb' hN hM hx hy heq hbR hs1 hs2 hgg hjN hv1 hv2 e0 e1 d0 d1
        have h0 : (fun w' : World => w'.heap[P]? = wr.heap[P]? ∧ w'.heap[Q]? = wr.heap[Q]?) wr.drew := ⟨rfl, rfl⟩
        rcases Classical.em (((xk, xi) : En) = (yk, yi)) with hxy | hxy
        · obtain ⟨rfl, rfl⟩ : xk = yk ∧ xi = yi := by cases hxy; exact ⟨rfl, rfl⟩
          go_wp2_with fail
          refine wp_region_held (S := fun w' => w'.heap[P]? = wr.heap[P]? ∧ w'.heap[Q]? = wr.heap[Q]?) mixed ?_
          refine wpAnyH_take (i := 0) (oi := ⟨_, _, _, _, _, _⟩) (v := ?v1) rfl (by kernel_rfl) (by kernel_rfl) (by kernel_rfl) (fun _ _ _ h => h) (Or.inl ⟨by rfl, ?hy1⟩) h0 ?rest1
          case hy1 => (intro w hSw; (try dsimp only at hSw); go_simp; try with_reducible rfl)
          simp only [Act.put, List.setIfInBounds_toArray, List.set_cons_zero, List.set_cons_succ]
          refine wpAnyH_take (i := 1) (oi := ⟨_, _, _, _, _, _⟩) (v := ?v2) rfl (by kernel_rfl) (by kernel_rfl) (by kernel_rfl) (fun _ _ _ h => h) (Or.inl ⟨by rfl, ?hy2⟩) h0 ?rest2
          case hy2 => (intro w hSw; (try dsimp only at hSw); go_simp; try with_reducible rfl)
          simp only [Act.put, List.setIfInBounds_toArray, List.set_cons_zero, List.set_cons_succ]
          refine wpAnyH_take (i := 2) (oi := ⟨_, _, _, _, _, _⟩) (v := ?v3) rfl (by kernel_rfl) (by kernel_rfl) (by kernel_rfl) (fun _ _ _ h => h) (Or.inl ⟨by rfl, ?hy3⟩) h0 ?rest3
          case hy3 => (intro w hSw; (try dsimp only at hSw); go_simp; try with_reducible rfl)
          simp only [Act.put, List.setIfInBounds_toArray, List.set_cons_zero, List.set_cons_succ]
          refine wpAnyH_take (i := 3) (oi := ⟨_, _, _, _, _, _⟩) (v := ?v4) rfl (by kernel_rfl) (by kernel_rfl) (by kernel_rfl) (fun _ _ _ h => h) (Or.inl ⟨by rfl, ?hy4⟩) h0 ?rest4
          case hy4 => (intro w hSw; (try dsimp only at hSw); go_simp; try with_reducible rfl)
          simp only [Act.put, List.setIfInBounds_toArray, List.set_cons_zero, List.set_cons_succ]
          refine wpAnyH_take (i := 4) (oi := ⟨_, _, _, _, _, _⟩) (v := ?v5) rfl (by kernel_rfl) (by kernel_rfl) (by kernel_rfl) (fun _ _ _ h => h) (Or.inl ⟨by rfl, ?hy5⟩) h0 ?rest5
          case hy5 => (intro w hSw; (try dsimp only at hSw); go_simp; try with_reducible rfl)
          simp only [Act.put, List.setIfInBounds_toArray, List.set_cons_zero, List.set_cons_succ]
          refine wpAnyH_take (i := 5) (oi := ⟨_, _, _, _, _, _⟩) (v := ?v6) rfl (by kernel_rfl) (by kernel_rfl) (by kernel_rfl) (fun _ _ _ h => h) (Or.inl ⟨by rfl, ?hy6⟩) h0 ?rest6
          case hy6 => (intro w hSw; (try dsimp only at hSw); go_simp; try with_reducible rfl)
          simp only [Act.put, List.setIfInBounds_toArray, List.set_cons_zero, List.set_cons_succ]
          refine wpAnyH_take (i := 6) (oi := ⟨_, _, _, _, _, _⟩) (v := ?v7) rfl (by kernel_rfl) (by kernel_rfl) (by kernel_rfl) (fun _ _ _ h => h) (Or.inl ⟨by rfl, ?hy7⟩) h0 ?rest7
          case hy7 => (intro w hSw; (try dsimp only at hSw); go_simp; try with_reducible rfl)
          simp only [Act.put, List.setIfInBounds_toArray, List.set_cons_zero, List.set_cons_succ]
          refine wpAnyH_take (i := 7) (oi := ⟨_, _, _, _, _, _⟩) (v := ?v8) rfl (by kernel_rfl) (by kernel_rfl) (by kernel_rfl) (fun _ _ _ h => h) (Or.inl ⟨by rfl, ?hy8⟩) h0 ?rest8
          case hy8 => (intro w hSw; (try dsimp only at hSw); go_simp; try with_reducible rfl)
          simp only [Act.put, List.setIfInBounds_toArray, List.set_cons_zero, List.set_cons_succ]
          refine wpAnyH_take (i := 8) (oi := ⟨_, _, _, _, _, _⟩) (v := ?v9) rfl (by kernel_rfl) (by kernel_rfl) (by kernel_rfl) (fun _ _ _ h => h) (Or.inl ⟨by rfl, ?hy9⟩) h0 ?rest9
          case hy9 => (intro w hSw; (try dsimp only at hSw); go_simp; try with_reducible rfl)
          simp only [Act.put, List.setIfInBounds_toArray, List.set_cons_zero, List.set_cons_succ]
          refine wpAnyH_done (by kernel_rfl) ?_ _
          clear P0 P1 P2 P3 h0
          go_wp2
          go_roundg (N - (j + 1))
          case measure => (obtain ⟨-, -, -, -, h6, h7, -⟩ := HE.out; clear HE; omega)
          case rel =>
            obtain ⟨h1, h2, h3, h4, h6, h7, -⟩ := HE.out
            refine ⟨j + 1, by omega, by omega, by simp, ?_, h2.drew⟩
            rw [h3, h4, h1]
        · have hne : decide (a = b) = false := decide_eq_false fun e => hxy (by
            obtain ⟨h1, h2, h3, h4, h6, h7, h8, h9⟩ := HE.out
            rw [e] at h8
            rw [h8] at h9
            cases h9; rfl)
          rcases Classical.em (xk = yk) with hk | hk
          · subst hk
            have hie : ¬ xi = yi := fun h => hxy (by rw [h])
            go_wp2_with fail
            refine wp_region_held (S := fun w' => w'.heap[P]? = wr.heap[P]? ∧ w'.heap[Q]? = wr.heap[Q]?) mixed ?_
            refine wpAnyH_take (i := 0) (oi := ⟨_, _, _, _, _, _⟩) (v := ?v10) rfl (by kernel_rfl) (by kernel_rfl) (by kernel_rfl) (fun _ _ _ h => h) (Or.inl ⟨by rfl, ?hy10⟩) h0 ?rest10
            case hy10 => (intro w hSw; (try dsimp only at hSw); go_simp; try with_reducible rfl)
            simp only [Act.put, List.setIfInBounds_toArray, List.set_cons_zero, List.set_cons_succ]
            refine wpAnyH_take (i := 1) (oi := ⟨_, _, _, _, _, _⟩) (v := ?v11) rfl (by kernel_rfl) (by kernel_rfl) (by kernel_rfl) (fun _ _ _ h => h) (Or.inl ⟨by rfl, ?hy11⟩) h0 ?rest11
            case hy11 => (intro w hSw; (try dsimp only at hSw); go_simp; try with_reducible rfl)
            simp only [Act.put, List.setIfInBounds_toArray, List.set_cons_zero, List.set_cons_succ]
            refine wpAnyH_take (i := 2) (oi := ⟨_, _, _, _, _, _⟩) (v := ?v12) rfl (by kernel_rfl) (by kernel_rfl) (by kernel_rfl) (fun _ _ _ h => h) (Or.inl ⟨by rfl, ?hy12⟩) h0 ?rest12
            case hy12 => (intro w hSw; (try dsimp only at hSw); go_simp; try with_reducible rfl)
            simp only [Act.put, List.setIfInBounds_toArray, List.set_cons_zero, List.set_cons_succ]
            refine wpAnyH_take (i := 3) (oi := ⟨_, _, _, _, _, _⟩) (v := ?v13) rfl (by kernel_rfl) (by kernel_rfl) (by kernel_rfl) (fun _ _ _ h => h) (Or.inl ⟨by rfl, ?hy13⟩) h0 ?rest13
            case hy13 => (intro w hSw; (try dsimp only at hSw); go_simp; try with_reducible rfl)
            simp only [Act.put, List.setIfInBounds_toArray, List.set_cons_zero, List.set_cons_succ]
            refine wpAnyH_take (i := 4) (oi := ⟨_, _, _, _, _, _⟩) (v := ?v14) rfl (by kernel_rfl) (by kernel_rfl) (by kernel_rfl) (fun _ _ _ h => h) (Or.inl ⟨by rfl, ?hy14⟩) h0 ?rest14
            case hy14 => (intro w hSw; (try dsimp only at hSw); go_simp; try with_reducible rfl)
            simp only [Act.put, List.setIfInBounds_toArray, List.set_cons_zero, List.set_cons_succ]
            refine wpAnyH_take (i := 5) (oi := ⟨_, _, _, _, _, _⟩) (v := ?v15) rfl (by kernel_rfl) (by kernel_rfl) (by kernel_rfl) (fun _ _ _ h => h) (Or.inl ⟨by rfl, ?hy15⟩) h0 ?rest15
            case hy15 => (intro w hSw; (try dsimp only at hSw); go_simp; try with_reducible rfl)
            simp only [Act.put, List.setIfInBounds_toArray, List.set_cons_zero, List.set_cons_succ]
            refine wpAnyH_take (i := 6) (oi := ⟨_, _, _, _, _, _⟩) (v := ?v16) rfl (by kernel_rfl) (by kernel_rfl) (by kernel_rfl) (fun _ _ _ h => h) (Or.inl ⟨by rfl, ?hy16⟩) h0 ?rest16
            case hy16 => (intro w hSw; (try dsimp only at hSw); go_simp; try with_reducible rfl)
            simp only [Act.put, List.setIfInBounds_toArray, List.set_cons_zero, List.set_cons_succ]
            refine wpAnyH_take (i := 7) (oi := ⟨_, _, _, _, _, _⟩) (v := ?v17) rfl (by kernel_rfl) (by kernel_rfl) (by kernel_rfl) (fun _ _ _ h => h) (Or.inl ⟨by rfl, ?hy17⟩) h0 ?rest17
            case hy17 => (intro w hSw; (try dsimp only at hSw); go_simp; try with_reducible rfl)
            simp only [Act.put, List.setIfInBounds_toArray, List.set_cons_zero, List.set_cons_succ]
            refine wpAnyH_take (i := 8) (oi := ⟨_, _, _, _, _, _⟩) (v := ?v18) rfl (by kernel_rfl) (by kernel_rfl) (by kernel_rfl) (fun _ _ _ h => h) (Or.inl ⟨by rfl, ?hy18⟩) h0 ?rest18
            case hy18 => (intro w hSw; (try dsimp only at hSw); go_simp; try with_reducible rfl)
            simp only [Act.put, List.setIfInBounds_toArray, List.set_cons_zero, List.set_cons_succ]
            refine wpAnyH_done (by kernel_rfl) ?_ _
            clear P0 P1 P2 P3 h0
            go_wp2
            go_ret
            exact ⟨by rw [hne]; rfl, HE.out.2.1.drew⟩
          · have hkl : ¬ xk.toList = yk.toList := fun h => hk (text_ext h)
            go_wp2_with fail
            refine wp_region_held (S := fun w' => w'.heap[P]? = wr.heap[P]? ∧ w'.heap[Q]? = wr.heap[Q]?) mixed ?_
            refine wpAnyH_take (i := 0) (oi := ⟨_, _, _, _, _, _⟩) (v := ?v19) rfl (by kernel_rfl) (by kernel_rfl) (by kernel_rfl) (fun _ _ _ h => h) (Or.inl ⟨by rfl, ?hy19⟩) h0 ?rest19
            case hy19 => (intro w hSw; (try dsimp only at hSw); go_simp; try with_reducible rfl)
            simp only [Act.put, List.setIfInBounds_toArray, List.set_cons_zero, List.set_cons_succ]
            refine wpAnyH_take (i := 1) (oi := ⟨_, _, _, _, _, _⟩) (v := ?v20) rfl (by kernel_rfl) (by kernel_rfl) (by kernel_rfl) (fun _ _ _ h => h) (Or.inl ⟨by rfl, ?hy20⟩) h0 ?rest20
            case hy20 => (intro w hSw; (try dsimp only at hSw); go_simp; try with_reducible rfl)
            simp only [Act.put, List.setIfInBounds_toArray, List.set_cons_zero, List.set_cons_succ]
            refine wpAnyH_take (i := 2) (oi := ⟨_, _, _, _, _, _⟩) (v := ?v21) rfl (by kernel_rfl) (by kernel_rfl) (by kernel_rfl) (fun _ _ _ h => h) (Or.inl ⟨by rfl, ?hy21⟩) h0 ?rest21
            case hy21 => (intro w hSw; (try dsimp only at hSw); go_simp; try with_reducible rfl)
            simp only [Act.put, List.setIfInBounds_toArray, List.set_cons_zero, List.set_cons_succ]
            refine wpAnyH_take (i := 3) (oi := ⟨_, _, _, _, _, _⟩) (v := ?v22) rfl (by kernel_rfl) (by kernel_rfl) (by kernel_rfl) (fun _ _ _ h => h) (Or.inl ⟨by rfl, ?hy22⟩) h0 ?rest22
            case hy22 => (intro w hSw; (try dsimp only at hSw); go_simp; try with_reducible rfl)
            simp only [Act.put, List.setIfInBounds_toArray, List.set_cons_zero, List.set_cons_succ]
            refine wpAnyH_take (i := 4) (oi := ⟨_, _, _, _, _, _⟩) (v := ?v23) rfl (by kernel_rfl) (by kernel_rfl) (by kernel_rfl) (fun _ _ _ h => h) (Or.inl ⟨by rfl, ?hy23⟩) h0 ?rest23
            case hy23 => (intro w hSw; (try dsimp only at hSw); go_simp; try with_reducible rfl)
            simp only [Act.put, List.setIfInBounds_toArray, List.set_cons_zero, List.set_cons_succ]
            refine wpAnyH_take (i := 5) (oi := ⟨_, _, _, _, _, _⟩) (v := ?v24) rfl (by kernel_rfl) (by kernel_rfl) (by kernel_rfl) (fun _ _ _ h => h) (Or.inl ⟨by rfl, ?hy24⟩) h0 ?rest24
            case hy24 => (intro w hSw; (try dsimp only at hSw); go_simp; try with_reducible rfl)
            simp only [Act.put, List.setIfInBounds_toArray, List.set_cons_zero, List.set_cons_succ]
            refine wpAnyH_take (i := 6) (oi := ⟨_, _, _, _, _, _⟩) (v := ?v25) rfl (by kernel_rfl) (by kernel_rfl) (by kernel_rfl) (fun _ _ _ h => h) (Or.inl ⟨by rfl, ?hy25⟩) h0 ?rest25
            case hy25 => (intro w hSw; (try dsimp only at hSw); go_simp; try with_reducible rfl)
            simp only [Act.put, List.setIfInBounds_toArray, List.set_cons_zero, List.set_cons_succ]
            refine wpAnyH_take (i := 7) (oi := ⟨_, _, _, _, _, _⟩) (v := ?v26) rfl (by kernel_rfl) (by kernel_rfl) (by kernel_rfl) (fun _ _ _ h => h) (Or.inl ⟨by rfl, ?hy26⟩) h0 ?rest26
            case hy26 => (intro w hSw; (try dsimp only at hSw); go_simp; try with_reducible rfl)
            simp only [Act.put, List.setIfInBounds_toArray, List.set_cons_zero, List.set_cons_succ]
            refine wpAnyH_take (i := 8) (oi := ⟨_, _, _, _, _, _⟩) (v := ?v27) rfl (by kernel_rfl) (by kernel_rfl) (by kernel_rfl) (fun _ _ _ h => h) (Or.inl ⟨by rfl, ?hy27⟩) h0 ?rest27
            case hy27 => (intro w hSw; (try dsimp only at hSw); go_simp; try with_reducible rfl)
            simp only [Act.put, List.setIfInBounds_toArray, List.set_cons_zero, List.set_cons_succ]
            refine wpAnyH_done (by kernel_rfl) ?_ _
            clear P0 P1 P2 P3 h0
            go_wp2
            go_ret
            exact ⟨by rw [hne]; rfl, HE.out.2.1.drew⟩
      · obtain rfl : N = j := by omega
        obtain ⟨-, -, hN, hM⟩ := HH.out
        rw [List.take_of_length_le (Nat.le_of_eq hN), List.take_of_length_le (Nat.le_of_eq hM)] at heq
        have hd : decide (a = b) = true := decide_eq_true heq
        clear hN hM heq hgg hjN hj HH
        go_wp2
        go_ret
        exact ⟨by rw [hd]; rfl, hbR⟩
  · have hne : decide (a = b) = false := decide_eq_false fun e => hNM (by rw [← hN, ← hM, e])
    rw [hne]
    have hnz : ¬ (N : Int) = (M : Int) := by omega
    clear ha hb hN hM hne
    go_enter Try.func21, Try.ntmps21
    go_wp2
    go_ret
    exact ⟨rfl, Below.refl _ _⟩
end Go.Proofs.Ytoaekmighinmhaa

namespace Go.Proofs.Ytoaekmighinmhaa
open Go.RowKit

theorem encNts_append (a b : List Nt) : encNts (a ++ b) = encNts a ++ encNts b := by simp [encNts]
theorem nodes_flat (n d : Nat) (ks : List Nd) (j : Nat) (k : Nd) (hk : ks[j]? = some k) : (ks.take (j + 1)).flatMap (nodesN n d) = (ks.take j).flatMap (nodesN n d) ++ nodesN n d k := by
  rw [List.take_add_one, hk]
  simp
/-- how many are told, at most: less than by this. -/
theorem take_le (n d : Nat) (ks : List Nd) (j : Nat) : ((ks.take j).flatMap (nodesN n d)).length ≤ (ks.flatMap (nodesN n d)).length := by
  conv => rhs; rw [← List.take_append_drop j ks]
  rw [List.flatMap_append, List.length_append]
  omega

end Go.Proofs.Ytoaekmighinmhaa

namespace Go.Proofs.Ytoaekmighinmhaa
open Go.RowKit

/-- what is there behind rise, and sink. -/
def RiseV (W : World) (T n : Nat) (t : Nd) (c : Int) (W' : World) : Prop :=
  ∃ n' t', W'.heap[T]? = some (.cells #[.pointer (some ⟨t'.b, 0, none⟩), .int .i64 c] 64 (0, 0)) ∧ Own n' W' t' ∧ TopN n' t' ∧ flatN n' t' = flatN n t ∧ tc n' T t' = 0 ∧ (∀ a, a < W.heap.size → tc n' a t' ≤ tc n a t) ∧ Chg (fun a => (if a = T then 1 else 0) + tc n a t) W W'
section
variable {n i : Nat} {w : World} {t c : Nd}
theorem split5N_any (h : Own (n + 1) w t) (hx : WfX n t (fun j => j = i)) (hc : t.kids[i]? = some c) (h5 : c.es.length = 5) (ht : t.es.length ≤ 4) :
    Calls Try.prog 35 #[.pointer (some ⟨t.b, 0, none⟩), .int .i64 i] w fun e w' => e = .returned (.tuple #[]) ∧ Again n w t w' (t.es.length + 1) (t.es.length + 1) := by
  have hi := (List.getElem?_eq_some_iff.1 hc).1
  have hx1 := hx.1
  have hk : t.kids = t.kids.take i ++ [c] ++ t.kids.drop (i + 1) := by
    conv => lhs; rw [split_at hc]
    simp
  have hS : St w [t, c] := own_st h hk
  cases n with
  | zero =>
    refine (split_leaf t c i w hS hc h5 (hx.2 i c hc).1 (by omega) (by omega) (by omega)).mono ?_
    rintro e w' ⟨rfl, hv⟩
    exact ⟨rfl, lift_split h hx hc h5 hv⟩
  | succ n =>
    refine (split_deep t c i w hS hc h5 (by have := (hx.2 i c hc).1.1; omega) (by omega) (by omega) (by omega)).mono ?_
    rintro e w' ⟨rfl, hv⟩
    exact ⟨rfl, lift_split h hx hc h5 hv⟩
end

set_option maxRecDepth 100000 in
set_option maxHeartbeats 2000000 in
theorem rise_any (T n : Nat) (t : Nd) (c : Int) (W : World) (hT : W.heap[T]? = some (.cells #[.pointer (some ⟨t.b, 0, none⟩), .int .i64 c] 64 (0, 0))) (h : Own n W t) (hw : WfN n t) (hl5 : t.es.length ≤ 5) (hl1 : n = 0 ∨ 1 ≤ t.es.length) (hap : tc n T t = 0) :
    Calls Try.prog 26 #[.pointer (some ⟨T, 0, none⟩)] W fun e w' => e = .returned (.tuple #[]) ∧ RiseV W T n t c w' := by
  obtain ⟨sa, sc0, -, -, -, -, t0, -, -⟩ := h.1.sh.view
  have c0 : W.cell? ⟨T, 0, none⟩ = some (.pointer (some ⟨t.b, 0, none⟩)) := by simp [World.cell?, hT]
  have cf : ∀ j, W.frozen? ⟨T, j, none⟩ = false := fun j => by simp [World.frozen?, hT]
  have hTl := lt_of_heap hT
  by_cases h4 : t.es.length ≤ 4
  · have hfin : RiseV W T n t c W := ⟨n, t, hT, h, ⟨hw, h4, hl1⟩, rfl, hap, fun _ _ => Nat.le_refl _, Chg.refl _ _⟩
    have z4 : ¬ (4 : Int) < (t.es.length : Int) := by omega
    generalize t.es.length = m at *
    clear hT h hw hap
    go_enter Try.func26, Try.ntmps26
    go_wp2
    exact bodyPost_end (v := .tuple #[]) (by simp [results, Try.results26, go_sem]) rfl ⟨rfl, hfin⟩
  · have h5 : t.es.length = 5 := by omega
    obtain ⟨W1, hW1⟩ : ∃ W1, W.alloc (.cells #[.pointer (some ⟨t.b, 0, none⟩)] 62) = W1 := ⟨_, rfl⟩
    obtain ⟨W2, hW2⟩ : ∃ W2, W1.alloc (.cells #[.slice none 0 0, .slice (some ⟨W.heap.size, 0, none⟩) 1 1] 69) = W2 := ⟨_, rfl⟩
    obtain ⟨W3, hW3⟩ : ∃ W3, W2.setCell ⟨T, 0, none⟩ (.pointer (some ⟨W1.heap.size, 0, none⟩)) = W3 := ⟨_, rfl⟩
    have hs1 : W1.heap.size = W.heap.size + 1 := by rw [← hW1]; simp
    have hs2 : W2.heap.size = W.heap.size + 2 := by rw [← hW2]; simp [hs1]
    have hs3 : W3.heap.size = W.heap.size + 2 := by rw [← hW3]; simp [World.setCell, hs2]
    have hb1 : Below W.heap.size W W1 := by rw [← hW1]; exact (Below.refl _ _).alloc (Nat.le_refl _) _
    have hb2 : Below W1.heap.size W1 W2 := by rw [← hW2]; exact (Below.refl _ _).alloc (Nat.le_refl _) _
    have hbb : Below W.heap.size W W2 := hb1.trans (hb2.mono hb1.size)
    have hset : ∀ a, a ≠ T → W3.heap[a]? = W2.heap[a]? := fun a ha => by rw [← hW3]; exact Below.heap_setCell _ _ _ _ ha
    have hT2 : W2.heap[T]? = some (.cells #[.pointer (some ⟨t.b, 0, none⟩), .int .i64 c] 64 (0, 0)) := (hbb.block T hTl).trans hT
    have hT3 : W3.heap[T]? = some (.cells #[.pointer (some ⟨W1.heap.size, 0, none⟩), .int .i64 c] 64 (0, 0)) := by rw [← hW3, heap_setCell_at hT2]; rfl
    have hrow : W1.heap[W.heap.size]? = some (.cells #[.pointer (some ⟨t.b, 0, none⟩)] 62 (0, 0)) := by rw [← hW1]; exact heap_alloc_new _ _
    have hnode : W2.heap[W1.heap.size]? = some (.cells #[.slice none 0 0, .slice (some ⟨W.heap.size, 0, none⟩) 1 1] 69 (0, 0)) := by rw [← hW2]; exact heap_alloc_new _ _
    obtain ⟨t2, ht2⟩ : ∃ t2 : Nd, t2 = ⟨W1.heap.size, .slice none 0 0, .slice (some ⟨W.heap.size, 0, none⟩) 1 1, [], [t]⟩ := ⟨_, rfl⟩
    have hsc : ∀ a, sc a t2 = (if a = W1.heap.size then 1 else 0) + (if a = W.heap.size then 1 else 0) := fun a => by
      rw [ht2]; unfold sc; rw [vc_at, vc_nil]; rfl
    have htot : ∀ a, tc (n + 1) a t2 = sc a t2 + tc n a t := fun a => by
      rw [ht2]; show sc a _ + ([t].map (tc n a)).sum = _; simp
    have hold : ∀ a, W.heap.size ≤ a → tc n a t = 0 := fun a ha => Classical.byContradiction fun hc => by have := h.1.lt hc; omega
    have hO2 : Own (n + 1) W3 t2 := by
      refine ⟨⟨⟨?_, ?_, ?_, fun hc => by rw [ht2] at hc; cases hc⟩, by rw [ht2]; rfl, fun k hk => ?_⟩, fun a => ?_⟩
      · rw [ht2]; exact (hset _ (show W1.heap.size ≠ T by omega)).trans hnode
      · rw [ht2]; exact World.ownsRow_nil _ _ _ _
      · rw [ht2]
        refine ⟨rfl, .inr ⟨W.heap.size, 1, _, rfl, Nat.zero_le _, (hset _ (show W.heap.size ≠ T by omega)).trans ((hb2.block _ (by omega)).trans hrow), Nat.le_refl _, by unfold maxLen; omega, rfl, rfl⟩⟩
      · rw [ht2] at hk
        rw [List.mem_singleton.1 hk]
        exact h.1.keep fun a ha => by
          have := h.1.lt ha
          rw [hset a (fun hc => ha (by rw [hc]; exact hap)), hbb.block a this]
      · rw [htot, hsc]
        have h7 := h.2 a
        by_cases ha : a < W.heap.size
        · rw [if_neg (by omega), if_neg (by omega)]; omega
        · rw [hold a (by omega)]
          by_cases e1 : a = W1.heap.size
          · rw [if_pos e1, if_neg (by omega)]; omega
          · rw [if_neg e1]; split <;> omega
    have hx2 : WfX n t2 (fun j => j = 0) := by
      rw [ht2]
      refine ⟨rfl, fun j k hk => ?_⟩
      cases j with
      | zero =>
        have hk : some t = some k := hk
        cases hk
        exact ⟨hw, fun hc => absurd rfl hc⟩
      | succ j => simp at hk
    have hc2 : t2.kids[0]? = some t := by rw [ht2]; rfl
    have hsp := split5N_any (i := 0) hO2 hx2 hc2 h5 (by rw [ht2]; simp)
    have h2b : t2.b = W1.heap.size := by rw [ht2]
    have h2e : t2.es = [] := by rw [ht2]
    rw [h2b, h2e] at hsp
    have hapT : tc (n + 1) T t2 = 0 := by rw [htot, hsc, if_neg (by omega), if_neg (by omega)]; omega
    have hflt : flatN (n + 1) t2 = flatN n t := by rw [ht2]; show inter [] [flatN n t] = _; exact inter_one _
    have hTl3 : T < W3.heap.size := by omega
    have hchg : Chg (fun a => (if a = T then 1 else 0) + tc n a t) W W3 := ⟨by rw [← hW3]; exact hbb.os, by rw [← hW3]; exact hbb.tape, by rw [← hW3]; exact hbb.output, by omega, fun a ha hf => by
      have hne : a ≠ T := fun hc => by simp [hc] at hf
      rw [hset a hne, hbb.block a ha]⟩
    have d0 : W2.cell? ⟨T, 0, none⟩ = some (.pointer (some ⟨t.b, 0, none⟩)) := by simp [World.cell?, hT2]
    have df : ∀ j, W2.frozen? ⟨T, j, none⟩ = false := fun j => by simp [World.frozen?, hT2]
    have e0 : W3.cell? ⟨T, 0, none⟩ = some (.pointer (some ⟨W1.heap.size, 0, none⟩)) := by simp [World.cell?, hT3]
    have HH := (show Hid _ from And.intro hs1 (And.intro hs3 (And.intro hT3 (And.intro hsc (And.intro htot (And.intro hapT (And.intro hflt (And.intro hTl3 (And.intro hchg h2b)))))))))
    rw [h5] at t0
    clear hT h hw hl5 hl1 hap h4 h5 hs1 hs2 hs3 hb1 hb2 hbb hset hT2 hT3 hrow hnode ht2 hsc htot hold hO2 hx2 hc2 h2b h2e hapT hflt hchg
    go_enter Try.func26, Try.ntmps26
    go_wp2_with fail
    refine hsp.mono ?_
    rintro e w5 ⟨rfl, hag⟩
    have G := (show Hid _ from hag)
    clear hag hsp hW1 hW2 hW3
    go_wp2
    obtain ⟨hs1, hs3, hT3, hsc, htot, hapT, hflt, hTl3, hchg, h2e⟩ := HH.out
    obtain ⟨t3, a1, a2, a3, a4, a5⟩ := G.out
    have hne : t3.b = W1.heap.size := a1.b.trans h2e
    have hfin : RiseV W T n t c w5 := by
      refine ⟨n + 1, t3, ?_, a1.own, ⟨a2, by simp at a5; omega, .inr (by simpa using a4)⟩, a3.trans hflt, ?_, fun a ha => ?_, hchg.trans a1.chg fun a ha hf => ?_⟩
      · rw [a1.chg.block T hTl3 hapT, hne]; exact hT3
      · have := a1.cnt T hTl3; omega
      · have h1 := a1.cnt a (by omega)
        rw [htot, hsc, if_neg (by omega), if_neg (by omega)] at h1
        omega
      · have hf : (if a = T then 1 else 0) + tc n a t = 0 := hf
        show tc (n + 1) a t2 = 0
        rw [htot, hsc, if_neg (by omega), if_neg (by omega)]
        omega
    exact bodyPost_end (v := .tuple #[]) (by simp [results, Try.results26, go_sem]) rfl ⟨rfl, hfin⟩
end Go.Proofs.Ytoaekmighinmhaa
