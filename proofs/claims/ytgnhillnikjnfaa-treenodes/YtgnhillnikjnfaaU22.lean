/-
  First, Last, After, Before of a tree by their contracts. Conditions: as stated.
  The law's All by its contract: all entries of a tree, by After. Conditions: as stated.
  The law's Same by its contract: are two rows of entries the same. No conditions beyond those stated.
-/
import Derived.Test.YtgnhillnikjnfaaU21
import Derived.Test.YtgnhillnikjnfaaU8
import Derived.Deep.Heap
namespace Go.Proofs.Ytgnhillnikjnfaa
open Go.RowKit

section
variable {F : Nat → Prop} {T : Nat} {l : List En}
set_option maxRecDepth 100000 in
theorem FirstT_any (w : World) (h : TrF F w T l) : Calls Try.prog 16 #[.pointer (some ⟨T, 0, none⟩)] w fun r w' => r = .returned (retO l.head?) ∧ Below w.heap.size w w' := by
  obtain ⟨n, t, h1, hl, -⟩ := h
  have hr0 : ∃ W0, w.alloc (.cells #[.string ⟨#[]⟩, .int .i64 0] 30) = W0 := ⟨_, rfl⟩
  obtain ⟨W0, hW0⟩ := hr0
  have hbW : Below w.heap.size w W0 := by rw [← hW0]; exact (Below.refl _ _).alloc (Nat.le_refl _) _
  have r0 : W0.heap[w.heap.size]? = some (.cells #[.string ⟨#[]⟩, .int .i64 0] 30) := by rw [← hW0]; exact heap_alloc_new _ _
  have h2 := h1.below hbW
  obtain ⟨c0, c1, -, -⟩ := h2.view
  obtain ⟨q0, q1, qf, hlt⟩ := row2_of r0
  cases hx : l.head? with
  | none =>
    have hl0 : l = [] := List.head?_eq_none_iff.1 hx
    rw [hl, hl0] at c1
    clear h1 h2 hl hx r0
    go_enter Try.func16, Try.ntmps16
    go_wp2
    rw [retO_none]
    refine bodyPost_ret (v := .tuple #[.agg #[.string ⟨#[]⟩, .int .i64 0], .bool false]) (by simp [results, Try.results16, go_sem, q0, q1]) rfl ⟨rfl, ?_⟩
    exact (hbW.setCell (Nat.le_refl _) _).setCell (Nat.le_refl _) _
  | some x =>
    obtain ⟨xk, xi⟩ := x
    have hne : ¬ (l.length : Int) = 0 := by
      intro hc
      have : l = [] := List.length_eq_zero_iff.1 (by omega)
      rw [this] at hx; cases hx
    have hes : 1 ≤ t.es.length := by
      rcases h1.top.2.2 with h0 | h0
      · subst h0
        have e : t.es = l := hl
        rw [e]; omega
      · exact h0
    have hcall := first_any n t (xk, xi) W0 h2.own.1 h2.top.1 hes (by rw [hl]; exact hx)
    rw [hl] at c1
    generalize l.length = m at *
    have hne2 : ¬ m = 0 := by omega
    clear h1 h2 hl hx hes
    go_enter Try.func16, Try.ntmps16
    go_wp2_with fail
    refine hcall.mono ?_
    rintro e w1 ⟨rfl, hb1⟩
    obtain ⟨e0, e1, ef, hel⟩ := row2_of ((hb1.block _ hlt).trans r0)
    have hb := hbW.trans (hb1.mono hbW.size)
    clear hcall hb1 r0 q0 q1 qf c0 c1 hW0
    go_wp2
    rw [retO_some]
    refine bodyPost_ret (v := .tuple #[.agg #[.string xk, .int .i64 xi], .bool true]) (by simp [results, Try.results16, go_sem, e0, e1]) rfl ⟨rfl, ?_⟩
    exact (hb.setCell (Nat.le_refl _) _).setCell (Nat.le_refl _) _
set_option maxRecDepth 100000 in
theorem LastT_any (w : World) (h : TrF F w T l) : Calls Try.prog 17 #[.pointer (some ⟨T, 0, none⟩)] w fun r w' => r = .returned (retO l.getLast?) ∧ Below w.heap.size w w' := by
  obtain ⟨n, t, h1, hl, -⟩ := h
  have hr0 : ∃ W0, w.alloc (.cells #[.string ⟨#[]⟩, .int .i64 0] 30) = W0 := ⟨_, rfl⟩
  obtain ⟨W0, hW0⟩ := hr0
  have hbW : Below w.heap.size w W0 := by rw [← hW0]; exact (Below.refl _ _).alloc (Nat.le_refl _) _
  have r0 : W0.heap[w.heap.size]? = some (.cells #[.string ⟨#[]⟩, .int .i64 0] 30) := by rw [← hW0]; exact heap_alloc_new _ _
  have h2 := h1.below hbW
  obtain ⟨c0, c1, -, -⟩ := h2.view
  obtain ⟨q0, q1, qf, hlt⟩ := row2_of r0
  cases hx : l.getLast? with
  | none =>
    have hl0 : l = [] := List.getLast?_eq_none_iff.1 hx
    rw [hl, hl0] at c1
    clear h1 h2 hl hx r0
    go_enter Try.func17, Try.ntmps17
    go_wp2
    rw [retO_none]
    refine bodyPost_ret (v := .tuple #[.agg #[.string ⟨#[]⟩, .int .i64 0], .bool false]) (by simp [results, Try.results17, go_sem, q0, q1]) rfl ⟨rfl, ?_⟩
    exact (hbW.setCell (Nat.le_refl _) _).setCell (Nat.le_refl _) _
  | some x =>
    obtain ⟨xk, xi⟩ := x
    have hne : ¬ (l.length : Int) = 0 := by
      intro hc
      have : l = [] := List.length_eq_zero_iff.1 (by omega)
      rw [this] at hx; cases hx
    have hes : 1 ≤ t.es.length := by
      rcases h1.top.2.2 with h0 | h0
      · subst h0
        have e : t.es = l := hl
        rw [e]; omega
      · exact h0
    have hcall := last_any n t (xk, xi) W0 h2.own.1 h2.top.1 hes h2.top.2.1 (by rw [hl]; exact hx)
    rw [hl] at c1
    generalize l.length = m at *
    have hne2 : ¬ m = 0 := by omega
    clear h1 h2 hl hx hes
    go_enter Try.func17, Try.ntmps17
    go_wp2_with fail
    refine hcall.mono ?_
    rintro e w1 ⟨rfl, hb1⟩
    obtain ⟨e0, e1, ef, hel⟩ := row2_of ((hb1.block _ hlt).trans r0)
    have hb := hbW.trans (hb1.mono hbW.size)
    clear hcall hb1 r0 q0 q1 qf c0 c1 hW0
    go_wp2
    rw [retO_some]
    refine bodyPost_ret (v := .tuple #[.agg #[.string xk, .int .i64 xi], .bool true]) (by simp [results, Try.results17, go_sem, e0, e1]) rfl ⟨rfl, ?_⟩
    exact (hb.setCell (Nat.le_refl _) _).setCell (Nat.le_refl _) _
theorem retO_form (o : Option En) : ∃ (k : ByteArray) (i : Int) (b : Bool), retO o = .tuple #[.agg #[.string k, .int .i64 i], .bool b] := by
  cases o with
  | none => exact ⟨_, _, _, rfl⟩
  | some x => exact ⟨_, _, _, rfl⟩
set_option maxRecDepth 100000 in
theorem AfterT_any (e : En) (w : World) (h : TrF F w T l) : Calls Try.prog 23 #[.pointer (some ⟨T, 0, none⟩), .agg #[.string e.1, .int .i64 e.2]] w fun r w' => r = .returned (retO (afterE e l)) ∧ Below w.heap.size w w' := by
  obtain ⟨n, t, h1, hl, -⟩ := h
  obtain ⟨ek, ei⟩ := e
  obtain ⟨W0, hW0, hwW, hs0, k0, k1, r0⟩ := box2_any w ek ei
  have h2 := h1.below hwW
  obtain ⟨c0, -, -, hTl⟩ := h2.view
  have hcall := after_any n t (ek, ei) W0.drew (h2.own.1.below (Below.refl _ _).drew) h2.top.1 h2.top.2.1 h2.sort
  rw [hl] at hcall
  obtain ⟨xk, xi, xb, hx⟩ := retO_form (afterE (ek, ei) l)
  rw [hx] at hcall ⊢
  have P0 := fun (w' : World) (h : w'.heap[T]? = W0.heap[T]? ∧ w'.heap[w.heap.size]? = W0.heap[w.heap.size]?) => (World.cell?_of_block (a := ⟨T, 0, none⟩) h.1).trans c0
  have P1 := fun (w' : World) (h : w'.heap[T]? = W0.heap[T]? ∧ w'.heap[w.heap.size]? = W0.heap[w.heap.size]?) => (World.cell?_of_block (a := ⟨w.heap.size, 0, none⟩) h.2).trans k0
  have P2 := fun (w' : World) (h : w'.heap[T]? = W0.heap[T]? ∧ w'.heap[w.heap.size]? = W0.heap[w.heap.size]?) => (World.cell?_of_block (a := ⟨w.heap.size, 1, none⟩) h.2).trans k1
  have hTw := lt_of_heap h1.cell
  clear h1 h2 hl hx c0 k0 k1
  have h0 : (fun w' : World => w'.heap[T]? = W0.heap[T]? ∧ w'.heap[w.heap.size]? = W0.heap[w.heap.size]?) W0.drew := ⟨rfl, rfl⟩
  go_enter Try.func23, Try.ntmps23
  go_wp2_with fail
  refine wp_region_held (S := fun w' => w'.heap[T]? = W0.heap[T]? ∧ w'.heap[w.heap.size]? = W0.heap[w.heap.size]?) mixed ?_
  refine wpAnyH_take (i := 0) (oi := ⟨_, _, _, _, _, _⟩) (v := ?v1) rfl (by kernel_rfl) (by kernel_rfl) (by kernel_rfl) (fun _ _ _ h => h) (Or.inl ⟨by rfl, ?hy1⟩) h0 ?rest1
  case hy1 => (intro w hSw; (try dsimp only at hSw); go_simp; try with_reducible rfl)
  simp only [Act.put, List.setIfInBounds_toArray, List.set_cons_zero, List.set_cons_succ]
  refine wpAnyH_take (i := 1) (oi := ⟨_, _, _, _, _, _⟩) (v := ?v2) rfl (by kernel_rfl) (by kernel_rfl) (by kernel_rfl) (fun _ _ _ h => h) (Or.inl ⟨by rfl, ?hy2⟩) h0 ?rest2
  case hy2 => (intro w hSw; (try dsimp only at hSw); go_simp; try with_reducible rfl)
  simp only [Act.put, List.setIfInBounds_toArray, List.set_cons_zero, List.set_cons_succ]
  refine wpAnyH_take (i := 2) (oi := ⟨_, _, _, _, _, _⟩) (v := ?v3) rfl (by kernel_rfl) (by kernel_rfl) (by kernel_rfl) (fun _ _ _ h => h) (Or.inl ⟨by rfl, ?hy3⟩) h0 ?rest3
  case hy3 => (intro w hSw; (try dsimp only at hSw); go_simp; try with_reducible rfl)
  simp only [Act.put, List.setIfInBounds_toArray, List.set_cons_zero, List.set_cons_succ]
  refine wpAnyH_take (i := 3) (oi := ⟨_, _, _, _, _, _⟩) (v := ?v4) rfl (by kernel_rfl) (by kernel_rfl) (by kernel_rfl) (fun _ _ _ h => h) (Or.inl ⟨by rfl, ?hy4⟩) h0 ?rest4
  case hy4 => (intro w hSw; (try dsimp only at hSw); go_simp; try with_reducible rfl)
  simp only [Act.put, List.setIfInBounds_toArray, List.set_cons_zero, List.set_cons_succ]
  refine wpAnyH_take (i := 4) (oi := ⟨_, _, _, _, _, _⟩) (v := ?v5) rfl (by kernel_rfl) (by kernel_rfl) (by kernel_rfl) (fun _ _ _ h => h) (Or.inl ⟨by rfl, ?hy5⟩) h0 ?rest5
  case hy5 => (intro w hSw; (try dsimp only at hSw); go_simp; try with_reducible rfl)
  simp only [Act.put, List.setIfInBounds_toArray, List.set_cons_zero, List.set_cons_succ]
  refine wpAnyH_ready (rs := [5]) (by kernel_rfl) (by simp) ?_
  refine AllReadyH.cons (o := ⟨_, _, _, _, _, _⟩) rfl (fun K hK => ?_) AllReadyH.nil
  go_simp
  refine hcall.mono ?_
  rintro e w1 ⟨rfl, hb1⟩
  have h3 : w1.heap[T]? = W0.heap[T]? ∧ w1.heap[w.heap.size]? = W0.heap[w.heap.size]? := ⟨hb1.block T hTl, hb1.block w.heap.size (show w.heap.size < W0.heap.size by omega)⟩
  obtain ⟨e0, e1, ef, hel⟩ := row2_of ((hb1.block _ (show w.heap.size + 1 < W0.heap.size by omega)).trans r0)
  have hb := hwW.trans ((Below.drop_drew hb1).mono hwW.size)
  clear hcall hb1 r0
  refine hK.out _ _ h3 (fun hHeld => ?_)
  clear hK K hHeld
  try simp only [Act.put, List.setIfInBounds_toArray, List.set_cons_zero, List.set_cons_succ]
  refine wpAnyH_take (i := 6) (oi := ⟨_, _, _, _, _, _⟩) (v := ?v6) rfl (by kernel_rfl) (by kernel_rfl) (by kernel_rfl) (fun _ _ _ h => h) (Or.inl ⟨by rfl, ?hy6⟩) h3 ?rest6
  case hy6 => (intro w hSw; (try dsimp only at hSw); go_simp; try with_reducible rfl)
  simp only [Act.put, List.setIfInBounds_toArray, List.set_cons_zero, List.set_cons_succ]
  refine wpAnyH_take (i := 7) (oi := ⟨_, _, _, _, _, _⟩) (v := ?v7) rfl (by kernel_rfl) (by kernel_rfl) (by kernel_rfl) (fun _ _ _ h => h) (Or.inl ⟨by rfl, ?hy7⟩) h3 ?rest7
  case hy7 => (intro w hSw; (try dsimp only at hSw); go_simp; try with_reducible rfl)
  simp only [Act.put, List.setIfInBounds_toArray, List.set_cons_zero, List.set_cons_succ]
  refine wpAnyH_ready (rs := [8]) (by kernel_rfl) (by simp) ?_
  refine AllReadyH.cons (o := ⟨_, _, _, _, _, _⟩) rfl (fun K hK => ?_) AllReadyH.nil
  go_simp
  have h4 : ((w1.setCell ⟨w.heap.size + 1, 0, none⟩ (.string xk)).setCell ⟨w.heap.size + 1, 1, none⟩ (.int .i64 xi)).heap[T]? = W0.heap[T]? ∧ ((w1.setCell ⟨w.heap.size + 1, 0, none⟩ (.string xk)).setCell ⟨w.heap.size + 1, 1, none⟩ (.int .i64 xi)).heap[w.heap.size]? = W0.heap[w.heap.size]? := by
    have n1 : T ≠ w.heap.size + 1 := by omega
    have n2 : w.heap.size ≠ w.heap.size + 1 := by omega
    rw [Below.heap_setCell _ _ _ _ n1, Below.heap_setCell _ _ _ _ n1, Below.heap_setCell _ _ _ _ n2, Below.heap_setCell _ _ _ _ n2]
    exact h3
  refine hK.out _ _ h4 (fun hHeld => ?_)
  clear hK K hHeld
  try simp only [Act.put, List.setIfInBounds_toArray, List.set_cons_zero, List.set_cons_succ]
  refine wpAnyH_ready (rs := [9]) (by kernel_rfl) (by simp) ?_
  refine AllReadyH.cons (o := ⟨_, _, _, _, _, _⟩) rfl (fun K hK => ?_) AllReadyH.nil
  go_simp
  refine hK.out _ _ h4 (fun hHeld => ?_)
  clear hK K hHeld
  try simp only [Act.put, List.setIfInBounds_toArray, List.set_cons_zero, List.set_cons_succ]
  refine wpAnyH_done (by kernel_rfl) ?_ _
  clear P0 P1 P2 h0 h3 h4 hW0
  go_wp2
  refine bodyPost_ret (v := .tuple #[.agg #[.string xk, .int .i64 xi], .bool xb]) (by simp [results, Try.results23, go_sem, e0, e1]) rfl ⟨rfl, ?_⟩
  exact (hb.setCell (Nat.le_succ _) _).setCell (Nat.le_succ _) _
set_option maxRecDepth 100000 in
theorem BeforeT_any (e : En) (w : World) (h : TrF F w T l) : Calls Try.prog 24 #[.pointer (some ⟨T, 0, none⟩), .agg #[.string e.1, .int .i64 e.2]] w fun r w' => r = .returned (retO (beforeE e l)) ∧ Below w.heap.size w w' := by
  obtain ⟨n, t, h1, hl, -⟩ := h
  obtain ⟨ek, ei⟩ := e
  obtain ⟨W0, hW0, hwW, hs0, k0, k1, r0⟩ := box2_any w ek ei
  have h2 := h1.below hwW
  obtain ⟨c0, -, -, hTl⟩ := h2.view
  have hcall := before_any n t (ek, ei) W0.drew (h2.own.1.below (Below.refl _ _).drew) h2.top.1 h2.top.2.1 h2.sort
  rw [hl] at hcall
  obtain ⟨xk, xi, xb, hx⟩ := retO_form (beforeE (ek, ei) l)
  rw [hx] at hcall ⊢
  have P0 := fun (w' : World) (h : w'.heap[T]? = W0.heap[T]? ∧ w'.heap[w.heap.size]? = W0.heap[w.heap.size]?) => (World.cell?_of_block (a := ⟨T, 0, none⟩) h.1).trans c0
  have P1 := fun (w' : World) (h : w'.heap[T]? = W0.heap[T]? ∧ w'.heap[w.heap.size]? = W0.heap[w.heap.size]?) => (World.cell?_of_block (a := ⟨w.heap.size, 0, none⟩) h.2).trans k0
  have P2 := fun (w' : World) (h : w'.heap[T]? = W0.heap[T]? ∧ w'.heap[w.heap.size]? = W0.heap[w.heap.size]?) => (World.cell?_of_block (a := ⟨w.heap.size, 1, none⟩) h.2).trans k1
  have hTw := lt_of_heap h1.cell
  clear h1 h2 hl hx c0 k0 k1
  have h0 : (fun w' : World => w'.heap[T]? = W0.heap[T]? ∧ w'.heap[w.heap.size]? = W0.heap[w.heap.size]?) W0.drew := ⟨rfl, rfl⟩
  go_enter Try.func24, Try.ntmps24
  go_wp2_with fail
  refine wp_region_held (S := fun w' => w'.heap[T]? = W0.heap[T]? ∧ w'.heap[w.heap.size]? = W0.heap[w.heap.size]?) mixed ?_
  refine wpAnyH_take (i := 0) (oi := ⟨_, _, _, _, _, _⟩) (v := ?v8) rfl (by kernel_rfl) (by kernel_rfl) (by kernel_rfl) (fun _ _ _ h => h) (Or.inl ⟨by rfl, ?hy8⟩) h0 ?rest8
  case hy8 => (intro w hSw; (try dsimp only at hSw); go_simp; try with_reducible rfl)
  simp only [Act.put, List.setIfInBounds_toArray, List.set_cons_zero, List.set_cons_succ]
  refine wpAnyH_take (i := 1) (oi := ⟨_, _, _, _, _, _⟩) (v := ?v9) rfl (by kernel_rfl) (by kernel_rfl) (by kernel_rfl) (fun _ _ _ h => h) (Or.inl ⟨by rfl, ?hy9⟩) h0 ?rest9
  case hy9 => (intro w hSw; (try dsimp only at hSw); go_simp; try with_reducible rfl)
  simp only [Act.put, List.setIfInBounds_toArray, List.set_cons_zero, List.set_cons_succ]
  refine wpAnyH_take (i := 2) (oi := ⟨_, _, _, _, _, _⟩) (v := ?v10) rfl (by kernel_rfl) (by kernel_rfl) (by kernel_rfl) (fun _ _ _ h => h) (Or.inl ⟨by rfl, ?hy10⟩) h0 ?rest10
  case hy10 => (intro w hSw; (try dsimp only at hSw); go_simp; try with_reducible rfl)
  simp only [Act.put, List.setIfInBounds_toArray, List.set_cons_zero, List.set_cons_succ]
  refine wpAnyH_take (i := 3) (oi := ⟨_, _, _, _, _, _⟩) (v := ?v11) rfl (by kernel_rfl) (by kernel_rfl) (by kernel_rfl) (fun _ _ _ h => h) (Or.inl ⟨by rfl, ?hy11⟩) h0 ?rest11
  case hy11 => (intro w hSw; (try dsimp only at hSw); go_simp; try with_reducible rfl)
  simp only [Act.put, List.setIfInBounds_toArray, List.set_cons_zero, List.set_cons_succ]
  refine wpAnyH_take (i := 4) (oi := ⟨_, _, _, _, _, _⟩) (v := ?v12) rfl (by kernel_rfl) (by kernel_rfl) (by kernel_rfl) (fun _ _ _ h => h) (Or.inl ⟨by rfl, ?hy12⟩) h0 ?rest12
  case hy12 => (intro w hSw; (try dsimp only at hSw); go_simp; try with_reducible rfl)
  simp only [Act.put, List.setIfInBounds_toArray, List.set_cons_zero, List.set_cons_succ]
  refine wpAnyH_ready (rs := [5]) (by kernel_rfl) (by simp) ?_
  refine AllReadyH.cons (o := ⟨_, _, _, _, _, _⟩) rfl (fun K hK => ?_) AllReadyH.nil
  go_simp
  refine hcall.mono ?_
  rintro e w1 ⟨rfl, hb1⟩
  have h3 : w1.heap[T]? = W0.heap[T]? ∧ w1.heap[w.heap.size]? = W0.heap[w.heap.size]? := ⟨hb1.block T hTl, hb1.block w.heap.size (show w.heap.size < W0.heap.size by omega)⟩
  obtain ⟨e0, e1, ef, hel⟩ := row2_of ((hb1.block _ (show w.heap.size + 1 < W0.heap.size by omega)).trans r0)
  have hb := hwW.trans ((Below.drop_drew hb1).mono hwW.size)
  clear hcall hb1 r0
  refine hK.out _ _ h3 (fun hHeld => ?_)
  clear hK K hHeld
  try simp only [Act.put, List.setIfInBounds_toArray, List.set_cons_zero, List.set_cons_succ]
  refine wpAnyH_take (i := 6) (oi := ⟨_, _, _, _, _, _⟩) (v := ?v13) rfl (by kernel_rfl) (by kernel_rfl) (by kernel_rfl) (fun _ _ _ h => h) (Or.inl ⟨by rfl, ?hy13⟩) h3 ?rest13
  case hy13 => (intro w hSw; (try dsimp only at hSw); go_simp; try with_reducible rfl)
  simp only [Act.put, List.setIfInBounds_toArray, List.set_cons_zero, List.set_cons_succ]
  refine wpAnyH_take (i := 7) (oi := ⟨_, _, _, _, _, _⟩) (v := ?v14) rfl (by kernel_rfl) (by kernel_rfl) (by kernel_rfl) (fun _ _ _ h => h) (Or.inl ⟨by rfl, ?hy14⟩) h3 ?rest14
  case hy14 => (intro w hSw; (try dsimp only at hSw); go_simp; try with_reducible rfl)
  simp only [Act.put, List.setIfInBounds_toArray, List.set_cons_zero, List.set_cons_succ]
  refine wpAnyH_ready (rs := [8]) (by kernel_rfl) (by simp) ?_
  refine AllReadyH.cons (o := ⟨_, _, _, _, _, _⟩) rfl (fun K hK => ?_) AllReadyH.nil
  go_simp
  have h4 : ((w1.setCell ⟨w.heap.size + 1, 0, none⟩ (.string xk)).setCell ⟨w.heap.size + 1, 1, none⟩ (.int .i64 xi)).heap[T]? = W0.heap[T]? ∧ ((w1.setCell ⟨w.heap.size + 1, 0, none⟩ (.string xk)).setCell ⟨w.heap.size + 1, 1, none⟩ (.int .i64 xi)).heap[w.heap.size]? = W0.heap[w.heap.size]? := by
    have n1 : T ≠ w.heap.size + 1 := by omega
    have n2 : w.heap.size ≠ w.heap.size + 1 := by omega
    rw [Below.heap_setCell _ _ _ _ n1, Below.heap_setCell _ _ _ _ n1, Below.heap_setCell _ _ _ _ n2, Below.heap_setCell _ _ _ _ n2]
    exact h3
  refine hK.out _ _ h4 (fun hHeld => ?_)
  clear hK K hHeld
  try simp only [Act.put, List.setIfInBounds_toArray, List.set_cons_zero, List.set_cons_succ]
  refine wpAnyH_ready (rs := [9]) (by kernel_rfl) (by simp) ?_
  refine AllReadyH.cons (o := ⟨_, _, _, _, _, _⟩) rfl (fun K hK => ?_) AllReadyH.nil
  go_simp
  refine hK.out _ _ h4 (fun hHeld => ?_)
  clear hK K hHeld
  try simp only [Act.put, List.setIfInBounds_toArray, List.set_cons_zero, List.set_cons_succ]
  refine wpAnyH_done (by kernel_rfl) ?_ _
  clear P0 P1 P2 h0 h3 h4 hW0
  go_wp2
  refine bodyPost_ret (v := .tuple #[.agg #[.string xk, .int .i64 xi], .bool xb]) (by simp [results, Try.results24, go_sem, e0, e1]) rfl ⟨rfl, ?_⟩
  exact (hb.setCell (Nat.le_succ _) _).setCell (Nat.le_succ _) _
end
end Go.Proofs.Ytgnhillnikjnfaa

namespace Go.Proofs.Ytgnhillnikjnfaa
open Go.RowKit

theorem set2 {w : World} {b : Nat} {k k' : ByteArray} {i i' : Int} (h : w.heap[b]? = some (.cells #[.string k, .int .i64 i] 30 (0, 0))) : ((w.setCell ⟨b, 0, none⟩ (.string k')).setCell ⟨b, 1, none⟩ (.int .i64 i')).heap[b]? = some (.cells #[.string k', .int .i64 i'] 30 (0, 0)) := by
  rw [heap_setCell_at (heap_setCell_at h)]; rfl
theorem OwE.set {w0 w : World} {B b j : Nat} {s v : Value} {l : List En} (h : OwE w0 B s l w) (hb : b < B) (h0 : w0.heap.size ≤ b) : OwE w0 B s l (w.setCell ⟨b, j, none⟩ v) :=
  ⟨h.below.setCell h0 _, own_keep h.own fun a ha => Go.Deep.blk_setCell_other _ _ _ _ (by have := (h.own.lt a (vc_ne ha)).1; show a ≠ b; omega), h.le⟩
theorem retO_form2 (o : Option En) : ∃ (k : ByteArray) (i : Int) (b : Bool), retO o = .tuple #[.agg #[.string k, .int .i64 i], .bool b] ∧ b = o.isSome ∧ (∀ x, o = some x → x = (k, i)) ∧ (o = none → k = ⟨#[]⟩ ∧ i = 0) := by
  cases o with
  | none => exact ⟨⟨#[]⟩, 0, false, rfl, rfl, (fun x h => by cases h), fun _ => ⟨rfl, rfl⟩⟩
  | some x => exact ⟨x.1, x.2, true, rfl, rfl, (fun y h => by cases h; rfl), (fun h => by cases h)⟩
section
variable {F : Nat → Prop} {T : Nat} {l : List En}
set_option maxRecDepth 100000 in
set_option maxHeartbeats 4000000 in
theorem All_any (w : World) (h : TrF F w T l) (hl : l.length < 3000) : Calls Try.prog 21 #[.pointer (some ⟨T, 0, none⟩)] w fun r w' => ∃ v', r = .returned v' ∧ ∃ B, OwE w B v' l w' := by
  have hfirst := FirstT_any w h
  obtain ⟨fk, fi, fb, hf1, hf2, hf3, -⟩ := retO_form2 l.head?
  rw [hf1] at hfirst
  have hs := h.sort
  obtain ⟨N, hN⟩ : ∃ N, l.length = N := ⟨_, rfl⟩
  rw [hN] at hl
  have HF := (show Hid _ from hfirst)
  have HH := (show Hid _ from And.intro h (And.intro hs (And.intro hf2 (And.intro hf3 hN))))
  clear h hs hfirst hf1 hf2 hf3 hN
  go_enter Try.func21, Try.ntmps21
  go_wp2_with fail
  refine Calls.mono HF.out ?_
  rintro e w1 ⟨rfl, hb1⟩
  obtain ⟨W2, hW2, hb2, hs2, k0, k1⟩ := box_any w1 fk fi
  have r2 : W2.heap[w1.heap.size]? = some (.cells #[.string fk, .int .i64 fi] 30 (0, 0)) := by rw [← hW2]; exact heap_alloc_new _ _
  have HB := (show Hid _ from And.intro (hb1.trans (hb2.mono hb1.size)) (And.intro hb1.size (And.intro hs2 r2)))
  clear hb1 hb2 k0 k1 hs2 r2 HF
  go_wp2
  go_loopg [3, 5] N (fun gg ov ok wr => ∃ (j : Nat) (b : Bool) (k : ByteArray) (i : Int), j ≤ N ∧ N - j ≤ gg ∧ ok = .bool b ∧ Aside (OwE w (w1.heap.size + 1) ov (l.take j) wr ∧ b = (l[j]?).isSome ∧ (∀ x, l[j]? = some x → x = (k, i)) ∧ wr.heap[w1.heap.size]? = some (.cells #[.string k, .int .i64 i] 30 (0, 0))))
  case atStart =>
    obtain ⟨h, hs, hf2, hf3, hN⟩ := HH.out
    obtain ⟨hb, hb1, hs2, r2⟩ := HB.out
    rw [List.head?_eq_getElem?] at hf2 hf3
    exact ⟨0, fb, fk, fi, Nat.zero_le _, by omega, rfl, OwE.nil hb (by omega), hf2, hf3, r2⟩
  case round =>
    obtain ⟨j, b, k, i, hjN, hgg, rfl, HR⟩ := hrel
    obtain ⟨hrow, hbb, hx, rB⟩ := HR.out
    clear HR
    obtain ⟨oa, oc, rfl⟩ := hrow.slice
    obtain ⟨h, hs, -, -, hN⟩ := HH.out
    have hq : (l.take j).length = j := by rw [List.length_take]; omega
    rw [hq] at hrow ⊢
    by_cases hj : j < N
    · obtain ⟨x, hx0⟩ : ∃ x, l[j]? = some x := ⟨_, List.getElem?_eq_getElem (by omega)⟩
      obtain rfl := hx x hx0
      rw [hx0] at hbb
      obtain rfl : b = true := hbb
      obtain ⟨q0, q1, qf, hlt⟩ := row2_of rB
      have hstep : l.take (j + 1) = l.take j ++ [(k, i)] := by rw [List.take_add_one, hx0]; rfl
      obtain ⟨ak, ai, ab, ha1, ha2, ha3, -⟩ := retO_form2 (afterE (k, i) l)
      have hat := after_at hs hx0
      rw [hat] at ha2 ha3
      have hcall := fun (W : World) (hb : Below w.heap.size w W) => AfterT_any (k, i) W (h.below hb)
      rw [ha1] at hcall
      have HC := (show Hid _ from hcall)
      have HE := (show Hid _ from And.intro hrow (And.intro hstep (And.intro ha2 (And.intro ha3 (And.intro rB (And.intro hgg (And.intro hjN HB.out.2.1)))))))
      have hB1 : w1.heap.size + 1 ≤ wr.heap.size := hlt
      have zj : (j : Int) < 3000 := by omega
      have hjl : (l.take j).length ≤ 1000000 := by omega
      have hne : (Value.slice oa j oc).ownBlock ≠ some w1.heap.size := hrow.ne (.inl (by omega))
      clear h hs hN hq hrow hx hx0 rB hstep ha1 ha2 ha3 hat hcall hgg hjN
      go_wp2_with (first | (at_builtin; refine append_en rfl (.tmp 17) (.tmp 19) rfl HE.out.1 hB1 (k, i) rfl _ rfl rfl hjl ?_; intro s1 u1 h1 hz1 hk1; obtain ⟨y0, y1, yf, ylt⟩ := row2_of ((hk1 w1.heap.size hlt hne).trans HE.out.2.2.2.2.1); have H1 := (show Hid _ from And.intro h1 ((hk1 w1.heap.size hlt hne).trans HE.out.2.2.2.2.1)); clear h1 hz1 hk1 q0 q1 qf))
      refine Calls.mono (HC.out u1 H1.out.1.below) ?_
      rintro e w7 ⟨rfl, hb7⟩
      have rB7 := (hb7.block _ ylt).trans H1.out.2
      have HX := (show Hid _ from And.intro (H1.out.1.same hb7) rB7)
      obtain ⟨v0, v1, vf, vlt⟩ := row2_of rB7
      clear hb7 rB7 y0 y1 yf ylt H1 HC
      go_wp2
      go_roundg (N - (j + 1))
      case measure => (obtain ⟨-, -, -, -, -, h6, h7, -⟩ := HE.out; clear HE; omega)
      case rel =>
        obtain ⟨-, h2, h3, h4, -, h6, h7, h8⟩ := HE.out
        refine ⟨j + 1, ab, ak, ai, by omega, by omega, rfl, ?_, h3, h4, set2 HX.out.2⟩
        rw [h2]
        exact (HX.out.1.set (by omega) h8).set (by omega) h8
    · obtain rfl : N = j := by omega
      rw [List.getElem?_eq_none (Nat.le_of_eq hN)] at hbb
      obtain rfl : b = false := hbb
      rw [List.take_of_length_le (Nat.le_of_eq hN)] at hrow
      have HE := (show Hid _ from hrow)
      clear h hs hN hq hrow hx rB hgg hjN hj HH
      go_wp2
      go_ret
      exact ⟨_, rfl, _, HE.out⟩
end
end Go.Proofs.Ytgnhillnikjnfaa

namespace Go.Proofs.Ytgnhillnikjnfaa
open Go.RowKit

theorem take_snoc {l : List En} {j : Nat} {x : En} (h : l[j]? = some x) : l.take (j + 1) = l.take j ++ [x] := by rw [List.take_add_one, h]; rfl
set_option maxRecDepth 100000 in
set_option maxHeartbeats 4000000 in
theorem Same_any (a b : List En) (B1 B2 : Nat) (va vb : Value) (w : World) (ha : w.ownsRow B1 30 2 va a.length (encEns a)) (hb : w.ownsRow B2 30 2 vb b.length (encEns b)) (hl : a.length ≤ 1000000) :
    Calls Try.prog 20 #[va, vb] w fun r w' => r = .returned (.bool (decide (a = b))) ∧ Below w.heap.size w w' := by
  obtain ⟨aa, ac, rfl⟩ := slice_of_row ha
  obtain ⟨ba, bc, rfl⟩ := slice_of_row hb
  obtain ⟨N, hN⟩ : ∃ N, a.length = N := ⟨_, rfl⟩
  obtain ⟨M, hM⟩ : ∃ M, b.length = M := ⟨_, rfl⟩
  rw [hN] at ha hl ⊢
  rw [hM] at hb ⊢
  by_cases hNM : N = M
  · subst hNM
    have HH := (show Hid _ from And.intro ha (And.intro hb (And.intro hN hM)))
    clear ha hb hN hM
    go_enter Try.func20, Try.ntmps20
    go_wp2
    go_loopg [5, 13] N (fun gg _ i wr => ∃ (j : Nat), j ≤ N ∧ N - j ≤ gg ∧ i = .int .i64 j ∧ Aside (a.take j = b.take j ∧ Below w.heap.size w wr))
    case atStart => exact ⟨0, Nat.zero_le _, by omega, rfl, rfl, Below.refl _ _⟩
    case round =>
      obtain ⟨j, hjN, hgg, rfl, HR⟩ := hrel
      obtain ⟨heq, hbR⟩ := HR.out
      clear HR
      by_cases hj : j < N
      · obtain ⟨ha, hb, hN, hM⟩ := HH.out
        obtain ⟨⟨xk, xi⟩, hx⟩ : ∃ x, a[j]? = some x := ⟨_, List.getElem?_eq_getElem (by omega)⟩
        obtain ⟨⟨yk, yi⟩, hy⟩ : ∃ x, b[j]? = some x := ⟨_, List.getElem?_eq_getElem (by omega)⟩
        have ha' := own_keep (W' := wr) ha fun c hc => hbR.block c (own_lt ha hc)
        have hb' := own_keep (W' := wr) hb fun c hc => hbR.block c (own_lt hb hc)
        rw [← hN] at ha'
        obtain ⟨P, c1, hv1, l1, l2, e0, e1, -⟩ := row_entry ha' hx
        rw [hN] at ha' hv1 l1
        rw [← hM] at hb'
        obtain ⟨Q, c2, hv2, l3, l4, d0, d1, -⟩ := row_entry hb' hy
        rw [hM] at hb' hv2 l3
        obtain ⟨rfl, rfl⟩ : aa = some ⟨P, 0, none⟩ ∧ ac = c1 := by
          simp only [Value.slice.injEq, true_and] at hv1; exact hv1
        obtain ⟨rfl, rfl⟩ : ba = some ⟨Q, 0, none⟩ ∧ bc = c2 := by
          simp only [Value.slice.injEq, true_and] at hv2; exact hv2
        have zj : (j : Int) < (N : Int) := by omega
        have hs1 := take_snoc hx
        have hs2 := take_snoc hy
        dsimp only at e0 e1 d0 d1
        have P0 := fun (w' : World) (h : w'.heap[P]? = wr.heap[P]? ∧ w'.heap[Q]? = wr.heap[Q]?) => (World.cell?_of_block (a := ⟨P, j * 2, none⟩) h.1).trans e0
        have P1 := fun (w' : World) (h : w'.heap[P]? = wr.heap[P]? ∧ w'.heap[Q]? = wr.heap[Q]?) => (World.cell?_of_block (a := ⟨P, j * 2 + 1, none⟩) h.1).trans e1
        have P2 := fun (w' : World) (h : w'.heap[P]? = wr.heap[P]? ∧ w'.heap[Q]? = wr.heap[Q]?) => (World.cell?_of_block (a := ⟨Q, j * 2, none⟩) h.2).trans d0
        have P3 := fun (w' : World) (h : w'.heap[P]? = wr.heap[P]? ∧ w'.heap[Q]? = wr.heap[Q]?) => (World.cell?_of_block (a := ⟨Q, j * 2 + 1, none⟩) h.2).trans d1
        have HE := (show Hid _ from And.intro heq (And.intro hbR (And.intro hs1 (And.intro hs2 (And.intro hgg (And.intro hjN (And.intro hx hy)))))))
        clear ha hb ha' hb' hN hM hx hy heq hbR hs1 hs2 hgg hjN hv1 hv2 e0 e1 d0 d1
        have h0 : (fun w' : World => w'.heap[P]? = wr.heap[P]? ∧ w'.heap[Q]? = wr.heap[Q]?) wr.drew := ⟨rfl, rfl⟩
        rcases Classical.em (((xk, xi) : En) = (yk, yi)) with hxy | hxy
        · obtain ⟨rfl, rfl⟩ : xk = yk ∧ xi = yi := by cases hxy; exact ⟨rfl, rfl⟩
          go_wp2_with fail
          refine wp_region_held (S := fun w' => w'.heap[P]? = wr.heap[P]? ∧ w'.heap[Q]? = wr.heap[Q]?) mixed ?_
          refine wpAnyH_take (i := 0) (oi := ⟨_, _, _, _, _, _⟩) (v := ?v1) rfl (by kernel_rfl) (by kernel_rfl) (by kernel_rfl) (fun _ _ _ h => h) (Or.inl ⟨by rfl, ?hy1⟩) h0 ?rest1
          case hy1 => (intro w hSw; (try dsimp only at hSw); go_simp; try with_reducible rfl)
          simp only [Act.put, List.setIfInBounds_toArray, List.set_cons_zero, List.set_cons_succ]
          refine wpAnyH_take (i := 1) (oi := ⟨_, _, _, _, _, _⟩) (v := ?v2) rfl (by kernel_rfl) (by kernel_rfl) (by kernel_rfl) (fun _ _ _ h => h) (Or.inl ⟨by rfl, ?hy2⟩) h0 ?rest2
          case hy2 => (intro w hSw; (try dsimp only at hSw); go_simp; try with_reducible rfl)
          simp only [Act.put, List.setIfInBounds_toArray, List.set_cons_zero, List.set_cons_succ]
          refine wpAnyH_take (i := 2) (oi := ⟨_, _, _, _, _, _⟩) (v := ?v3) rfl (by kernel_rfl) (by kernel_rfl) (by kernel_rfl) (fun _ _ _ h => h) (Or.inl ⟨by rfl, ?hy3⟩) h0 ?rest3
          case hy3 => (intro w hSw; (try dsimp only at hSw); go_simp; try with_reducible rfl)
          simp only [Act.put, List.setIfInBounds_toArray, List.set_cons_zero, List.set_cons_succ]
          refine wpAnyH_take (i := 3) (oi := ⟨_, _, _, _, _, _⟩) (v := ?v4) rfl (by kernel_rfl) (by kernel_rfl) (by kernel_rfl) (fun _ _ _ h => h) (Or.inl ⟨by rfl, ?hy4⟩) h0 ?rest4
          case hy4 => (intro w hSw; (try dsimp only at hSw); go_simp; try with_reducible rfl)
          simp only [Act.put, List.setIfInBounds_toArray, List.set_cons_zero, List.set_cons_succ]
          refine wpAnyH_take (i := 4) (oi := ⟨_, _, _, _, _, _⟩) (v := ?v5) rfl (by kernel_rfl) (by kernel_rfl) (by kernel_rfl) (fun _ _ _ h => h) (Or.inl ⟨by rfl, ?hy5⟩) h0 ?rest5
          case hy5 => (intro w hSw; (try dsimp only at hSw); go_simp; try with_reducible rfl)
          simp only [Act.put, List.setIfInBounds_toArray, List.set_cons_zero, List.set_cons_succ]
          refine wpAnyH_take (i := 5) (oi := ⟨_, _, _, _, _, _⟩) (v := ?v6) rfl (by kernel_rfl) (by kernel_rfl) (by kernel_rfl) (fun _ _ _ h => h) (Or.inl ⟨by rfl, ?hy6⟩) h0 ?rest6
          case hy6 => (intro w hSw; (try dsimp only at hSw); go_simp; try with_reducible rfl)
          simp only [Act.put, List.setIfInBounds_toArray, List.set_cons_zero, List.set_cons_succ]
          refine wpAnyH_take (i := 6) (oi := ⟨_, _, _, _, _, _⟩) (v := ?v7) rfl (by kernel_rfl) (by kernel_rfl) (by kernel_rfl) (fun _ _ _ h => h) (Or.inl ⟨by rfl, ?hy7⟩) h0 ?rest7
          case hy7 => (intro w hSw; (try dsimp only at hSw); go_simp; try with_reducible rfl)
          simp only [Act.put, List.setIfInBounds_toArray, List.set_cons_zero, List.set_cons_succ]
          refine wpAnyH_take (i := 7) (oi := ⟨_, _, _, _, _, _⟩) (v := ?v8) rfl (by kernel_rfl) (by kernel_rfl) (by kernel_rfl) (fun _ _ _ h => h) (Or.inl ⟨by rfl, ?hy8⟩) h0 ?rest8
          case hy8 => (intro w hSw; (try dsimp only at hSw); go_simp; try with_reducible rfl)
          simp only [Act.put, List.setIfInBounds_toArray, List.set_cons_zero, List.set_cons_succ]
          refine wpAnyH_take (i := 8) (oi := ⟨_, _, _, _, _, _⟩) (v := ?v9) rfl (by kernel_rfl) (by kernel_rfl) (by kernel_rfl) (fun _ _ _ h => h) (Or.inl ⟨by rfl, ?hy9⟩) h0 ?rest9
          case hy9 => (intro w hSw; (try dsimp only at hSw); go_simp; try with_reducible rfl)
          simp only [Act.put, List.setIfInBounds_toArray, List.set_cons_zero, List.set_cons_succ]
          refine wpAnyH_done (by kernel_rfl) ?_ _
          clear P0 P1 P2 P3 h0
          go_wp2
          go_roundg (N - (j + 1))
          case measure => (obtain ⟨-, -, -, -, h6, h7, -⟩ := HE.out; clear HE; omega)
          case rel =>
            obtain ⟨h1, h2, h3, h4, h6, h7, -⟩ := HE.out
            refine ⟨j + 1, by omega, by omega, by simp, ?_, h2.drew⟩
            rw [h3, h4, h1]
        · have hne : decide (a = b) = false := decide_eq_false fun e => hxy (by
            obtain ⟨h1, h2, h3, h4, h6, h7, h8, h9⟩ := HE.out
            rw [e] at h8
            rw [h8] at h9
            cases h9; rfl)
          rcases Classical.em (xk = yk) with hk | hk
          · subst hk
            have hie : ¬ xi = yi := fun h => hxy (by rw [h])
            go_wp2_with fail
            refine wp_region_held (S := fun w' => w'.heap[P]? = wr.heap[P]? ∧ w'.heap[Q]? = wr.heap[Q]?) mixed ?_
            refine wpAnyH_take (i := 0) (oi := ⟨_, _, _, _, _, _⟩) (v := ?v10) rfl (by kernel_rfl) (by kernel_rfl) (by kernel_rfl) (fun _ _ _ h => h) (Or.inl ⟨by rfl, ?hy10⟩) h0 ?rest10
            case hy10 => (intro w hSw; (try dsimp only at hSw); go_simp; try with_reducible rfl)
            simp only [Act.put, List.setIfInBounds_toArray, List.set_cons_zero, List.set_cons_succ]
            refine wpAnyH_take (i := 1) (oi := ⟨_, _, _, _, _, _⟩) (v := ?v11) rfl (by kernel_rfl) (by kernel_rfl) (by kernel_rfl) (fun _ _ _ h => h) (Or.inl ⟨by rfl, ?hy11⟩) h0 ?rest11
            case hy11 => (intro w hSw; (try dsimp only at hSw); go_simp; try with_reducible rfl)
            simp only [Act.put, List.setIfInBounds_toArray, List.set_cons_zero, List.set_cons_succ]
            refine wpAnyH_take (i := 2) (oi := ⟨_, _, _, _, _, _⟩) (v := ?v12) rfl (by kernel_rfl) (by kernel_rfl) (by kernel_rfl) (fun _ _ _ h => h) (Or.inl ⟨by rfl, ?hy12⟩) h0 ?rest12
            case hy12 => (intro w hSw; (try dsimp only at hSw); go_simp; try with_reducible rfl)
            simp only [Act.put, List.setIfInBounds_toArray, List.set_cons_zero, List.set_cons_succ]
            refine wpAnyH_take (i := 3) (oi := ⟨_, _, _, _, _, _⟩) (v := ?v13) rfl (by kernel_rfl) (by kernel_rfl) (by kernel_rfl) (fun _ _ _ h => h) (Or.inl ⟨by rfl, ?hy13⟩) h0 ?rest13
            case hy13 => (intro w hSw; (try dsimp only at hSw); go_simp; try with_reducible rfl)
            simp only [Act.put, List.setIfInBounds_toArray, List.set_cons_zero, List.set_cons_succ]
            refine wpAnyH_take (i := 4) (oi := ⟨_, _, _, _, _, _⟩) (v := ?v14) rfl (by kernel_rfl) (by kernel_rfl) (by kernel_rfl) (fun _ _ _ h => h) (Or.inl ⟨by rfl, ?hy14⟩) h0 ?rest14
            case hy14 => (intro w hSw; (try dsimp only at hSw); go_simp; try with_reducible rfl)
            simp only [Act.put, List.setIfInBounds_toArray, List.set_cons_zero, List.set_cons_succ]
            refine wpAnyH_take (i := 5) (oi := ⟨_, _, _, _, _, _⟩) (v := ?v15) rfl (by kernel_rfl) (by kernel_rfl) (by kernel_rfl) (fun _ _ _ h => h) (Or.inl ⟨by rfl, ?hy15⟩) h0 ?rest15
            case hy15 => (intro w hSw; (try dsimp only at hSw); go_simp; try with_reducible rfl)
            simp only [Act.put, List.setIfInBounds_toArray, List.set_cons_zero, List.set_cons_succ]
            refine wpAnyH_take (i := 6) (oi := ⟨_, _, _, _, _, _⟩) (v := ?v16) rfl (by kernel_rfl) (by kernel_rfl) (by kernel_rfl) (fun _ _ _ h => h) (Or.inl ⟨by rfl, ?hy16⟩) h0 ?rest16
            case hy16 => (intro w hSw; (try dsimp only at hSw); go_simp; try with_reducible rfl)
            simp only [Act.put, List.setIfInBounds_toArray, List.set_cons_zero, List.set_cons_succ]
            refine wpAnyH_take (i := 7) (oi := ⟨_, _, _, _, _, _⟩) (v := ?v17) rfl (by kernel_rfl) (by kernel_rfl) (by kernel_rfl) (fun _ _ _ h => h) (Or.inl ⟨by rfl, ?hy17⟩) h0 ?rest17
            case hy17 => (intro w hSw; (try dsimp only at hSw); go_simp; try with_reducible rfl)
            simp only [Act.put, List.setIfInBounds_toArray, List.set_cons_zero, List.set_cons_succ]
            refine wpAnyH_take (i := 8) (oi := ⟨_, _, _, _, _, _⟩) (v := ?v18) rfl (by kernel_rfl) (by kernel_rfl) (by kernel_rfl) (fun _ _ _ h => h) (Or.inl ⟨by rfl, ?hy18⟩) h0 ?rest18
            case hy18 => (intro w hSw; (try dsimp only at hSw); go_simp; try with_reducible rfl)
            simp only [Act.put, List.setIfInBounds_toArray, List.set_cons_zero, List.set_cons_succ]
            refine wpAnyH_done (by kernel_rfl) ?_ _
            clear P0 P1 P2 P3 h0
            go_wp2
            go_ret
            exact ⟨by rw [hne]; rfl, HE.out.2.1.drew⟩
          · have hkl : ¬ xk.toList = yk.toList := fun h => hk (text_ext h)
            go_wp2_with fail
            refine wp_region_held (S := fun w' => w'.heap[P]? = wr.heap[P]? ∧ w'.heap[Q]? = wr.heap[Q]?) mixed ?_
            refine wpAnyH_take (i := 0) (oi := ⟨_, _, _, _, _, _⟩) (v := ?v19) rfl (by kernel_rfl) (by kernel_rfl) (by kernel_rfl) (fun _ _ _ h => h) (Or.inl ⟨by rfl, ?hy19⟩) h0 ?rest19
            case hy19 => (intro w hSw; (try dsimp only at hSw); go_simp; try with_reducible rfl)
            simp only [Act.put, List.setIfInBounds_toArray, List.set_cons_zero, List.set_cons_succ]
            refine wpAnyH_take (i := 1) (oi := ⟨_, _, _, _, _, _⟩) (v := ?v20) rfl (by kernel_rfl) (by kernel_rfl) (by kernel_rfl) (fun _ _ _ h => h) (Or.inl ⟨by rfl, ?hy20⟩) h0 ?rest20
            case hy20 => (intro w hSw; (try dsimp only at hSw); go_simp; try with_reducible rfl)
            simp only [Act.put, List.setIfInBounds_toArray, List.set_cons_zero, List.set_cons_succ]
            refine wpAnyH_take (i := 2) (oi := ⟨_, _, _, _, _, _⟩) (v := ?v21) rfl (by kernel_rfl) (by kernel_rfl) (by kernel_rfl) (fun _ _ _ h => h) (Or.inl ⟨by rfl, ?hy21⟩) h0 ?rest21
            case hy21 => (intro w hSw; (try dsimp only at hSw); go_simp; try with_reducible rfl)
            simp only [Act.put, List.setIfInBounds_toArray, List.set_cons_zero, List.set_cons_succ]
            refine wpAnyH_take (i := 3) (oi := ⟨_, _, _, _, _, _⟩) (v := ?v22) rfl (by kernel_rfl) (by kernel_rfl) (by kernel_rfl) (fun _ _ _ h => h) (Or.inl ⟨by rfl, ?hy22⟩) h0 ?rest22
            case hy22 => (intro w hSw; (try dsimp only at hSw); go_simp; try with_reducible rfl)
            simp only [Act.put, List.setIfInBounds_toArray, List.set_cons_zero, List.set_cons_succ]
            refine wpAnyH_take (i := 4) (oi := ⟨_, _, _, _, _, _⟩) (v := ?v23) rfl (by kernel_rfl) (by kernel_rfl) (by kernel_rfl) (fun _ _ _ h => h) (Or.inl ⟨by rfl, ?hy23⟩) h0 ?rest23
            case hy23 => (intro w hSw; (try dsimp only at hSw); go_simp; try with_reducible rfl)
            simp only [Act.put, List.setIfInBounds_toArray, List.set_cons_zero, List.set_cons_succ]
            refine wpAnyH_take (i := 5) (oi := ⟨_, _, _, _, _, _⟩) (v := ?v24) rfl (by kernel_rfl) (by kernel_rfl) (by kernel_rfl) (fun _ _ _ h => h) (Or.inl ⟨by rfl, ?hy24⟩) h0 ?rest24
            case hy24 => (intro w hSw; (try dsimp only at hSw); go_simp; try with_reducible rfl)
            simp only [Act.put, List.setIfInBounds_toArray, List.set_cons_zero, List.set_cons_succ]
            refine wpAnyH_take (i := 6) (oi := ⟨_, _, _, _, _, _⟩) (v := ?v25) rfl (by kernel_rfl) (by kernel_rfl) (by kernel_rfl) (fun _ _ _ h => h) (Or.inl ⟨by rfl, ?hy25⟩) h0 ?rest25
            case hy25 => (intro w hSw; (try dsimp only at hSw); go_simp; try with_reducible rfl)
            simp only [Act.put, List.setIfInBounds_toArray, List.set_cons_zero, List.set_cons_succ]
            refine wpAnyH_take (i := 7) (oi := ⟨_, _, _, _, _, _⟩) (v := ?v26) rfl (by kernel_rfl) (by kernel_rfl) (by kernel_rfl) (fun _ _ _ h => h) (Or.inl ⟨by rfl, ?hy26⟩) h0 ?rest26
            case hy26 => (intro w hSw; (try dsimp only at hSw); go_simp; try with_reducible rfl)
            simp only [Act.put, List.setIfInBounds_toArray, List.set_cons_zero, List.set_cons_succ]
            refine wpAnyH_take (i := 8) (oi := ⟨_, _, _, _, _, _⟩) (v := ?v27) rfl (by kernel_rfl) (by kernel_rfl) (by kernel_rfl) (fun _ _ _ h => h) (Or.inl ⟨by rfl, ?hy27⟩) h0 ?rest27
            case hy27 => (intro w hSw; (try dsimp only at hSw); go_simp; try with_reducible rfl)
            simp only [Act.put, List.setIfInBounds_toArray, List.set_cons_zero, List.set_cons_succ]
            refine wpAnyH_done (by kernel_rfl) ?_ _
            clear P0 P1 P2 P3 h0
            go_wp2
            go_ret
            exact ⟨by rw [hne]; rfl, HE.out.2.1.drew⟩
      · obtain rfl : N = j := by omega
        obtain ⟨-, -, hN, hM⟩ := HH.out
        rw [List.take_of_length_le (Nat.le_of_eq hN), List.take_of_length_le (Nat.le_of_eq hM)] at heq
        have hd : decide (a = b) = true := decide_eq_true heq
        clear hN hM heq hgg hjN hj HH
        go_wp2
        go_ret
        exact ⟨by rw [hd]; rfl, hbR⟩
  · have hne : decide (a = b) = false := decide_eq_false fun e => hNM (by rw [← hN, ← hM, e])
    rw [hne]
    have hnz : ¬ (N : Int) = (M : Int) := by omega
    clear ha hb hN hM hne
    go_enter Try.func20, Try.ntmps20
    go_wp2
    go_ret
    exact ⟨rfl, Below.refl _ _⟩
end Go.Proofs.Ytgnhillnikjnfaa
