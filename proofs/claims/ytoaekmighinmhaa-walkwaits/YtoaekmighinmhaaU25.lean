/-
  The program's down by its contract: what it asks the tree for, and what comes of it. Conditions: as stated.
  The program's New, Resume, Mark, ahead, in, Next by their contracts. Conditions: as stated.
  The program's Next and Resume by their contracts. Conditions: as stated.
-/
import Derived.Test.YtoaekmighinmhaaU23
import Derived.Test.YtoaekmighinmhaaU24
namespace Go.Proofs.Ytoaekmighinmhaa
open Go.RowKit

section
variable {F : Nat → Prop} {w : World} {X T : Nat} {fr to k : ByteArray} {dn : Bool} {i : Int} {l : List En}
set_option maxRecDepth 100000 in
theorem down_on_any (h : WkR w X T fr to dn k i true) (ht : TrF F w T l) (hk : cmpT to ⟨#[]⟩ = 0 ∨ cmpT k to < 0) : Calls Try.prog 39 #[.pointer (some ⟨X, 0, none⟩)] w fun r w' => r = .returned (retO (beforeE (k, i) l)) ∧ Below w.heap.size w w' := by
  have hr0 : ∃ W0, w.alloc (.cells #[.string ⟨#[]⟩, .int .i64 0] 34) = W0 := ⟨_, rfl⟩
  obtain ⟨W0, hW0⟩ := hr0
  have hbW : Below w.heap.size w W0 := by rw [← hW0]; exact (Below.refl _ _).alloc (Nat.le_refl _) _
  have r0 : W0.heap[w.heap.size]? = some (.cells #[.string ⟨#[]⟩, .int .i64 0] 34) := by rw [← hW0]; exact heap_alloc_new _ _
  have hs0 : W0.heap.size = w.heap.size + 1 := by rw [← hW0]; simp
  have h2 := h.below hbW
  have hXl := lt_of_heap h
  obtain ⟨c0, c1, c2, c3, c4, c5, c6, cf, -⟩ := h2.view
  have ht2 := ht.below hbW
  have hcall := BeforeT_any (k, i) W0.drew (ht2.below (Below.refl _ _).drew)
  obtain ⟨xk, xi, xb, hx⟩ := retO_form (beforeE (k, i) l)
  rw [hx] at hcall ⊢
  have hu := over_any k h2
  rw [show (!decide (cmpT to ⟨#[]⟩ = 0) && !decide (cmpT k to < 0)) = false by rcases hk with hk | hk <;> simp [hk]] at hu
  have rr := r0
  have hbw := hbW
  clear h h2 ht ht2 hx hk c1 c2 c3 r0
  go_enter Try.func39, Try.ntmps39
  go_wp2_with fail
  refine hu.mono ?_
  rintro e w9 ⟨rfl, hw9⟩
  subst w9
  clear hu
  go_wp2_with fail
  have P0 := fun (w' : World) (h : w'.heap[X]? = W0.heap[X]?) => (World.cell?_of_block (a := ⟨X, 0, none⟩) h).trans c0
  have P1 := fun (w' : World) (h : w'.heap[X]? = W0.heap[X]?) => (World.cell?_of_block (a := ⟨X, 4, none⟩) h).trans c4
  have P2 := fun (w' : World) (h : w'.heap[X]? = W0.heap[X]?) => (World.cell?_of_block (a := ⟨X, 5, none⟩) h).trans c5
  have h0 : (fun w' : World => w'.heap[X]? = W0.heap[X]?) W0.drew := rfl
  clear c0 c4 c5 c6 hW0
  refine wp_region_held (S := fun w' => w'.heap[X]? = W0.heap[X]?) mixed ?_
  refine wpAnyH_take (i := 0) (oi := ⟨_, _, _, _, _, _⟩) (v := ?v1) rfl (by kernel_rfl) (by kernel_rfl) (by kernel_rfl) (fun _ _ _ h => h) (Or.inl ⟨by rfl, ?hy1⟩) h0 ?rest1
  case hy1 => (intro w hSw; (try dsimp only at hSw); go_simp; try with_reducible rfl)
  simp only [Act.put, List.setIfInBounds_toArray, List.set_cons_zero, List.set_cons_succ]
  refine wpAnyH_take (i := 1) (oi := ⟨_, _, _, _, _, _⟩) (v := ?v2) rfl (by kernel_rfl) (by kernel_rfl) (by kernel_rfl) (fun _ _ _ h => h) (Or.inl ⟨by rfl, ?hy2⟩) h0 ?rest2
  case hy2 => (intro w hSw; (try dsimp only at hSw); go_simp; try with_reducible rfl)
  simp only [Act.put, List.setIfInBounds_toArray, List.set_cons_zero, List.set_cons_succ]
  refine wpAnyH_take (i := 2) (oi := ⟨_, _, _, _, _, _⟩) (v := ?v3) rfl (by kernel_rfl) (by kernel_rfl) (by kernel_rfl) (fun _ _ _ h => h) (Or.inl ⟨by rfl, ?hy3⟩) h0 ?rest3
  case hy3 => (intro w hSw; (try dsimp only at hSw); go_simp; try with_reducible rfl)
  simp only [Act.put, List.setIfInBounds_toArray, List.set_cons_zero, List.set_cons_succ]
  refine wpAnyH_take (i := 3) (oi := ⟨_, _, _, _, _, _⟩) (v := ?v4) rfl (by kernel_rfl) (by kernel_rfl) (by kernel_rfl) (fun _ _ _ h => h) (Or.inl ⟨by rfl, ?hy4⟩) h0 ?rest4
  case hy4 => (intro w hSw; (try dsimp only at hSw); go_simp; try with_reducible rfl)
  simp only [Act.put, List.setIfInBounds_toArray, List.set_cons_zero, List.set_cons_succ]
  refine wpAnyH_take (i := 4) (oi := ⟨_, _, _, _, _, _⟩) (v := ?v5) rfl (by kernel_rfl) (by kernel_rfl) (by kernel_rfl) (fun _ _ _ h => h) (Or.inl ⟨by rfl, ?hy5⟩) h0 ?rest5
  case hy5 => (intro w hSw; (try dsimp only at hSw); go_simp; try with_reducible rfl)
  simp only [Act.put, List.setIfInBounds_toArray, List.set_cons_zero, List.set_cons_succ]
  refine wpAnyH_take (i := 5) (oi := ⟨_, _, _, _, _, _⟩) (v := ?v6) rfl (by kernel_rfl) (by kernel_rfl) (by kernel_rfl) (fun _ _ _ h => h) (Or.inl ⟨by rfl, ?hy6⟩) h0 ?rest6
  case hy6 => (intro w hSw; (try dsimp only at hSw); go_simp; try with_reducible rfl)
  simp only [Act.put, List.setIfInBounds_toArray, List.set_cons_zero, List.set_cons_succ]
  refine wpAnyH_take (i := 6) (oi := ⟨_, _, _, _, _, _⟩) (v := ?v7) rfl (by kernel_rfl) (by kernel_rfl) (by kernel_rfl) (fun _ _ _ h => h) (Or.inl ⟨by rfl, ?hy7⟩) h0 ?rest7
  case hy7 => (intro w hSw; (try dsimp only at hSw); go_simp; try with_reducible rfl)
  simp only [Act.put, List.setIfInBounds_toArray, List.set_cons_zero, List.set_cons_succ]
  refine wpAnyH_take (i := 7) (oi := ⟨_, _, _, _, _, _⟩) (v := ?v8) rfl (by kernel_rfl) (by kernel_rfl) (by kernel_rfl) (fun _ _ _ h => h) (Or.inl ⟨by rfl, ?hy8⟩) h0 ?rest8
  case hy8 => (intro w hSw; (try dsimp only at hSw); go_simp; try with_reducible rfl)
  simp only [Act.put, List.setIfInBounds_toArray, List.set_cons_zero, List.set_cons_succ]
  refine wpAnyH_take (i := 8) (oi := ⟨_, _, _, _, _, _⟩) (v := ?v9) rfl (by kernel_rfl) (by kernel_rfl) (by kernel_rfl) (fun _ _ _ h => h) (Or.inl ⟨by rfl, ?hy9⟩) h0 ?rest9
  case hy9 => (intro w hSw; (try dsimp only at hSw); go_simp; try with_reducible rfl)
  simp only [Act.put, List.setIfInBounds_toArray, List.set_cons_zero, List.set_cons_succ]
  refine wpAnyH_ready (rs := [9]) (by kernel_rfl) (by simp) ?_
  refine AllReadyH.cons (o := ⟨_, _, _, _, _, _⟩) rfl (fun K hK => ?_) AllReadyH.nil
  go_simp
  refine hcall.mono ?_
  rintro e w1 ⟨rfl, hb1⟩
  have h3 : w1.heap[X]? = W0.heap[X]? := hb1.block X (show X < W0.heap.size by omega)
  obtain ⟨e0, e1, ef, hel⟩ := row2_of ((hb1.block _ (show w.heap.size < W0.heap.size by omega)).trans rr)
  have hb := hbw.trans ((Below.drop_drew hb1).mono hbw.size)
  clear hcall hb1 rr
  refine hK.out _ _ h3 (fun hHeld => ?_)
  clear hK K hHeld
  try simp only [Act.put, List.setIfInBounds_toArray, List.set_cons_zero, List.set_cons_succ]
  refine wpAnyH_take (i := 10) (oi := ⟨_, _, _, _, _, _⟩) (v := ?v10) rfl (by kernel_rfl) (by kernel_rfl) (by kernel_rfl) (fun _ _ _ h => h) (Or.inl ⟨by rfl, ?hy10⟩) h3 ?rest10
  case hy10 => (intro w hSw; (try dsimp only at hSw); go_simp; try with_reducible rfl)
  simp only [Act.put, List.setIfInBounds_toArray, List.set_cons_zero, List.set_cons_succ]
  refine wpAnyH_take (i := 11) (oi := ⟨_, _, _, _, _, _⟩) (v := ?v11) rfl (by kernel_rfl) (by kernel_rfl) (by kernel_rfl) (fun _ _ _ h => h) (Or.inl ⟨by rfl, ?hy11⟩) h3 ?rest11
  case hy11 => (intro w hSw; (try dsimp only at hSw); go_simp; try with_reducible rfl)
  simp only [Act.put, List.setIfInBounds_toArray, List.set_cons_zero, List.set_cons_succ]
  refine wpAnyH_ready (rs := [12]) (by kernel_rfl) (by simp) ?_
  refine AllReadyH.cons (o := ⟨_, _, _, _, _, _⟩) rfl (fun K hK => ?_) AllReadyH.nil
  go_simp
  have h4 : ((w1.setCell ⟨w.heap.size, 0, none⟩ (.string xk)).setCell ⟨w.heap.size, 1, none⟩ (.int .i64 xi)).heap[X]? = W0.heap[X]? := by
    have n0 : X ≠ w.heap.size := by omega
    rw [Below.heap_setCell _ _ _ _ n0, Below.heap_setCell _ _ _ _ n0]
    exact h3
  refine hK.out _ _ h4 (fun hHeld => ?_)
  clear hK K hHeld
  try simp only [Act.put, List.setIfInBounds_toArray, List.set_cons_zero, List.set_cons_succ]
  refine wpAnyH_ready (rs := [13]) (by kernel_rfl) (by simp) ?_
  refine AllReadyH.cons (o := ⟨_, _, _, _, _, _⟩) rfl (fun K hK => ?_) AllReadyH.nil
  go_simp
  refine hK.out _ _ h4 (fun hHeld => ?_)
  clear hK K hHeld
  try simp only [Act.put, List.setIfInBounds_toArray, List.set_cons_zero, List.set_cons_succ]
  refine wpAnyH_done (by kernel_rfl) ?_ _
  clear h0 h3 h4 P0 P1 P2
  go_wp2
  refine bodyPost_ret (v := .tuple #[.agg #[.string xk, .int .i64 xi], .bool xb]) (by simp [results, Try.results39, go_sem, e0, e1]) rfl ⟨rfl, ?_⟩
  exact (hb.setCell (Nat.le_refl _) _).setCell (Nat.le_refl _) _
set_option maxRecDepth 100000 in
theorem down_all_any (h : WkR w X T fr to dn k i false) (ht : TrF F w T l) (hk : cmpT to ⟨#[]⟩ = 0) : Calls Try.prog 39 #[.pointer (some ⟨X, 0, none⟩)] w fun r w' => r = .returned (retO l.getLast?) ∧ Below w.heap.size w w' := by
  have hr0 : ∃ W0, w.alloc (.cells #[.string ⟨#[]⟩, .int .i64 0] 34) = W0 := ⟨_, rfl⟩
  obtain ⟨W0, hW0⟩ := hr0
  have hbW : Below w.heap.size w W0 := by rw [← hW0]; exact (Below.refl _ _).alloc (Nat.le_refl _) _
  have r0 : W0.heap[w.heap.size]? = some (.cells #[.string ⟨#[]⟩, .int .i64 0] 34) := by rw [← hW0]; exact heap_alloc_new _ _
  have hs0 : W0.heap.size = w.heap.size + 1 := by rw [← hW0]; simp
  have h2 := h.below hbW
  have hXl := lt_of_heap h
  obtain ⟨c0, c1, c2, c3, c4, c5, c6, cf, -⟩ := h2.view
  have ht2 := ht.below hbW
  have hcall := LastT_any W0 ht2
  obtain ⟨xk, xi, xb, hx⟩ := retO_form l.getLast?
  rw [hx] at hcall ⊢
  have he := empty_cmpT to
  rw [decide_eq_true hk] at he
  clear h h2 ht ht2 hx hk c1 c3 c5
  go_enter Try.func39, Try.ntmps39
  go_wp2_with fail
  refine hcall.mono ?_
  rintro e w1 ⟨rfl, hb1⟩
  obtain ⟨e0, e1, ef, hel⟩ := row2_of ((hb1.block _ (show w.heap.size < W0.heap.size by omega)).trans r0)
  have hb := hbW.trans (hb1.mono hbW.size)
  clear hcall hb1 r0 hW0 c0 c2 c4 c6
  go_wp2
  refine bodyPost_ret (v := .tuple #[.agg #[.string xk, .int .i64 xi], .bool xb]) (by simp [results, Try.results39, go_sem, e0, e1]) rfl ⟨rfl, ?_⟩
  exact (hb.setCell (Nat.le_refl _) _).setCell (Nat.le_refl _) _
set_option maxRecDepth 100000 in
theorem down_new_any {b : Bool} (h : WkR w X T fr to dn k i b) (ht : TrF F w T l) (hk : b = true → ¬ cmpT k to < 0) (hz : ¬ cmpT to ⟨#[]⟩ = 0) : Calls Try.prog 39 #[.pointer (some ⟨X, 0, none⟩)] w fun r w' => r = .returned (retO (beforeE (to, minI) l)) ∧ Below w.heap.size w w' := by
  have hr0 : ∃ W0, w.alloc (.cells #[.string ⟨#[]⟩, .int .i64 0] 34) = W0 := ⟨_, rfl⟩
  obtain ⟨W0, hW0⟩ := hr0
  have hbW : Below w.heap.size w W0 := by rw [← hW0]; exact (Below.refl _ _).alloc (Nat.le_refl _) _
  have r0 : W0.heap[w.heap.size]? = some (.cells #[.string ⟨#[]⟩, .int .i64 0] 34) := by rw [← hW0]; exact heap_alloc_new _ _
  have hs0 : W0.heap.size = w.heap.size + 1 := by rw [← hW0]; simp
  have h2 := h.below hbW
  have hXl := lt_of_heap h
  obtain ⟨c0, c1, c2, c3, c4, c5, c6, cf, -⟩ := h2.view
  have ht2 := ht.below hbW
  have hcall := BeforeT_any (to, minI) W0.drew (ht2.below (Below.refl _ _).drew)
  obtain ⟨xk, xi, xb, hx⟩ := retO_form (beforeE (to, minI) l)
  rw [hx] at hcall ⊢
  have he := empty_cmpT to
  rw [decide_eq_false hz] at he
  have hu := over_any k h2
  rw [decide_eq_false hz] at hu
  have rr := r0
  have hbw := hbW
  clear h h2 ht ht2 hx hz c1 c3 c5 r0
  cases b with
  | false =>
    go_enter Try.func39, Try.ntmps39
    go_wp2_with fail
    have P0 := fun (w' : World) (h : w'.heap[X]? = W0.heap[X]?) => (World.cell?_of_block (a := ⟨X, 0, none⟩) h).trans c0
    have P1 := fun (w' : World) (h : w'.heap[X]? = W0.heap[X]?) => (World.cell?_of_block (a := ⟨X, 2, none⟩) h).trans c2
    have P2 := fun (w' : World) (h : w'.heap[X]? = W0.heap[X]?) => (World.cell?_of_block (a := ⟨X, 2, none⟩) h).trans c2
    have h0 : (fun w' : World => w'.heap[X]? = W0.heap[X]?) W0.drew := rfl
    clear c0 c2 c4 c6 hW0
    refine wp_region_held (S := fun w' => w'.heap[X]? = W0.heap[X]?) mixed ?_
    refine wpAnyH_take (i := 0) (oi := ⟨_, _, _, _, _, _⟩) (v := ?v12) rfl (by kernel_rfl) (by kernel_rfl) (by kernel_rfl) (fun _ _ _ h => h) (Or.inl ⟨by rfl, ?hy12⟩) h0 ?rest12
    case hy12 => (intro w hSw; (try dsimp only at hSw); go_simp; try with_reducible rfl)
    simp only [Act.put, List.setIfInBounds_toArray, List.set_cons_zero, List.set_cons_succ]
    refine wpAnyH_take (i := 1) (oi := ⟨_, _, _, _, _, _⟩) (v := ?v13) rfl (by kernel_rfl) (by kernel_rfl) (by kernel_rfl) (fun _ _ _ h => h) (Or.inl ⟨by rfl, ?hy13⟩) h0 ?rest13
    case hy13 => (intro w hSw; (try dsimp only at hSw); go_simp; try with_reducible rfl)
    simp only [Act.put, List.setIfInBounds_toArray, List.set_cons_zero, List.set_cons_succ]
    refine wpAnyH_take (i := 2) (oi := ⟨_, _, _, _, _, _⟩) (v := ?v14) rfl (by kernel_rfl) (by kernel_rfl) (by kernel_rfl) (fun _ _ _ h => h) (Or.inl ⟨by rfl, ?hy14⟩) h0 ?rest14
    case hy14 => (intro w hSw; (try dsimp only at hSw); go_simp; try with_reducible rfl)
    simp only [Act.put, List.setIfInBounds_toArray, List.set_cons_zero, List.set_cons_succ]
    refine wpAnyH_take (i := 3) (oi := ⟨_, _, _, _, _, _⟩) (v := ?v15) rfl (by kernel_rfl) (by kernel_rfl) (by kernel_rfl) (fun _ _ _ h => h) (Or.inl ⟨by rfl, ?hy15⟩) h0 ?rest15
    case hy15 => (intro w hSw; (try dsimp only at hSw); go_simp; try with_reducible rfl)
    simp only [Act.put, List.setIfInBounds_toArray, List.set_cons_zero, List.set_cons_succ]
    refine wpAnyH_take (i := 4) (oi := ⟨_, _, _, _, _, _⟩) (v := ?v16) rfl (by kernel_rfl) (by kernel_rfl) (by kernel_rfl) (fun _ _ _ h => h) (Or.inl ⟨by rfl, ?hy16⟩) h0 ?rest16
    case hy16 => (intro w hSw; (try dsimp only at hSw); go_simp; try with_reducible rfl)
    simp only [Act.put, List.setIfInBounds_toArray, List.set_cons_zero, List.set_cons_succ]
    refine wpAnyH_take (i := 5) (oi := ⟨_, _, _, _, _, _⟩) (v := ?v17) rfl (by kernel_rfl) (by kernel_rfl) (by kernel_rfl) (fun _ _ _ h => h) (Or.inl ⟨by rfl, ?hy17⟩) h0 ?rest17
    case hy17 => (intro w hSw; (try dsimp only at hSw); go_simp; try with_reducible rfl)
    simp only [Act.put, List.setIfInBounds_toArray, List.set_cons_zero, List.set_cons_succ]
    refine wpAnyH_take (i := 6) (oi := ⟨_, _, _, _, _, _⟩) (v := ?v18) rfl (by kernel_rfl) (by kernel_rfl) (by kernel_rfl) (fun _ _ _ h => h) (Or.inl ⟨by rfl, ?hy18⟩) h0 ?rest18
    case hy18 => (intro w hSw; (try dsimp only at hSw); go_simp; try with_reducible rfl)
    simp only [Act.put, List.setIfInBounds_toArray, List.set_cons_zero, List.set_cons_succ]
    refine wpAnyH_take (i := 7) (oi := ⟨_, _, _, _, _, _⟩) (v := ?v19) rfl (by kernel_rfl) (by kernel_rfl) (by kernel_rfl) (fun _ _ _ h => h) (Or.inl ⟨by rfl, ?hy19⟩) h0 ?rest19
    case hy19 => (intro w hSw; (try dsimp only at hSw); go_simp; try with_reducible rfl)
    simp only [Act.put, List.setIfInBounds_toArray, List.set_cons_zero, List.set_cons_succ]
    refine wpAnyH_take (i := 8) (oi := ⟨_, _, _, _, _, _⟩) (v := ?v20) rfl (by kernel_rfl) (by kernel_rfl) (by kernel_rfl) (fun _ _ _ h => h) (Or.inl ⟨by rfl, ?hy20⟩) h0 ?rest20
    case hy20 => (intro w hSw; (try dsimp only at hSw); go_simp; try with_reducible rfl)
    simp only [Act.put, List.setIfInBounds_toArray, List.set_cons_zero, List.set_cons_succ]
    refine wpAnyH_take (i := 9) (oi := ⟨_, _, _, _, _, _⟩) (v := ?v21) rfl (by kernel_rfl) (by kernel_rfl) (by kernel_rfl) (fun _ _ _ h => h) (Or.inl ⟨by rfl, ?hy21⟩) h0 ?rest21
    case hy21 => (intro w hSw; (try dsimp only at hSw); go_simp; try with_reducible rfl)
    simp only [Act.put, List.setIfInBounds_toArray, List.set_cons_zero, List.set_cons_succ]
    refine wpAnyH_ready (rs := [10]) (by kernel_rfl) (by simp) ?_
    refine AllReadyH.cons (o := ⟨_, _, _, _, _, _⟩) rfl (fun K hK => ?_) AllReadyH.nil
    go_simp
    refine hcall.mono ?_
    rintro e w1 ⟨rfl, hb1⟩
    have h3 : w1.heap[X]? = W0.heap[X]? := hb1.block X (show X < W0.heap.size by omega)
    obtain ⟨e0, e1, ef, hel⟩ := row2_of ((hb1.block _ (show w.heap.size < W0.heap.size by omega)).trans rr)
    have hb := hbw.trans ((Below.drop_drew hb1).mono hbw.size)
    clear hcall hb1 rr
    refine hK.out _ _ h3 (fun hHeld => ?_)
    clear hK K hHeld
    try simp only [Act.put, List.setIfInBounds_toArray, List.set_cons_zero, List.set_cons_succ]
    refine wpAnyH_take (i := 11) (oi := ⟨_, _, _, _, _, _⟩) (v := ?v22) rfl (by kernel_rfl) (by kernel_rfl) (by kernel_rfl) (fun _ _ _ h => h) (Or.inl ⟨by rfl, ?hy22⟩) h3 ?rest22
    case hy22 => (intro w hSw; (try dsimp only at hSw); go_simp; try with_reducible rfl)
    simp only [Act.put, List.setIfInBounds_toArray, List.set_cons_zero, List.set_cons_succ]
    refine wpAnyH_take (i := 12) (oi := ⟨_, _, _, _, _, _⟩) (v := ?v23) rfl (by kernel_rfl) (by kernel_rfl) (by kernel_rfl) (fun _ _ _ h => h) (Or.inl ⟨by rfl, ?hy23⟩) h3 ?rest23
    case hy23 => (intro w hSw; (try dsimp only at hSw); go_simp; try with_reducible rfl)
    simp only [Act.put, List.setIfInBounds_toArray, List.set_cons_zero, List.set_cons_succ]
    refine wpAnyH_ready (rs := [13]) (by kernel_rfl) (by simp) ?_
    refine AllReadyH.cons (o := ⟨_, _, _, _, _, _⟩) rfl (fun K hK => ?_) AllReadyH.nil
    go_simp
    have h4 : ((w1.setCell ⟨w.heap.size, 0, none⟩ (.string xk)).setCell ⟨w.heap.size, 1, none⟩ (.int .i64 xi)).heap[X]? = W0.heap[X]? := by
      have n0 : X ≠ w.heap.size := by omega
      rw [Below.heap_setCell _ _ _ _ n0, Below.heap_setCell _ _ _ _ n0]
      exact h3
    refine hK.out _ _ h4 (fun hHeld => ?_)
    clear hK K hHeld
    try simp only [Act.put, List.setIfInBounds_toArray, List.set_cons_zero, List.set_cons_succ]
    refine wpAnyH_ready (rs := [14]) (by kernel_rfl) (by simp) ?_
    refine AllReadyH.cons (o := ⟨_, _, _, _, _, _⟩) rfl (fun K hK => ?_) AllReadyH.nil
    go_simp
    refine hK.out _ _ h4 (fun hHeld => ?_)
    clear hK K hHeld
    try simp only [Act.put, List.setIfInBounds_toArray, List.set_cons_zero, List.set_cons_succ]
    refine wpAnyH_done (by kernel_rfl) ?_ _
    clear h0 h3 h4 P0 P1 P2
    go_wp2
    refine bodyPost_ret (v := .tuple #[.agg #[.string xk, .int .i64 xi], .bool xb]) (by simp [results, Try.results39, go_sem, e0, e1]) rfl ⟨rfl, ?_⟩
    exact (hb.setCell (Nat.le_refl _) _).setCell (Nat.le_refl _) _
  | true =>
    rw [decide_eq_false (hk rfl)] at hu
    go_enter Try.func39, Try.ntmps39
    go_wp2_with fail
    refine hu.mono ?_
    rintro e w9 ⟨rfl, hw9⟩
    subst w9
    clear hu
    go_wp2_with fail
    have P0 := fun (w' : World) (h : w'.heap[X]? = W0.heap[X]?) => (World.cell?_of_block (a := ⟨X, 0, none⟩) h).trans c0
    have P1 := fun (w' : World) (h : w'.heap[X]? = W0.heap[X]?) => (World.cell?_of_block (a := ⟨X, 2, none⟩) h).trans c2
    have P2 := fun (w' : World) (h : w'.heap[X]? = W0.heap[X]?) => (World.cell?_of_block (a := ⟨X, 2, none⟩) h).trans c2
    have h0 : (fun w' : World => w'.heap[X]? = W0.heap[X]?) W0.drew := rfl
    clear c0 c2 c4 c6 hW0
    refine wp_region_held (S := fun w' => w'.heap[X]? = W0.heap[X]?) mixed ?_
    refine wpAnyH_take (i := 0) (oi := ⟨_, _, _, _, _, _⟩) (v := ?v24) rfl (by kernel_rfl) (by kernel_rfl) (by kernel_rfl) (fun _ _ _ h => h) (Or.inl ⟨by rfl, ?hy24⟩) h0 ?rest24
    case hy24 => (intro w hSw; (try dsimp only at hSw); go_simp; try with_reducible rfl)
    simp only [Act.put, List.setIfInBounds_toArray, List.set_cons_zero, List.set_cons_succ]
    refine wpAnyH_take (i := 1) (oi := ⟨_, _, _, _, _, _⟩) (v := ?v25) rfl (by kernel_rfl) (by kernel_rfl) (by kernel_rfl) (fun _ _ _ h => h) (Or.inl ⟨by rfl, ?hy25⟩) h0 ?rest25
    case hy25 => (intro w hSw; (try dsimp only at hSw); go_simp; try with_reducible rfl)
    simp only [Act.put, List.setIfInBounds_toArray, List.set_cons_zero, List.set_cons_succ]
    refine wpAnyH_take (i := 2) (oi := ⟨_, _, _, _, _, _⟩) (v := ?v26) rfl (by kernel_rfl) (by kernel_rfl) (by kernel_rfl) (fun _ _ _ h => h) (Or.inl ⟨by rfl, ?hy26⟩) h0 ?rest26
    case hy26 => (intro w hSw; (try dsimp only at hSw); go_simp; try with_reducible rfl)
    simp only [Act.put, List.setIfInBounds_toArray, List.set_cons_zero, List.set_cons_succ]
    refine wpAnyH_take (i := 3) (oi := ⟨_, _, _, _, _, _⟩) (v := ?v27) rfl (by kernel_rfl) (by kernel_rfl) (by kernel_rfl) (fun _ _ _ h => h) (Or.inl ⟨by rfl, ?hy27⟩) h0 ?rest27
    case hy27 => (intro w hSw; (try dsimp only at hSw); go_simp; try with_reducible rfl)
    simp only [Act.put, List.setIfInBounds_toArray, List.set_cons_zero, List.set_cons_succ]
    refine wpAnyH_take (i := 4) (oi := ⟨_, _, _, _, _, _⟩) (v := ?v28) rfl (by kernel_rfl) (by kernel_rfl) (by kernel_rfl) (fun _ _ _ h => h) (Or.inl ⟨by rfl, ?hy28⟩) h0 ?rest28
    case hy28 => (intro w hSw; (try dsimp only at hSw); go_simp; try with_reducible rfl)
    simp only [Act.put, List.setIfInBounds_toArray, List.set_cons_zero, List.set_cons_succ]
    refine wpAnyH_take (i := 5) (oi := ⟨_, _, _, _, _, _⟩) (v := ?v29) rfl (by kernel_rfl) (by kernel_rfl) (by kernel_rfl) (fun _ _ _ h => h) (Or.inl ⟨by rfl, ?hy29⟩) h0 ?rest29
    case hy29 => (intro w hSw; (try dsimp only at hSw); go_simp; try with_reducible rfl)
    simp only [Act.put, List.setIfInBounds_toArray, List.set_cons_zero, List.set_cons_succ]
    refine wpAnyH_take (i := 6) (oi := ⟨_, _, _, _, _, _⟩) (v := ?v30) rfl (by kernel_rfl) (by kernel_rfl) (by kernel_rfl) (fun _ _ _ h => h) (Or.inl ⟨by rfl, ?hy30⟩) h0 ?rest30
    case hy30 => (intro w hSw; (try dsimp only at hSw); go_simp; try with_reducible rfl)
    simp only [Act.put, List.setIfInBounds_toArray, List.set_cons_zero, List.set_cons_succ]
    refine wpAnyH_take (i := 7) (oi := ⟨_, _, _, _, _, _⟩) (v := ?v31) rfl (by kernel_rfl) (by kernel_rfl) (by kernel_rfl) (fun _ _ _ h => h) (Or.inl ⟨by rfl, ?hy31⟩) h0 ?rest31
    case hy31 => (intro w hSw; (try dsimp only at hSw); go_simp; try with_reducible rfl)
    simp only [Act.put, List.setIfInBounds_toArray, List.set_cons_zero, List.set_cons_succ]
    refine wpAnyH_take (i := 8) (oi := ⟨_, _, _, _, _, _⟩) (v := ?v32) rfl (by kernel_rfl) (by kernel_rfl) (by kernel_rfl) (fun _ _ _ h => h) (Or.inl ⟨by rfl, ?hy32⟩) h0 ?rest32
    case hy32 => (intro w hSw; (try dsimp only at hSw); go_simp; try with_reducible rfl)
    simp only [Act.put, List.setIfInBounds_toArray, List.set_cons_zero, List.set_cons_succ]
    refine wpAnyH_take (i := 9) (oi := ⟨_, _, _, _, _, _⟩) (v := ?v33) rfl (by kernel_rfl) (by kernel_rfl) (by kernel_rfl) (fun _ _ _ h => h) (Or.inl ⟨by rfl, ?hy33⟩) h0 ?rest33
    case hy33 => (intro w hSw; (try dsimp only at hSw); go_simp; try with_reducible rfl)
    simp only [Act.put, List.setIfInBounds_toArray, List.set_cons_zero, List.set_cons_succ]
    refine wpAnyH_ready (rs := [10]) (by kernel_rfl) (by simp) ?_
    refine AllReadyH.cons (o := ⟨_, _, _, _, _, _⟩) rfl (fun K hK => ?_) AllReadyH.nil
    go_simp
    refine hcall.mono ?_
    rintro e w1 ⟨rfl, hb1⟩
    have h3 : w1.heap[X]? = W0.heap[X]? := hb1.block X (show X < W0.heap.size by omega)
    obtain ⟨e0, e1, ef, hel⟩ := row2_of ((hb1.block _ (show w.heap.size < W0.heap.size by omega)).trans rr)
    have hb := hbw.trans ((Below.drop_drew hb1).mono hbw.size)
    clear hcall hb1 rr
    refine hK.out _ _ h3 (fun hHeld => ?_)
    clear hK K hHeld
    try simp only [Act.put, List.setIfInBounds_toArray, List.set_cons_zero, List.set_cons_succ]
    refine wpAnyH_take (i := 11) (oi := ⟨_, _, _, _, _, _⟩) (v := ?v34) rfl (by kernel_rfl) (by kernel_rfl) (by kernel_rfl) (fun _ _ _ h => h) (Or.inl ⟨by rfl, ?hy34⟩) h3 ?rest34
    case hy34 => (intro w hSw; (try dsimp only at hSw); go_simp; try with_reducible rfl)
    simp only [Act.put, List.setIfInBounds_toArray, List.set_cons_zero, List.set_cons_succ]
    refine wpAnyH_take (i := 12) (oi := ⟨_, _, _, _, _, _⟩) (v := ?v35) rfl (by kernel_rfl) (by kernel_rfl) (by kernel_rfl) (fun _ _ _ h => h) (Or.inl ⟨by rfl, ?hy35⟩) h3 ?rest35
    case hy35 => (intro w hSw; (try dsimp only at hSw); go_simp; try with_reducible rfl)
    simp only [Act.put, List.setIfInBounds_toArray, List.set_cons_zero, List.set_cons_succ]
    refine wpAnyH_ready (rs := [13]) (by kernel_rfl) (by simp) ?_
    refine AllReadyH.cons (o := ⟨_, _, _, _, _, _⟩) rfl (fun K hK => ?_) AllReadyH.nil
    go_simp
    have h4 : ((w1.setCell ⟨w.heap.size, 0, none⟩ (.string xk)).setCell ⟨w.heap.size, 1, none⟩ (.int .i64 xi)).heap[X]? = W0.heap[X]? := by
      have n0 : X ≠ w.heap.size := by omega
      rw [Below.heap_setCell _ _ _ _ n0, Below.heap_setCell _ _ _ _ n0]
      exact h3
    refine hK.out _ _ h4 (fun hHeld => ?_)
    clear hK K hHeld
    try simp only [Act.put, List.setIfInBounds_toArray, List.set_cons_zero, List.set_cons_succ]
    refine wpAnyH_ready (rs := [14]) (by kernel_rfl) (by simp) ?_
    refine AllReadyH.cons (o := ⟨_, _, _, _, _, _⟩) rfl (fun K hK => ?_) AllReadyH.nil
    go_simp
    refine hK.out _ _ h4 (fun hHeld => ?_)
    clear hK K hHeld
    try simp only [Act.put, List.setIfInBounds_toArray, List.set_cons_zero, List.set_cons_succ]
    refine wpAnyH_done (by kernel_rfl) ?_ _
    clear h0 h3 h4 P0 P1 P2
    go_wp2
    refine bodyPost_ret (v := .tuple #[.agg #[.string xk, .int .i64 xi], .bool xb]) (by simp [results, Try.results39, go_sem, e0, e1]) rfl ⟨rfl, ?_⟩
    exact (hb.setCell (Nat.le_refl _) _).setCell (Nat.le_refl _) _
end
end Go.Proofs.Ytoaekmighinmhaa

namespace Go.Proofs.Ytoaekmighinmhaa
open Go.RowKit

/-- what a box holds of one that is there or not. -/
def orE (o : Option En) : En := match o with | some x => x | none => (⟨#[]⟩, 0)
theorem retO_or (o : Option En) : retO o = .tuple #[.agg #[.string (orE o).1, .int .i64 (orE o).2], .bool o.isSome] := by cases o <;> rfl
/-- a mark by its parts. -/
def mkO (k : ByteArray) (i : Int) (b : Bool) : Option En := match b with | true => some (k, i) | false => none
theorem mkO_or (m : Option En) : mkO (orE m).1 (orE m).2 m.isSome = m := by cases m <;> rfl
/-- one who goes through a part of a tree, and was told m last. -/
abbrev Wk (W : World) (X T : Nat) (fr to : ByteArray) (dn : Bool) (m : Option En) : Prop := WkR W X T fr to dn (orE m).1 (orE m).2 m.isSome
section
variable {F : Nat → Prop} {w w' : World} {X T : Nat} {fr to k : ByteArray} {dn b : Bool} {i : Int} {l : List En} {m : Option En}
theorem up_any (h : WkR w X T fr to dn k i b) (ht : TrF F w T l) (hl : LowE l) : Calls Try.prog 40 #[.pointer (some ⟨X, 0, none⟩)] w fun r w' => ∃ a, r = .returned (retO a) ∧ nextE l fr to false (mkO k i b) = a.filter (inE fr to) ∧ Below w.heap.size w w' := by
  have hs := ht.sort
  by_cases hc : b = true ∧ ¬ cmpT k fr < 0
  · obtain ⟨rfl, hk⟩ := hc
    exact (up_on_any h ht hk).mono fun r w' ⟨k1, k2⟩ => ⟨_, k1, up_on hs hk, k2⟩
  · have hk : b = true → cmpT k fr < 0 := fun hb => Decidable.byContradiction fun hn => hc ⟨hb, hn⟩
    have hn := up_new (fr := fr) (to := to) (m := mkO k i b) hs hl fun x hx => by
      cases b with
      | true => obtain rfl := Option.some.inj (show some (k, i) = some x from hx); exact hk rfl
      | false => cases (show (none : Option En) = some x from hx)
    cases hh : hasE (fr, minI) l with
    | true => rw [hh, if_pos rfl] at hn; exact (up_has_any h ht hk hh).mono fun r w' ⟨k1, k2⟩ => ⟨_, k1, hn, k2⟩
    | false => rw [hh, if_neg Bool.false_ne_true] at hn; exact (up_new_any h ht hk hh).mono fun r w' ⟨k1, k2⟩ => ⟨_, k1, hn, k2⟩
theorem down_any (h : WkR w X T fr to dn k i b) (ht : TrF F w T l) (hl : LowE l) : Calls Try.prog 39 #[.pointer (some ⟨X, 0, none⟩)] w fun r w' => ∃ a, r = .returned (retO a) ∧ nextE l fr to true (mkO k i b) = a.filter (inE fr to) ∧ Below w.heap.size w w' := by
  have hs := ht.sort
  by_cases hc : b = true ∧ (cmpT to ⟨#[]⟩ = 0 ∨ cmpT k to < 0)
  · obtain ⟨rfl, hk⟩ := hc
    exact (down_on_any h ht hk).mono fun r w' ⟨k1, k2⟩ => ⟨_, k1, down_on hs hk, k2⟩
  · by_cases hz : cmpT to ⟨#[]⟩ = 0
    · obtain rfl : b = false := by
        cases b with
        | true => exact absurd ⟨rfl, .inl hz⟩ hc
        | false => rfl
      exact (down_all_any h ht hz).mono fun r w' ⟨k1, k2⟩ => ⟨_, k1, down_all hs hz, k2⟩
    · have hk : b = true → ¬ cmpT k to < 0 := fun hb hn => hc ⟨hb, .inr hn⟩
      have hn := down_new (fr := fr) (m := mkO k i b) hs hl hz fun x hx => by
        cases b with
        | true => obtain rfl := Option.some.inj (show some (k, i) = some x from hx); exact hk rfl
        | false => cases (show (none : Option En) = some x from hx)
      exact (down_new_any h ht hk hz).mono fun r w' ⟨k1, k2⟩ => ⟨_, k1, hn, k2⟩
set_option maxRecDepth 100000 in
theorem ahead_any (h : WkR w X T fr to dn k i b) (ht : TrF F w T l) (hl : LowE l) : Calls Try.prog 29 #[.pointer (some ⟨X, 0, none⟩)] w fun r w' => ∃ a, r = .returned (retO a) ∧ nextE l fr to dn (mkO k i b) = a.filter (inE fr to) ∧ Below w.heap.size w w' := by
  have hr0 : ∃ W0, w.alloc (.cells #[.string ⟨#[]⟩, .int .i64 0] 34) = W0 := ⟨_, rfl⟩
  obtain ⟨W0, hW0⟩ := hr0
  have hbW : Below w.heap.size w W0 := by rw [← hW0]; exact (Below.refl _ _).alloc (Nat.le_refl _) _
  have r0 : W0.heap[w.heap.size]? = some (.cells #[.string ⟨#[]⟩, .int .i64 0] 34) := by rw [← hW0]; exact heap_alloc_new _ _
  have hs0 : W0.heap.size = w.heap.size + 1 := by rw [← hW0]; simp
  obtain ⟨-, -, -, c3, -⟩ := (h.below hbW).view
  have hd := down_any (h.below hbW) (ht.below hbW) hl
  have hu := up_any (h.below hbW) (ht.below hbW) hl
  have HD := (show Hid _ from hd)
  have HU := (show Hid _ from hu)
  clear h ht hl hd hu
  cases dn with
  | true =>
    go_enter Try.func29, Try.ntmps29
    go_wp2_with fail
    refine Calls.mono HD.out ?_
    rintro e w1 ⟨a, rfl, ha, hb1⟩
    have HA := (show Hid _ from ha)
    obtain ⟨e0, e1, ef, hel⟩ := row2_of ((hb1.block _ (show w.heap.size < W0.heap.size by omega)).trans r0)
    have hb := hbW.trans (hb1.mono hbW.size)
    rw [retO_or]
    have hO := retO_or a
    generalize orE a = ox, a.isSome = oz at *
    obtain ⟨xk, xi⟩ := ox
    have HO := (show Hid _ from hO)
    clear HD HU hb1 r0 hW0 c3 ha hO
    go_wp2
    refine bodyPost_ret (v := .tuple #[.agg #[.string xk, .int .i64 xi], .bool oz]) (by simp [results, Try.results29, go_sem, e0, e1]) rfl ⟨a, by rw [HO.out], HA.out, ?_⟩
    exact (hb.setCell (Nat.le_refl _) _).setCell (Nat.le_refl _) _
  | false =>
    go_enter Try.func29, Try.ntmps29
    go_wp2_with fail
    refine Calls.mono HU.out ?_
    rintro e w1 ⟨a, rfl, ha, hb1⟩
    have HA := (show Hid _ from ha)
    obtain ⟨e0, e1, ef, hel⟩ := row2_of ((hb1.block _ (show w.heap.size < W0.heap.size by omega)).trans r0)
    have hb := hbW.trans (hb1.mono hbW.size)
    rw [retO_or]
    have hO := retO_or a
    generalize orE a = ox, a.isSome = oz at *
    obtain ⟨xk, xi⟩ := ox
    have HO := (show Hid _ from hO)
    clear HD HU hb1 r0 hW0 c3 ha hO
    go_wp2
    refine bodyPost_ret (v := .tuple #[.agg #[.string xk, .int .i64 xi], .bool oz]) (by simp [results, Try.results29, go_sem, e0, e1]) rfl ⟨a, by rw [HO.out], HA.out, ?_⟩
    exact (hb.setCell (Nat.le_refl _) _).setCell (Nat.le_refl _) _
theorem in_any (key : ByteArray) (h : WkR w X T fr to dn k i b) (n : Int) : Calls Try.prog 30 #[.pointer (some ⟨X, 0, none⟩), .string key] w fun r w' => r = .returned (.bool (inE fr to (key, n))) ∧ w' = w := by
  have hu := under_any key h
  have ho := over_any key h
  have hi : inE fr to (key, n) = (!decide (cmpT key fr < 0) && !(!decide (cmpT to ⟨#[]⟩ = 0) && !decide (cmpT key to < 0))) := by unfold inE; cases decide (cmpT to ⟨#[]⟩ = 0) <;> simp
  generalize inE fr to (key, n) = z at *
  generalize (!decide (cmpT to ⟨#[]⟩ = 0) && !decide (cmpT key to < 0)) = q at *
  generalize decide (cmpT key fr < 0) = p at *
  subst hi
  clear h
  cases p with
  | true =>
    go_enter Try.func30, Try.ntmps30
    go_wp2_with fail
    refine hu.mono ?_
    rintro e w1 ⟨rfl, hw1⟩
    subst w1
    clear hu ho
    go_wp2
    go_ret
    exact ⟨rfl, rfl⟩
  | false =>
    go_enter Try.func30, Try.ntmps30
    go_wp2_with fail
    refine hu.mono ?_
    rintro e w1 ⟨rfl, hw1⟩
    subst w1
    clear hu
    go_wp2_with fail
    refine ho.mono ?_
    rintro e w1 ⟨rfl, hw1⟩
    subst w1
    clear ho
    go_wp2
    go_ret
    exact ⟨rfl, rfl⟩
set_option maxRecDepth 100000 in
theorem WMark_any (h : WkR w X T fr to dn k i b) : Calls Try.prog 19 #[.pointer (some ⟨X, 0, none⟩)] w fun r w' => r = .returned (.agg #[.string k, .int .i64 i, .bool b]) ∧ Below w.heap.size w w' := by
  obtain ⟨W0, hW0⟩ : ∃ W0, w.alloc (.cells #[.string ⟨#[]⟩, .int .i64 0, .bool false] 36) = W0 := ⟨_, rfl⟩
  have hbW : Below w.heap.size w W0 := by rw [← hW0]; exact (Below.refl _ _).alloc (Nat.le_refl _) _
  have r0 : W0.heap[w.heap.size]? = some (.cells #[.string ⟨#[]⟩, .int .i64 0, .bool false] 36) := by rw [← hW0]; exact heap_alloc_new _ _
  obtain ⟨-, -, -, -, c4, c5, c6, -, -⟩ := (h.below hbW).view
  have e0 : W0.cell? ⟨w.heap.size, 0, none⟩ = some (.string ⟨#[]⟩) := by simp [World.cell?, r0]
  have e1 : W0.cell? ⟨w.heap.size, 1, none⟩ = some (.int .i64 0) := by simp [World.cell?, r0]
  have e2 : W0.cell? ⟨w.heap.size, 2, none⟩ = some (.bool false) := by simp [World.cell?, r0]
  have ef : ∀ j, W0.frozen? ⟨w.heap.size, j, none⟩ = false := fun j => by simp [World.frozen?, r0]
  have hX := lt_of_heap h
  clear h r0
  go_enter Try.func19, Try.ntmps19
  go_wp2
  refine bodyPost_ret (v := .agg #[.string k, .int .i64 i, .bool b]) (by simp [results, Try.results19, go_sem, e0, e1, e2]) rfl ⟨rfl, ?_⟩
  exact ((hbW.setCell (Nat.le_refl _) _).setCell (Nat.le_refl _) _).setCell (Nat.le_refl _) _
set_option maxRecDepth 100000 in
theorem WNew_any (w : World) (T : Nat) (fr to : ByteArray) (dn : Bool) : Calls Try.prog 12 #[.pointer (some ⟨T, 0, none⟩), .agg #[.string fr, .string to, .bool dn]] w fun r w' => ∃ X, r = .returned (.pointer (some ⟨X, 0, none⟩)) ∧ Wk w' X T fr to dn none ∧ w.heap.size ≤ X ∧ Below w.heap.size w w' := by
  obtain ⟨W0, hW0⟩ : ∃ W0, w.alloc (.cells #[.string fr, .string to, .bool dn] 29) = W0 := ⟨_, rfl⟩
  have hbW : Below w.heap.size w W0 := by rw [← hW0]; exact (Below.refl _ _).alloc (Nat.le_refl _) _
  have r0 : W0.heap[w.heap.size]? = some (.cells #[.string fr, .string to, .bool dn] 29) := by rw [← hW0]; exact heap_alloc_new _ _
  obtain ⟨W1, hW1⟩ : ∃ W1, W0.alloc (.cells #[.pointer (some ⟨T, 0, none⟩), .string fr, .string to, .bool dn, .string ⟨#[]⟩, .int .i64 0, .bool false] 61) = W1 := ⟨_, rfl⟩
  have hb1 : Below W0.heap.size W0 W1 := by rw [← hW1]; exact (Below.refl _ _).alloc (Nat.le_refl _) _
  have r1 : Wk W1 W0.heap.size T fr to dn none := by rw [← hW1]; exact heap_alloc_new _ _
  have e0 : W0.cell? ⟨w.heap.size, 0, none⟩ = some (.string fr) := by simp [World.cell?, r0]
  have e1 : W0.cell? ⟨w.heap.size, 1, none⟩ = some (.string to) := by simp [World.cell?, r0]
  have e2 : W0.cell? ⟨w.heap.size, 2, none⟩ = some (.bool dn) := by simp [World.cell?, r0]
  have H := (show Hid _ from And.intro r1 (And.intro hbW.size (hbW.trans (hb1.mono hbW.size))))
  clear r0 r1 hbW hb1
  go_enter Try.func12, Try.ntmps12
  go_wp2
  go_ret
  exact ⟨_, rfl, H.out.1, H.out.2.1, H.out.2.2⟩
end
end Go.Proofs.Ytoaekmighinmhaa

namespace Go.Proofs.Ytoaekmighinmhaa
open Go.RowKit

section
variable {F G : Nat → Prop} {w w' : World} {X T : Nat} {fr to k : ByteArray} {dn b : Bool} {i : Int} {l : List En} {m : Option En}
theorem Far.of_below (h : Below w.heap.size w w') : Far G w w' := ⟨h.os, h.tape, h.output, h.size, fun a ha _ => h.block a ha⟩
theorem Far.cell (h : Far G w w') {p : Addr} (hX : G p.block ∨ w.heap.size ≤ p.block) (v : Value) : Far G w (w'.setCell p v) := by
  have hb : Below 0 w' (w'.setCell p v) := (Below.refl 0 w').setCell (Nat.zero_le _) v
  refine ⟨hb.os.trans h.os, hb.tape.trans h.tape, hb.output.trans h.output, Nat.le_trans h.size hb.size, fun a ha hg => ?_⟩
  rw [Below.heap_setCell _ _ _ _ (fun e => ?_)]
  · exact h.block a ha hg
  · rcases hX with hX | hX
    · exact hg (e ▸ hX)
    · omega
theorem WkR.mark {k' : ByteArray} {i' : Int} {b' : Bool} (h : WkR w X T fr to dn k i b) : WkR (((w.setCell ⟨X, 4, none⟩ (.string k')).setCell ⟨X, 5, none⟩ (.int .i64 i')).setCell ⟨X, 6, none⟩ (.bool b')) X T fr to dn k' i' b' := by
  show (World.heap _)[X]? = _
  rw [heap_setCell_at (heap_setCell_at (heap_setCell_at h))]; rfl
theorem WkR.other {Z j : Nat} {v : Value} (h : WkR w X T fr to dn k i b) (hne : X ≠ Z) : WkR (w.setCell ⟨Z, j, none⟩ v) X T fr to dn k i b := by
  show (World.heap _)[X]? = _
  rw [Below.heap_setCell _ _ _ _ (show X ≠ Z from hne)]; exact h
set_option maxRecDepth 100000 in
theorem WNext_any (h : Wk w X T fr to dn m) (ht : TrF F w T l) (hl : LowE l) : Calls Try.prog 17 #[.pointer (some ⟨X, 0, none⟩)] w fun r w' => r = .returned (retO (nextE l fr to dn m)) ∧ Wk w' X T fr to dn ((nextE l fr to dn m).or m) ∧ Far (fun a => a = X) w w' := by
  have hr0 : ∃ W0, w.alloc (.cells #[.string ⟨#[]⟩, .int .i64 0] 34) = W0 := ⟨_, rfl⟩
  obtain ⟨W0, hW0⟩ := hr0
  have hbW : Below w.heap.size w W0 := by rw [← hW0]; exact (Below.refl _ _).alloc (Nat.le_refl _) _
  have r0 : W0.heap[w.heap.size]? = some (.cells #[.string ⟨#[]⟩, .int .i64 0] 34) := by rw [← hW0]; exact heap_alloc_new _ _
  have hs0 : W0.heap.size = w.heap.size + 1 := by rw [← hW0]; simp
  have hX := lt_of_heap h
  have h0 : Wk W0 X T fr to dn m := h.below hbW
  have ha := ahead_any h0 (ht.below hbW) hl
  rw [mkO_or] at ha
  have HA := (show Hid _ from ha)
  have HW := (show Hid _ from h0)
  generalize nextE l fr to dn m = o at *
  clear h ht hl ha h0
  go_enter Try.func17, Try.ntmps17
  go_wp2_with fail
  refine Calls.mono HA.out ?_
  rintro e w1 ⟨a, rfl, rfl, hb1⟩
  have h1 : Wk w1 X T fr to dn m := WkR.below HW.out hb1
  have r1 := (hb1.block _ (show w.heap.size < W0.heap.size by omega)).trans r0
  have hb := hbW.trans (hb1.mono hbW.size)
  have hs1 := hb1.size
  clear HA HW hb1 r0 hbW hW0
  cases a with
  | none =>
    have hb2 : Below w1.heap.size w1 (w1.alloc (.cells #[.string ⟨#[]⟩, .int .i64 0] 34)) := (Below.refl _ _).alloc (Nat.le_refl _) _
    obtain ⟨e0, e1, ef, hel⟩ := row2_of ((hb2.block _ (show w.heap.size < w1.heap.size by omega)).trans r1)
    have H := (show Hid _ from And.intro (WkR.below h1 hb2) (hb.trans (hb2.mono hb.size)))
    rw [retO_none]
    clear h1 r1 hb hb2
    go_wp2
    refine bodyPost_ret (v := .tuple #[.agg #[.string ⟨#[]⟩, .int .i64 0], .bool false]) (by simp [results, Try.results17, go_sem, e0, e1]) rfl ⟨rfl, ?_, ?_⟩
    · have hne : X ≠ w.heap.size := by omega
      exact WkR.other (WkR.other H.out.1 hne) hne
    · exact ((Far.of_below H.out.2).cell (.inr (Nat.le_refl _)) _).cell (.inr (Nat.le_refl _)) _
  | some x =>
    obtain ⟨xk, xi⟩ := x
    obtain ⟨W2, hW2⟩ : ∃ W2, w1.alloc (.cells #[.string xk, .int .i64 xi] 34) = W2 := ⟨_, rfl⟩
    have hb2 : Below w1.heap.size w1 W2 := by rw [← hW2]; exact (Below.refl _ _).alloc (Nat.le_refl _) _
    have r2 : W2.heap[w1.heap.size]? = some (.cells #[.string xk, .int .i64 xi] 34 (0, 0)) := by rw [← hW2]; exact heap_alloc_new _ _
    obtain ⟨x0, x1, xf, hxl⟩ := row2_of r2
    obtain ⟨e0, e1, ef, hel⟩ := row2_of ((hb2.block _ (show w.heap.size < w1.heap.size by omega)).trans r1)
    have h2 := WkR.below h1 hb2
    have hin := in_any xk h2 xi
    have H := (show Hid _ from And.intro h2 (hb.trans (hb2.mono hb.size)))
    have hne : X ≠ w.heap.size := by omega
    have hne2 : X ≠ w1.heap.size := by omega
    rw [retO_some]
    clear r1 hb hb2 r2
    cases hi : inE fr to (xk, xi) with
    | false =>
      rw [hi] at hin
      have hf : (some (xk, xi)).filter (inE fr to) = none := by rw [Option.filter_some, hi, if_neg Bool.false_ne_true]
      have HF := (show Hid _ from hf)
      clear hf hi h1 h2
      go_wp2_with fail
      refine hin.mono ?_
      rintro e w3 ⟨rfl, hw3⟩
      subst w3
      clear hin
      go_wp2
      refine bodyPost_ret (v := .tuple #[.agg #[.string ⟨#[]⟩, .int .i64 0], .bool false]) (by simp [results, Try.results17, go_sem, e0, e1]) rfl ⟨by rw [HF.out]; rfl, by rw [HF.out]; exact (WkR.other (WkR.other H.out.1 hne) hne), ?_⟩
      · exact ((Far.of_below H.out.2).cell (.inr (Nat.le_refl _)) _).cell (.inr (Nat.le_refl _)) _
    | true =>
      rw [hi] at hin
      have hf : (some (xk, xi)).filter (inE fr to) = some (xk, xi) := by rw [Option.filter_some, hi, if_pos rfl]
      have HF := (show Hid _ from hf)
      obtain ⟨-, -, -, -, c4, c5, c6, cf, -⟩ := h2.view
      clear hf hi h1 h2
      go_wp2_with fail
      refine hin.mono ?_
      rintro e w3 ⟨rfl, hw3⟩
      subst w3
      clear hin
      go_wp2
      refine bodyPost_ret (v := .tuple #[.agg #[.string xk, .int .i64 xi], .bool true]) (by simp [results, Try.results17, go_sem, e0, e1]) rfl ⟨by rw [HF.out]; rfl, by rw [HF.out]; exact WkR.other (WkR.other (WkR.mark (k' := xk) (i' := xi) (b' := true) H.out.1) hne) hne, ?_⟩
      · refine Far.cell (p := ⟨w.heap.size, 1, none⟩) (Far.cell (p := ⟨w.heap.size, 0, none⟩) ?_ (.inr (Nat.le_refl _)) _) (.inr (Nat.le_refl _)) _
        refine Far.cell (G := fun a => a = X) (p := ⟨X, 6, none⟩) (Far.cell (G := fun a => a = X) (p := ⟨X, 5, none⟩) (Far.cell (G := fun a => a = X) (p := ⟨X, 4, none⟩) ?_ (.inl rfl) _) (.inl rfl) _) (.inl rfl) _
        exact Far.of_below H.out.2
set_option maxRecDepth 100000 in
theorem WResume_any (w : World) (T : Nat) (fr to : ByteArray) (dn : Bool) (k : ByteArray) (i : Int) (b : Bool) : Calls Try.prog 22 #[.pointer (some ⟨T, 0, none⟩), .agg #[.string fr, .string to, .bool dn], .agg #[.string k, .int .i64 i, .bool b]] w fun r w' => ∃ X, r = .returned (.pointer (some ⟨X, 0, none⟩)) ∧ Wk w' X T fr to dn (mkO k i b) ∧ w.heap.size ≤ X ∧ Below w.heap.size w w' := by
  obtain ⟨W0, hW0⟩ : ∃ W0, w.alloc (.cells #[.string fr, .string to, .bool dn] 29) = W0 := ⟨_, rfl⟩
  have hbW : Below w.heap.size w W0 := by rw [← hW0]; exact (Below.refl _ _).alloc (Nat.le_refl _) _
  have r0 : W0.heap[w.heap.size]? = some (.cells #[.string fr, .string to, .bool dn] 29) := by rw [← hW0]; exact heap_alloc_new _ _
  have hs0 : W0.heap.size = w.heap.size + 1 := by rw [← hW0]; simp
  obtain ⟨W1, hW1⟩ : ∃ W1, W0.alloc (.cells #[.string k, .int .i64 i, .bool b] 36) = W1 := ⟨_, rfl⟩
  have hb1 : Below W0.heap.size W0 W1 := by rw [← hW1]; exact (Below.refl _ _).alloc (Nat.le_refl _) _
  have hs1 : W1.heap.size = w.heap.size + 2 := by rw [← hW1]; simp [hs0]
  have r1 : W1.heap[w.heap.size + 1]? = some (.cells #[.string k, .int .i64 i, .bool b] 36) := by rw [← hW1, ← hs0]; exact heap_alloc_new _ _
  have r0' := (hb1.block _ (show w.heap.size < W0.heap.size by omega)).trans r0
  have e0 : W1.cell? ⟨w.heap.size, 0, none⟩ = some (.string fr) := by simp [World.cell?, r0']
  have e1 : W1.cell? ⟨w.heap.size, 1, none⟩ = some (.string to) := by simp [World.cell?, r0']
  have e2 : W1.cell? ⟨w.heap.size, 2, none⟩ = some (.bool dn) := by simp [World.cell?, r0']
  have hbb := hbW.trans (hb1.mono hbW.size)
  have hn := WNew_any W1 T fr to dn
  have HR := (show Hid _ from r1)
  clear r0 r0' r1 hbW hb1
  go_enter Try.func22, Try.ntmps22
  go_wp2_with fail
  refine hn.mono ?_
  rintro e w2 ⟨X, rfl, hk, hX, hb2⟩
  have r2 := (hb2.block _ (show w.heap.size + 1 < W1.heap.size by omega)).trans HR.out
  have d0 : w2.cell? ⟨w.heap.size + 1, 0, none⟩ = some (.string k) := by simp [World.cell?, r2]
  have d1 : w2.cell? ⟨w.heap.size + 1, 1, none⟩ = some (.int .i64 i) := by simp [World.cell?, r2]
  have d2 : w2.cell? ⟨w.heap.size + 1, 2, none⟩ = some (.bool b) := by simp [World.cell?, r2]
  have hb := hbb.trans (hb2.mono hbb.size)
  have hwX : w.heap.size ≤ X := by omega
  obtain ⟨-, -, -, -, c4, c5, c6, cf, -⟩ := WkR.view hk
  have HK := (show Hid _ from hk)
  clear hn r2 hb2 hbb HR e0 e1 e2 hk hW0 hW1
  cases b with
  | false =>
    go_wp2
    go_ret
    exact ⟨_, rfl, HK.out, hwX, hb⟩
  | true =>
    go_wp2
    go_ret
    exact ⟨_, rfl, WkR.mark (k' := k) (i' := i) (b' := true) HK.out, hwX, ((hb.setCell (p := ⟨X, 4, none⟩) hwX _).setCell (p := ⟨X, 5, none⟩) hwX _).setCell (p := ⟨X, 6, none⟩) hwX _⟩
end
end Go.Proofs.Ytoaekmighinmhaa
