/-
  The program's up by its contract: what it asks the tree for, and what comes of it. Conditions: as stated.
-/
import Derived.Test.YtoaekmighinmhaaU23
namespace Go.Proofs.Ytoaekmighinmhaa
open Go.RowKit

section
variable {F : Nat → Prop} {w : World} {X T : Nat} {fr to k : ByteArray} {dn : Bool} {i : Int} {l : List En}
set_option maxRecDepth 100000 in
theorem up_on_any (h : WkR w X T fr to dn k i true) (ht : TrF F w T l) (hk : ¬ cmpT k fr < 0) : Calls Try.prog 40 #[.pointer (some ⟨X, 0, none⟩)] w fun r w' => r = .returned (retO (afterE (k, i) l)) ∧ Below w.heap.size w w' := by
  have hr0 : ∃ W0, w.alloc (.cells #[.string ⟨#[]⟩, .int .i64 0] 34) = W0 := ⟨_, rfl⟩
  obtain ⟨W0, hW0⟩ := hr0
  have hbW : Below w.heap.size w W0 := by rw [← hW0]; exact (Below.refl _ _).alloc (Nat.le_refl _) _
  have r0 : W0.heap[w.heap.size]? = some (.cells #[.string ⟨#[]⟩, .int .i64 0] 34) := by rw [← hW0]; exact heap_alloc_new _ _
  have hs0 : W0.heap.size = w.heap.size + 1 := by rw [← hW0]; simp
  have h2 := h.below hbW
  have hXl := lt_of_heap h
  obtain ⟨c0, c1, c2, c3, c4, c5, c6, cf, -⟩ := h2.view
  have ht2 := ht.below hbW
  have hcall := AfterT_any (k, i) W0.drew (ht2.below (Below.refl _ _).drew)
  obtain ⟨xk, xi, xb, hx⟩ := retO_form (afterE (k, i) l)
  rw [hx] at hcall ⊢
  have hu := under_any k h2
  rw [decide_eq_false hk] at hu
  have rr := r0
  have hbw := hbW
  clear h h2 ht ht2 hx hk c1 c2 c3 r0
  go_enter Try.func40, Try.ntmps40
  go_wp2_with fail
  refine hu.mono ?_
  rintro e w9 ⟨rfl, hw9⟩
  subst w9
  clear hu
  go_wp2_with fail
  have P0 := fun (w' : World) (h : w'.heap[X]? = W0.heap[X]?) => (World.cell?_of_block (a := ⟨X, 0, none⟩) h).trans c0
  have P1 := fun (w' : World) (h : w'.heap[X]? = W0.heap[X]?) => (World.cell?_of_block (a := ⟨X, 4, none⟩) h).trans c4
  have P2 := fun (w' : World) (h : w'.heap[X]? = W0.heap[X]?) => (World.cell?_of_block (a := ⟨X, 5, none⟩) h).trans c5
  have h0 : (fun w' : World => w'.heap[X]? = W0.heap[X]?) W0.drew := rfl
  clear c0 c4 c5 c6 hW0
  refine wp_region_held (S := fun w' => w'.heap[X]? = W0.heap[X]?) mixed ?_
  refine wpAnyH_take (i := 0) (oi := ⟨_, _, _, _, _, _⟩) (v := ?v1) rfl (by kernel_rfl) (by kernel_rfl) (by kernel_rfl) (fun _ _ _ h => h) (Or.inl ⟨by rfl, ?hy1⟩) h0 ?rest1
  case hy1 => (intro w hSw; (try dsimp only at hSw); go_simp; try with_reducible rfl)
  simp only [Act.put, List.setIfInBounds_toArray, List.set_cons_zero, List.set_cons_succ]
  refine wpAnyH_take (i := 1) (oi := ⟨_, _, _, _, _, _⟩) (v := ?v2) rfl (by kernel_rfl) (by kernel_rfl) (by kernel_rfl) (fun _ _ _ h => h) (Or.inl ⟨by rfl, ?hy2⟩) h0 ?rest2
  case hy2 => (intro w hSw; (try dsimp only at hSw); go_simp; try with_reducible rfl)
  simp only [Act.put, List.setIfInBounds_toArray, List.set_cons_zero, List.set_cons_succ]
  refine wpAnyH_take (i := 2) (oi := ⟨_, _, _, _, _, _⟩) (v := ?v3) rfl (by kernel_rfl) (by kernel_rfl) (by kernel_rfl) (fun _ _ _ h => h) (Or.inl ⟨by rfl, ?hy3⟩) h0 ?rest3
  case hy3 => (intro w hSw; (try dsimp only at hSw); go_simp; try with_reducible rfl)
  simp only [Act.put, List.setIfInBounds_toArray, List.set_cons_zero, List.set_cons_succ]
  refine wpAnyH_take (i := 3) (oi := ⟨_, _, _, _, _, _⟩) (v := ?v4) rfl (by kernel_rfl) (by kernel_rfl) (by kernel_rfl) (fun _ _ _ h => h) (Or.inl ⟨by rfl, ?hy4⟩) h0 ?rest4
  case hy4 => (intro w hSw; (try dsimp only at hSw); go_simp; try with_reducible rfl)
  simp only [Act.put, List.setIfInBounds_toArray, List.set_cons_zero, List.set_cons_succ]
  refine wpAnyH_take (i := 4) (oi := ⟨_, _, _, _, _, _⟩) (v := ?v5) rfl (by kernel_rfl) (by kernel_rfl) (by kernel_rfl) (fun _ _ _ h => h) (Or.inl ⟨by rfl, ?hy5⟩) h0 ?rest5
  case hy5 => (intro w hSw; (try dsimp only at hSw); go_simp; try with_reducible rfl)
  simp only [Act.put, List.setIfInBounds_toArray, List.set_cons_zero, List.set_cons_succ]
  refine wpAnyH_take (i := 5) (oi := ⟨_, _, _, _, _, _⟩) (v := ?v6) rfl (by kernel_rfl) (by kernel_rfl) (by kernel_rfl) (fun _ _ _ h => h) (Or.inl ⟨by rfl, ?hy6⟩) h0 ?rest6
  case hy6 => (intro w hSw; (try dsimp only at hSw); go_simp; try with_reducible rfl)
  simp only [Act.put, List.setIfInBounds_toArray, List.set_cons_zero, List.set_cons_succ]
  refine wpAnyH_take (i := 6) (oi := ⟨_, _, _, _, _, _⟩) (v := ?v7) rfl (by kernel_rfl) (by kernel_rfl) (by kernel_rfl) (fun _ _ _ h => h) (Or.inl ⟨by rfl, ?hy7⟩) h0 ?rest7
  case hy7 => (intro w hSw; (try dsimp only at hSw); go_simp; try with_reducible rfl)
  simp only [Act.put, List.setIfInBounds_toArray, List.set_cons_zero, List.set_cons_succ]
  refine wpAnyH_take (i := 7) (oi := ⟨_, _, _, _, _, _⟩) (v := ?v8) rfl (by kernel_rfl) (by kernel_rfl) (by kernel_rfl) (fun _ _ _ h => h) (Or.inl ⟨by rfl, ?hy8⟩) h0 ?rest8
  case hy8 => (intro w hSw; (try dsimp only at hSw); go_simp; try with_reducible rfl)
  simp only [Act.put, List.setIfInBounds_toArray, List.set_cons_zero, List.set_cons_succ]
  refine wpAnyH_take (i := 8) (oi := ⟨_, _, _, _, _, _⟩) (v := ?v9) rfl (by kernel_rfl) (by kernel_rfl) (by kernel_rfl) (fun _ _ _ h => h) (Or.inl ⟨by rfl, ?hy9⟩) h0 ?rest9
  case hy9 => (intro w hSw; (try dsimp only at hSw); go_simp; try with_reducible rfl)
  simp only [Act.put, List.setIfInBounds_toArray, List.set_cons_zero, List.set_cons_succ]
  refine wpAnyH_ready (rs := [9]) (by kernel_rfl) (by simp) ?_
  refine AllReadyH.cons (o := ⟨_, _, _, _, _, _⟩) rfl (fun K hK => ?_) AllReadyH.nil
  go_simp
  refine hcall.mono ?_
  rintro e w1 ⟨rfl, hb1⟩
  have h3 : w1.heap[X]? = W0.heap[X]? := hb1.block X (show X < W0.heap.size by omega)
  obtain ⟨e0, e1, ef, hel⟩ := row2_of ((hb1.block _ (show w.heap.size < W0.heap.size by omega)).trans rr)
  have hb := hbw.trans ((Below.drop_drew hb1).mono hbw.size)
  clear hcall hb1 rr
  refine hK.out _ _ h3 (fun hHeld => ?_)
  clear hK K hHeld
  try simp only [Act.put, List.setIfInBounds_toArray, List.set_cons_zero, List.set_cons_succ]
  refine wpAnyH_take (i := 10) (oi := ⟨_, _, _, _, _, _⟩) (v := ?v10) rfl (by kernel_rfl) (by kernel_rfl) (by kernel_rfl) (fun _ _ _ h => h) (Or.inl ⟨by rfl, ?hy10⟩) h3 ?rest10
  case hy10 => (intro w hSw; (try dsimp only at hSw); go_simp; try with_reducible rfl)
  simp only [Act.put, List.setIfInBounds_toArray, List.set_cons_zero, List.set_cons_succ]
  refine wpAnyH_take (i := 11) (oi := ⟨_, _, _, _, _, _⟩) (v := ?v11) rfl (by kernel_rfl) (by kernel_rfl) (by kernel_rfl) (fun _ _ _ h => h) (Or.inl ⟨by rfl, ?hy11⟩) h3 ?rest11
  case hy11 => (intro w hSw; (try dsimp only at hSw); go_simp; try with_reducible rfl)
  simp only [Act.put, List.setIfInBounds_toArray, List.set_cons_zero, List.set_cons_succ]
  refine wpAnyH_ready (rs := [12]) (by kernel_rfl) (by simp) ?_
  refine AllReadyH.cons (o := ⟨_, _, _, _, _, _⟩) rfl (fun K hK => ?_) AllReadyH.nil
  go_simp
  have h4 : ((w1.setCell ⟨w.heap.size, 0, none⟩ (.string xk)).setCell ⟨w.heap.size, 1, none⟩ (.int .i64 xi)).heap[X]? = W0.heap[X]? := by
    have n0 : X ≠ w.heap.size := by omega
    rw [Below.heap_setCell _ _ _ _ n0, Below.heap_setCell _ _ _ _ n0]
    exact h3
  refine hK.out _ _ h4 (fun hHeld => ?_)
  clear hK K hHeld
  try simp only [Act.put, List.setIfInBounds_toArray, List.set_cons_zero, List.set_cons_succ]
  refine wpAnyH_ready (rs := [13]) (by kernel_rfl) (by simp) ?_
  refine AllReadyH.cons (o := ⟨_, _, _, _, _, _⟩) rfl (fun K hK => ?_) AllReadyH.nil
  go_simp
  refine hK.out _ _ h4 (fun hHeld => ?_)
  clear hK K hHeld
  try simp only [Act.put, List.setIfInBounds_toArray, List.set_cons_zero, List.set_cons_succ]
  refine wpAnyH_done (by kernel_rfl) ?_ _
  clear h0 h3 h4 P0 P1 P2
  go_wp2
  refine bodyPost_ret (v := .tuple #[.agg #[.string xk, .int .i64 xi], .bool xb]) (by simp [results, Try.results40, go_sem, e0, e1]) rfl ⟨rfl, ?_⟩
  exact (hb.setCell (Nat.le_refl _) _).setCell (Nat.le_refl _) _
set_option maxRecDepth 100000 in
theorem up_has_any {b : Bool} (h : WkR w X T fr to dn k i b) (ht : TrF F w T l) (hk : b = true → cmpT k fr < 0) (hh : hasE (fr, minI) l = true) : Calls Try.prog 40 #[.pointer (some ⟨X, 0, none⟩)] w fun r w' => r = .returned (retO (some (fr, minI))) ∧ Below w.heap.size w w' := by
  have hr0 : ∃ W0, w.alloc (.cells #[.string ⟨#[]⟩, .int .i64 0] 34) = W0 := ⟨_, rfl⟩
  obtain ⟨W0, hW0⟩ := hr0
  have hbW : Below w.heap.size w W0 := by rw [← hW0]; exact (Below.refl _ _).alloc (Nat.le_refl _) _
  have r0 : W0.heap[w.heap.size]? = some (.cells #[.string ⟨#[]⟩, .int .i64 0] 34) := by rw [← hW0]; exact heap_alloc_new _ _
  have hs0 : W0.heap.size = w.heap.size + 1 := by rw [← hW0]; simp
  have h2 := h.below hbW
  have hXl := lt_of_heap h
  obtain ⟨c0, c1, c2, c3, c4, c5, c6, cf, -⟩ := h2.view
  have ht2 := ht.below hbW
  obtain ⟨W1, hW1⟩ : ∃ W1, W0.alloc (.cells #[.string fr, .int .i64 (-9223372036854775808)] 34) = W1 := ⟨_, rfl⟩
  have hb01 : Below W0.heap.size W0 W1 := by rw [← hW1]; exact (Below.refl _ _).alloc (Nat.le_refl _) _
  have hs1 : W1.heap.size = w.heap.size + 2 := by rw [← hW1]; simp [hs0]
  have r1 : W1.heap[w.heap.size + 1]? = some (.cells #[.string fr, .int .i64 minI] 34 (0, 0)) := by rw [← hW1, ← hs0]; exact heap_alloc_new _ _
  have ht3 := ht2.below hb01
  have h3 := h2.below hb01
  obtain ⟨d0, -, -, -, -, -, -, -, -⟩ := h3.view
  obtain ⟨d1, d2, df, -⟩ := row2_of r1
  have rr := (hb01.block _ (show w.heap.size < W0.heap.size by omega)).trans r0
  have hbw := hbW.trans (hb01.mono hbW.size)
  have hhas := fun (d : Nat) (os : Array Obj) => Calls.regrown_of (HasT_any (fr, minI) (Go.Sort.grow (redrawn W1 d) os) (ht3.below (below_regrown _ d os)))
  rw [hh] at hhas
  have G0 := cell_regrown d0
  have G1 := cell_regrown d1
  have G2 := cell_regrown d2
  have hu := under_any k h2
  have HW1 := (show Hid _ from And.intro hW1 (And.intro h3 (And.intro ht3 (And.intro r1 (And.intro rr (And.intro hbw hs1))))))
  clear hW1 h3 ht3 r1 rr hbw hs1 hb01 d0 d1 d2 df r0 hbW h2 ht2 h ht
  rw [retO_some]
  cases b with
  | false =>
    go_enter Try.func40, Try.ntmps40
    go_wp2_with fail
    rw [HW1.out.1]
    refine wp_region_quiet_below mixed (by kernel_rfl) ?_
    iterate 5 go_big_quiet_step (fail)
    go_big_quiet_step (exact hhas _ _)
    refine wpQuiet_nil ?_
    rintro w2 ⟨⟨dq, osq⟩, hw'⟩
    obtain ⟨-, h3, ht3, r1, rr1, hbw1, hs1⟩ := HW1.out
    have hb' : Below W1.heap.size W1 w2 := by rw [hw']; exact below_regrown _ dq osq
    have hbw := hbw1.trans (hb'.mono hbw1.size)
    have hsz := hb'.size
    have rr := (hb'.block _ (show w.heap.size < W1.heap.size by omega)).trans rr1
    obtain ⟨e0, e1, ef, hel⟩ := row2_of rr
    obtain ⟨m0, m1, mf, -⟩ := row2_of ((hb'.block _ (show w.heap.size + 1 < W1.heap.size by omega)).trans r1)
    clear hw' G0 G1 G2 hhas HW1 r1 rr1 hbw1 hW0 c0 c1 c2 c3 c4 c5 c6 cf hu
    clear rr h3 ht3 hb'
    go_wp2
    refine bodyPost_ret (v := .tuple #[.agg #[.string fr, .int .i64 minI], .bool true]) (by simp [results, Try.results40, go_sem, e0, e1]) rfl ⟨rfl, ?_⟩
    exact (hbw.setCell (Nat.le_refl _) _).setCell (Nat.le_refl _) _
  | true =>
    rw [decide_eq_true (hk rfl)] at hu
    go_enter Try.func40, Try.ntmps40
    go_wp2_with fail
    refine hu.mono ?_
    rintro e w9 ⟨rfl, hw9⟩
    subst w9
    go_wp2_with fail
    rw [HW1.out.1]
    refine wp_region_quiet_below mixed (by kernel_rfl) ?_
    iterate 5 go_big_quiet_step (fail)
    go_big_quiet_step (exact hhas _ _)
    refine wpQuiet_nil ?_
    rintro w2 ⟨⟨dq, osq⟩, hw'⟩
    obtain ⟨-, h3, ht3, r1, rr1, hbw1, hs1⟩ := HW1.out
    have hb' : Below W1.heap.size W1 w2 := by rw [hw']; exact below_regrown _ dq osq
    have hbw := hbw1.trans (hb'.mono hbw1.size)
    have hsz := hb'.size
    have rr := (hb'.block _ (show w.heap.size < W1.heap.size by omega)).trans rr1
    obtain ⟨e0, e1, ef, hel⟩ := row2_of rr
    obtain ⟨m0, m1, mf, -⟩ := row2_of ((hb'.block _ (show w.heap.size + 1 < W1.heap.size by omega)).trans r1)
    clear hw' G0 G1 G2 hhas HW1 r1 rr1 hbw1 hW0 c0 c1 c2 c3 c4 c5 c6 cf hu
    clear rr h3 ht3 hb'
    go_wp2
    refine bodyPost_ret (v := .tuple #[.agg #[.string fr, .int .i64 minI], .bool true]) (by simp [results, Try.results40, go_sem, e0, e1]) rfl ⟨rfl, ?_⟩
    exact (hbw.setCell (Nat.le_refl _) _).setCell (Nat.le_refl _) _
set_option maxRecDepth 100000 in
theorem up_new_any {b : Bool} (h : WkR w X T fr to dn k i b) (ht : TrF F w T l) (hk : b = true → cmpT k fr < 0) (hh : hasE (fr, minI) l = false) : Calls Try.prog 40 #[.pointer (some ⟨X, 0, none⟩)] w fun r w' => r = .returned (retO (afterE (fr, minI) l)) ∧ Below w.heap.size w w' := by
  have hr0 : ∃ W0, w.alloc (.cells #[.string ⟨#[]⟩, .int .i64 0] 34) = W0 := ⟨_, rfl⟩
  obtain ⟨W0, hW0⟩ := hr0
  have hbW : Below w.heap.size w W0 := by rw [← hW0]; exact (Below.refl _ _).alloc (Nat.le_refl _) _
  have r0 : W0.heap[w.heap.size]? = some (.cells #[.string ⟨#[]⟩, .int .i64 0] 34) := by rw [← hW0]; exact heap_alloc_new _ _
  have hs0 : W0.heap.size = w.heap.size + 1 := by rw [← hW0]; simp
  have h2 := h.below hbW
  have hXl := lt_of_heap h
  obtain ⟨c0, c1, c2, c3, c4, c5, c6, cf, -⟩ := h2.view
  have ht2 := ht.below hbW
  obtain ⟨W1, hW1⟩ : ∃ W1, W0.alloc (.cells #[.string fr, .int .i64 (-9223372036854775808)] 34) = W1 := ⟨_, rfl⟩
  have hb01 : Below W0.heap.size W0 W1 := by rw [← hW1]; exact (Below.refl _ _).alloc (Nat.le_refl _) _
  have hs1 : W1.heap.size = w.heap.size + 2 := by rw [← hW1]; simp [hs0]
  have r1 : W1.heap[w.heap.size + 1]? = some (.cells #[.string fr, .int .i64 minI] 34 (0, 0)) := by rw [← hW1, ← hs0]; exact heap_alloc_new _ _
  have ht3 := ht2.below hb01
  have h3 := h2.below hb01
  obtain ⟨d0, -, -, -, -, -, -, -, -⟩ := h3.view
  obtain ⟨d1, d2, df, -⟩ := row2_of r1
  have rr := (hb01.block _ (show w.heap.size < W0.heap.size by omega)).trans r0
  have hbw := hbW.trans (hb01.mono hbW.size)
  have hhas := fun (d : Nat) (os : Array Obj) => Calls.regrown_of (HasT_any (fr, minI) (Go.Sort.grow (redrawn W1 d) os) (ht3.below (below_regrown _ d os)))
  rw [hh] at hhas
  have G0 := cell_regrown d0
  have G1 := cell_regrown d1
  have G2 := cell_regrown d2
  have hu := under_any k h2
  have HW1 := (show Hid _ from And.intro hW1 (And.intro h3 (And.intro ht3 (And.intro r1 (And.intro rr (And.intro hbw hs1))))))
  obtain ⟨xk, xi, xb, hx⟩ := retO_form (afterE (fr, minI) l)
  rw [hx]
  have HX := (show Hid _ from hx)
  clear hx
  clear hW1 h3 ht3 r1 rr hbw hs1 hb01 d0 d1 d2 df r0 hbW h2 ht2 h ht
  cases b with
  | false =>
    go_enter Try.func40, Try.ntmps40
    go_wp2_with fail
    rw [HW1.out.1]
    refine wp_region_quiet_below mixed (by kernel_rfl) ?_
    iterate 5 go_big_quiet_step (fail)
    go_big_quiet_step (exact hhas _ _)
    refine wpQuiet_nil ?_
    rintro w2 ⟨⟨dq, osq⟩, hw'⟩
    obtain ⟨-, h3, ht3, r1, rr1, hbw1, hs1⟩ := HW1.out
    have hb' : Below W1.heap.size W1 w2 := by rw [hw']; exact below_regrown _ dq osq
    have hbw := hbw1.trans (hb'.mono hbw1.size)
    have hsz := hb'.size
    have rr := (hb'.block _ (show w.heap.size < W1.heap.size by omega)).trans rr1
    obtain ⟨e0, e1, ef, hel⟩ := row2_of rr
    obtain ⟨m0, m1, mf, -⟩ := row2_of ((hb'.block _ (show w.heap.size + 1 < W1.heap.size by omega)).trans r1)
    clear hw' G0 G1 G2 hhas HW1 r1 rr1 hbw1 hW0 c0 c1 c2 c3 c4 c5 c6 cf hu
    have hcall := AfterT_any (fr, minI) w2.drew ((ht3.below hb').below (Below.refl _ _).drew)
    rw [HX.out] at hcall
    obtain ⟨d0, -, -, -, -, -, -, -, -⟩ := (h3.below hb').view
    clear h3 ht3 hb' HX e0 e1 ef hel
    go_wp2_with fail
    have P0 := fun (w' : World) (h : w'.heap[X]? = w2.heap[X]? ∧ w'.heap[(w.heap.size + 1)]? = w2.heap[(w.heap.size + 1)]?) => (World.cell?_of_block (a := ⟨X, 0, none⟩) h.1).trans d0
    have P1 := fun (w' : World) (h : w'.heap[X]? = w2.heap[X]? ∧ w'.heap[(w.heap.size + 1)]? = w2.heap[(w.heap.size + 1)]?) => (World.cell?_of_block (a := ⟨w.heap.size + 1, 0, none⟩) h.2).trans m0
    have P2 := fun (w' : World) (h : w'.heap[X]? = w2.heap[X]? ∧ w'.heap[(w.heap.size + 1)]? = w2.heap[(w.heap.size + 1)]?) => (World.cell?_of_block (a := ⟨w.heap.size + 1, 1, none⟩) h.2).trans m1
    have h0 : (fun w' : World => w'.heap[X]? = w2.heap[X]? ∧ w'.heap[(w.heap.size + 1)]? = w2.heap[(w.heap.size + 1)]?) w2.drew := ⟨rfl, rfl⟩
    clear d0 m0 m1 mf
    refine wp_region_held (S := fun w' => w'.heap[X]? = w2.heap[X]? ∧ w'.heap[(w.heap.size + 1)]? = w2.heap[(w.heap.size + 1)]?) mixed ?_
    refine wpAnyH_take (i := 0) (oi := ⟨_, _, _, _, _, _⟩) (v := ?v12) rfl (by kernel_rfl) (by kernel_rfl) (by kernel_rfl) (fun _ _ _ h => h) (Or.inl ⟨by rfl, ?hy12⟩) h0 ?rest12
    case hy12 => (intro w hSw; (try dsimp only at hSw); go_simp; try with_reducible rfl)
    simp only [Act.put, List.setIfInBounds_toArray, List.set_cons_zero, List.set_cons_succ]
    refine wpAnyH_take (i := 1) (oi := ⟨_, _, _, _, _, _⟩) (v := ?v13) rfl (by kernel_rfl) (by kernel_rfl) (by kernel_rfl) (fun _ _ _ h => h) (Or.inl ⟨by rfl, ?hy13⟩) h0 ?rest13
    case hy13 => (intro w hSw; (try dsimp only at hSw); go_simp; try with_reducible rfl)
    simp only [Act.put, List.setIfInBounds_toArray, List.set_cons_zero, List.set_cons_succ]
    refine wpAnyH_take (i := 2) (oi := ⟨_, _, _, _, _, _⟩) (v := ?v14) rfl (by kernel_rfl) (by kernel_rfl) (by kernel_rfl) (fun _ _ _ h => h) (Or.inl ⟨by rfl, ?hy14⟩) h0 ?rest14
    case hy14 => (intro w hSw; (try dsimp only at hSw); go_simp; try with_reducible rfl)
    simp only [Act.put, List.setIfInBounds_toArray, List.set_cons_zero, List.set_cons_succ]
    refine wpAnyH_take (i := 3) (oi := ⟨_, _, _, _, _, _⟩) (v := ?v15) rfl (by kernel_rfl) (by kernel_rfl) (by kernel_rfl) (fun _ _ _ h => h) (Or.inl ⟨by rfl, ?hy15⟩) h0 ?rest15
    case hy15 => (intro w hSw; (try dsimp only at hSw); go_simp; try with_reducible rfl)
    simp only [Act.put, List.setIfInBounds_toArray, List.set_cons_zero, List.set_cons_succ]
    refine wpAnyH_take (i := 4) (oi := ⟨_, _, _, _, _, _⟩) (v := ?v16) rfl (by kernel_rfl) (by kernel_rfl) (by kernel_rfl) (fun _ _ _ h => h) (Or.inl ⟨by rfl, ?hy16⟩) h0 ?rest16
    case hy16 => (intro w hSw; (try dsimp only at hSw); go_simp; try with_reducible rfl)
    simp only [Act.put, List.setIfInBounds_toArray, List.set_cons_zero, List.set_cons_succ]
    refine wpAnyH_ready (rs := [5]) (by kernel_rfl) (by simp) ?_
    refine AllReadyH.cons (o := ⟨_, _, _, _, _, _⟩) rfl (fun K hK => ?_) AllReadyH.nil
    go_simp
    refine hcall.mono ?_
    rintro e w1 ⟨rfl, hb1⟩
    have h3 : w1.heap[X]? = w2.heap[X]? ∧ w1.heap[(w.heap.size + 1)]? = w2.heap[(w.heap.size + 1)]? := ⟨hb1.block X (show X < w2.heap.size by omega), hb1.block (w.heap.size + 1) (show (w.heap.size + 1) < w2.heap.size by omega)⟩
    obtain ⟨e0, e1, ef, hel⟩ := row2_of ((hb1.block _ (show w.heap.size < w2.heap.size by omega)).trans rr)
    have hb := hbw.trans ((Below.drop_drew hb1).mono hbw.size)
    clear hcall hb1 rr
    refine hK.out _ _ h3 (fun hHeld => ?_)
    clear hK K hHeld
    try simp only [Act.put, List.setIfInBounds_toArray, List.set_cons_zero, List.set_cons_succ]
    refine wpAnyH_take (i := 6) (oi := ⟨_, _, _, _, _, _⟩) (v := ?v17) rfl (by kernel_rfl) (by kernel_rfl) (by kernel_rfl) (fun _ _ _ h => h) (Or.inl ⟨by rfl, ?hy17⟩) h3 ?rest17
    case hy17 => (intro w hSw; (try dsimp only at hSw); go_simp; try with_reducible rfl)
    simp only [Act.put, List.setIfInBounds_toArray, List.set_cons_zero, List.set_cons_succ]
    refine wpAnyH_take (i := 7) (oi := ⟨_, _, _, _, _, _⟩) (v := ?v18) rfl (by kernel_rfl) (by kernel_rfl) (by kernel_rfl) (fun _ _ _ h => h) (Or.inl ⟨by rfl, ?hy18⟩) h3 ?rest18
    case hy18 => (intro w hSw; (try dsimp only at hSw); go_simp; try with_reducible rfl)
    simp only [Act.put, List.setIfInBounds_toArray, List.set_cons_zero, List.set_cons_succ]
    refine wpAnyH_ready (rs := [8]) (by kernel_rfl) (by simp) ?_
    refine AllReadyH.cons (o := ⟨_, _, _, _, _, _⟩) rfl (fun K hK => ?_) AllReadyH.nil
    go_simp
    have h4 : ((w1.setCell ⟨w.heap.size, 0, none⟩ (.string xk)).setCell ⟨w.heap.size, 1, none⟩ (.int .i64 xi)).heap[X]? = w2.heap[X]? ∧ ((w1.setCell ⟨w.heap.size, 0, none⟩ (.string xk)).setCell ⟨w.heap.size, 1, none⟩ (.int .i64 xi)).heap[(w.heap.size + 1)]? = w2.heap[(w.heap.size + 1)]? := by
      have n0 : X ≠ w.heap.size := by omega
      have n1 : (w.heap.size + 1) ≠ w.heap.size := by omega
      rw [Below.heap_setCell _ _ _ _ n0, Below.heap_setCell _ _ _ _ n0, Below.heap_setCell _ _ _ _ n1, Below.heap_setCell _ _ _ _ n1]
      exact h3
    refine hK.out _ _ h4 (fun hHeld => ?_)
    clear hK K hHeld
    try simp only [Act.put, List.setIfInBounds_toArray, List.set_cons_zero, List.set_cons_succ]
    refine wpAnyH_ready (rs := [9]) (by kernel_rfl) (by simp) ?_
    refine AllReadyH.cons (o := ⟨_, _, _, _, _, _⟩) rfl (fun K hK => ?_) AllReadyH.nil
    go_simp
    refine hK.out _ _ h4 (fun hHeld => ?_)
    clear hK K hHeld
    try simp only [Act.put, List.setIfInBounds_toArray, List.set_cons_zero, List.set_cons_succ]
    refine wpAnyH_done (by kernel_rfl) ?_ _
    clear h0 h3 h4 P0 P1 P2
    go_wp2
    refine bodyPost_ret (v := .tuple #[.agg #[.string xk, .int .i64 xi], .bool xb]) (by simp [results, Try.results40, go_sem, e0, e1]) rfl ⟨rfl, ?_⟩
    exact (hb.setCell (Nat.le_refl _) _).setCell (Nat.le_refl _) _
  | true =>
    rw [decide_eq_true (hk rfl)] at hu
    go_enter Try.func40, Try.ntmps40
    go_wp2_with fail
    refine hu.mono ?_
    rintro e w9 ⟨rfl, hw9⟩
    subst w9
    go_wp2_with fail
    rw [HW1.out.1]
    refine wp_region_quiet_below mixed (by kernel_rfl) ?_
    iterate 5 go_big_quiet_step (fail)
    go_big_quiet_step (exact hhas _ _)
    refine wpQuiet_nil ?_
    rintro w2 ⟨⟨dq, osq⟩, hw'⟩
    obtain ⟨-, h3, ht3, r1, rr1, hbw1, hs1⟩ := HW1.out
    have hb' : Below W1.heap.size W1 w2 := by rw [hw']; exact below_regrown _ dq osq
    have hbw := hbw1.trans (hb'.mono hbw1.size)
    have hsz := hb'.size
    have rr := (hb'.block _ (show w.heap.size < W1.heap.size by omega)).trans rr1
    obtain ⟨e0, e1, ef, hel⟩ := row2_of rr
    obtain ⟨m0, m1, mf, -⟩ := row2_of ((hb'.block _ (show w.heap.size + 1 < W1.heap.size by omega)).trans r1)
    clear hw' G0 G1 G2 hhas HW1 r1 rr1 hbw1 hW0 c0 c1 c2 c3 c4 c5 c6 cf hu
    have hcall := AfterT_any (fr, minI) w2.drew ((ht3.below hb').below (Below.refl _ _).drew)
    rw [HX.out] at hcall
    obtain ⟨d0, -, -, -, -, -, -, -, -⟩ := (h3.below hb').view
    clear h3 ht3 hb' HX e0 e1 ef hel
    go_wp2_with fail
    have P0 := fun (w' : World) (h : w'.heap[X]? = w2.heap[X]? ∧ w'.heap[(w.heap.size + 1)]? = w2.heap[(w.heap.size + 1)]?) => (World.cell?_of_block (a := ⟨X, 0, none⟩) h.1).trans d0
    have P1 := fun (w' : World) (h : w'.heap[X]? = w2.heap[X]? ∧ w'.heap[(w.heap.size + 1)]? = w2.heap[(w.heap.size + 1)]?) => (World.cell?_of_block (a := ⟨w.heap.size + 1, 0, none⟩) h.2).trans m0
    have P2 := fun (w' : World) (h : w'.heap[X]? = w2.heap[X]? ∧ w'.heap[(w.heap.size + 1)]? = w2.heap[(w.heap.size + 1)]?) => (World.cell?_of_block (a := ⟨w.heap.size + 1, 1, none⟩) h.2).trans m1
    have h0 : (fun w' : World => w'.heap[X]? = w2.heap[X]? ∧ w'.heap[(w.heap.size + 1)]? = w2.heap[(w.heap.size + 1)]?) w2.drew := ⟨rfl, rfl⟩
    clear d0 m0 m1 mf
    refine wp_region_held (S := fun w' => w'.heap[X]? = w2.heap[X]? ∧ w'.heap[(w.heap.size + 1)]? = w2.heap[(w.heap.size + 1)]?) mixed ?_
    refine wpAnyH_take (i := 0) (oi := ⟨_, _, _, _, _, _⟩) (v := ?v19) rfl (by kernel_rfl) (by kernel_rfl) (by kernel_rfl) (fun _ _ _ h => h) (Or.inl ⟨by rfl, ?hy19⟩) h0 ?rest19
    case hy19 => (intro w hSw; (try dsimp only at hSw); go_simp; try with_reducible rfl)
    simp only [Act.put, List.setIfInBounds_toArray, List.set_cons_zero, List.set_cons_succ]
    refine wpAnyH_take (i := 1) (oi := ⟨_, _, _, _, _, _⟩) (v := ?v20) rfl (by kernel_rfl) (by kernel_rfl) (by kernel_rfl) (fun _ _ _ h => h) (Or.inl ⟨by rfl, ?hy20⟩) h0 ?rest20
    case hy20 => (intro w hSw; (try dsimp only at hSw); go_simp; try with_reducible rfl)
    simp only [Act.put, List.setIfInBounds_toArray, List.set_cons_zero, List.set_cons_succ]
    refine wpAnyH_take (i := 2) (oi := ⟨_, _, _, _, _, _⟩) (v := ?v21) rfl (by kernel_rfl) (by kernel_rfl) (by kernel_rfl) (fun _ _ _ h => h) (Or.inl ⟨by rfl, ?hy21⟩) h0 ?rest21
    case hy21 => (intro w hSw; (try dsimp only at hSw); go_simp; try with_reducible rfl)
    simp only [Act.put, List.setIfInBounds_toArray, List.set_cons_zero, List.set_cons_succ]
    refine wpAnyH_take (i := 3) (oi := ⟨_, _, _, _, _, _⟩) (v := ?v22) rfl (by kernel_rfl) (by kernel_rfl) (by kernel_rfl) (fun _ _ _ h => h) (Or.inl ⟨by rfl, ?hy22⟩) h0 ?rest22
    case hy22 => (intro w hSw; (try dsimp only at hSw); go_simp; try with_reducible rfl)
    simp only [Act.put, List.setIfInBounds_toArray, List.set_cons_zero, List.set_cons_succ]
    refine wpAnyH_take (i := 4) (oi := ⟨_, _, _, _, _, _⟩) (v := ?v23) rfl (by kernel_rfl) (by kernel_rfl) (by kernel_rfl) (fun _ _ _ h => h) (Or.inl ⟨by rfl, ?hy23⟩) h0 ?rest23
    case hy23 => (intro w hSw; (try dsimp only at hSw); go_simp; try with_reducible rfl)
    simp only [Act.put, List.setIfInBounds_toArray, List.set_cons_zero, List.set_cons_succ]
    refine wpAnyH_ready (rs := [5]) (by kernel_rfl) (by simp) ?_
    refine AllReadyH.cons (o := ⟨_, _, _, _, _, _⟩) rfl (fun K hK => ?_) AllReadyH.nil
    go_simp
    refine hcall.mono ?_
    rintro e w1 ⟨rfl, hb1⟩
    have h3 : w1.heap[X]? = w2.heap[X]? ∧ w1.heap[(w.heap.size + 1)]? = w2.heap[(w.heap.size + 1)]? := ⟨hb1.block X (show X < w2.heap.size by omega), hb1.block (w.heap.size + 1) (show (w.heap.size + 1) < w2.heap.size by omega)⟩
    obtain ⟨e0, e1, ef, hel⟩ := row2_of ((hb1.block _ (show w.heap.size < w2.heap.size by omega)).trans rr)
    have hb := hbw.trans ((Below.drop_drew hb1).mono hbw.size)
    clear hcall hb1 rr
    refine hK.out _ _ h3 (fun hHeld => ?_)
    clear hK K hHeld
    try simp only [Act.put, List.setIfInBounds_toArray, List.set_cons_zero, List.set_cons_succ]
    refine wpAnyH_take (i := 6) (oi := ⟨_, _, _, _, _, _⟩) (v := ?v24) rfl (by kernel_rfl) (by kernel_rfl) (by kernel_rfl) (fun _ _ _ h => h) (Or.inl ⟨by rfl, ?hy24⟩) h3 ?rest24
    case hy24 => (intro w hSw; (try dsimp only at hSw); go_simp; try with_reducible rfl)
    simp only [Act.put, List.setIfInBounds_toArray, List.set_cons_zero, List.set_cons_succ]
    refine wpAnyH_take (i := 7) (oi := ⟨_, _, _, _, _, _⟩) (v := ?v25) rfl (by kernel_rfl) (by kernel_rfl) (by kernel_rfl) (fun _ _ _ h => h) (Or.inl ⟨by rfl, ?hy25⟩) h3 ?rest25
    case hy25 => (intro w hSw; (try dsimp only at hSw); go_simp; try with_reducible rfl)
    simp only [Act.put, List.setIfInBounds_toArray, List.set_cons_zero, List.set_cons_succ]
    refine wpAnyH_ready (rs := [8]) (by kernel_rfl) (by simp) ?_
    refine AllReadyH.cons (o := ⟨_, _, _, _, _, _⟩) rfl (fun K hK => ?_) AllReadyH.nil
    go_simp
    have h4 : ((w1.setCell ⟨w.heap.size, 0, none⟩ (.string xk)).setCell ⟨w.heap.size, 1, none⟩ (.int .i64 xi)).heap[X]? = w2.heap[X]? ∧ ((w1.setCell ⟨w.heap.size, 0, none⟩ (.string xk)).setCell ⟨w.heap.size, 1, none⟩ (.int .i64 xi)).heap[(w.heap.size + 1)]? = w2.heap[(w.heap.size + 1)]? := by
      have n0 : X ≠ w.heap.size := by omega
      have n1 : (w.heap.size + 1) ≠ w.heap.size := by omega
      rw [Below.heap_setCell _ _ _ _ n0, Below.heap_setCell _ _ _ _ n0, Below.heap_setCell _ _ _ _ n1, Below.heap_setCell _ _ _ _ n1]
      exact h3
    refine hK.out _ _ h4 (fun hHeld => ?_)
    clear hK K hHeld
    try simp only [Act.put, List.setIfInBounds_toArray, List.set_cons_zero, List.set_cons_succ]
    refine wpAnyH_ready (rs := [9]) (by kernel_rfl) (by simp) ?_
    refine AllReadyH.cons (o := ⟨_, _, _, _, _, _⟩) rfl (fun K hK => ?_) AllReadyH.nil
    go_simp
    refine hK.out _ _ h4 (fun hHeld => ?_)
    clear hK K hHeld
    try simp only [Act.put, List.setIfInBounds_toArray, List.set_cons_zero, List.set_cons_succ]
    refine wpAnyH_done (by kernel_rfl) ?_ _
    clear h0 h3 h4 P0 P1 P2
    go_wp2
    refine bodyPost_ret (v := .tuple #[.agg #[.string xk, .int .i64 xi], .bool xb]) (by simp [results, Try.results40, go_sem, e0, e1]) rfl ⟨rfl, ?_⟩
    exact (hb.setCell (Nat.le_refl _) _).setCell (Nat.le_refl _) _
end
end Go.Proofs.Ytoaekmighinmhaa
