/-
  The entry ahead of any one by its contract. Conditions: as stated.
-/
import Derived.Test.YtoaekmighinmhaaU5
namespace Go.Proofs.Ytoaekmighinmhaa
open Go.RowKit Go.Sort

set_option maxRecDepth 100000 in
set_option maxHeartbeats 4000000 in
theorem before0_any (t : Nd) (e : En) (w : World) (h : Live 0 w t) (hl : t.es.length ≤ 4) (hs : SortE t.es) :
    Calls Try.prog 69 #[.pointer (some ⟨t.b, 0, none⟩), .agg #[.string e.1, .int .i64 e.2]] w fun r w' => r = .returned (retO (beforeE e t.es)) ∧ Below w.heap.size w w' := by
  obtain ⟨ek, ei⟩ := e
  obtain ⟨W0, hW0, hwW, hs0, k0, k1, r0⟩ := box2_any w ek ei
  have hsh := h.sh.below hwW
  have hpl := place_any (ek, ei) W0 hsh hs (by omega)
  have hz : t.kids.length = 0 := by rw [h.2]; rfl
  have hlf := fun W (hW : Below W0.heap.size W0 W) => leaf_any W (hsh.below hW)
  rw [hz] at hlf
  rw [before_leaf hs]
  have hle := ah_le (ek, ei) t.es
  generalize hasE (ek, ei) t.es = p at *
  by_cases hq : ahE (ek, ei) t.es = 0
  · rw [if_pos hq]
    rw [hq] at hpl
    clear h hsh hs hz hle hq
    go_enter Try.func69, Try.ntmps69
    go_wp2_with fail
    refine hpl.mono ?_
    rintro e w1 ⟨rfl, hb1⟩
    have hlf1 := hlf w1 hb1
    obtain ⟨e0, e1, ef, hel⟩ := row2_of ((hb1.block (w.heap.size + 1) (by omega)).trans r0)
    have hb := hwW.trans (hb1.mono hwW.size)
    clear hpl hlf hb1 hwW hs0 hW0 k0 k1 r0
    go_wp2_with fail
    refine hlf1.mono ?_
    rintro e w2 ⟨rfl, rfl⟩
    go_wp2
    rw [retO_none]
    refine bodyPost_ret (v := .tuple #[.agg #[.string ⟨#[]⟩, .int .i64 0], .bool false]) (by simp [results, Try.results69, go_sem, e0, e1]) rfl ⟨rfl, ?_⟩
    exact (hb.setCell (Nat.le_succ _) _).setCell (Nat.le_succ _) _
  · rw [if_neg hq]
    obtain ⟨j, hj⟩ : ∃ j, ahE (ek, ei) t.es = j + 1 := ⟨ahE (ek, ei) t.es - 1, by omega⟩
    rw [hj] at hpl hle ⊢
    obtain ⟨x, hx⟩ : ∃ x, t.es[j]? = some x := ⟨_, List.getElem?_eq_getElem (by omega)⟩
    rw [show j + 1 - 1 = j from rfl, hx]
    obtain ⟨B, c, -, hc1, hc2, c0, ck, ci, -⟩ := hsh.entryv hx
    obtain ⟨xk, xi⟩ := x
    have zj : wrap64 (j : Int) = (j : Int) := by unfold wrap64; omega
    have zjl : (j : Int) < (t.es.length : Int) := by omega
    generalize t.es.length = l at *
    clear h hsh hs hz hx hj hq
    go_enter Try.func69, Try.ntmps69
    go_wp2_with fail
    refine hpl.mono ?_
    rintro e w1 ⟨rfl, hb1⟩
    have hlf1 := hlf w1 hb1
    obtain ⟨e0, e1, ef, hel⟩ := row2_of ((hb1.block (w.heap.size + 1) (by omega)).trans r0)
    have d0 := (hb1.cell (lt_of_cell c0)).trans c0
    have dk := (hb1.cell (lt_of_cell ck)).trans ck
    have di := (hb1.cell (lt_of_cell ci)).trans ci
    clear c0 ck ci
    have hb := hwW.trans (hb1.mono hwW.size)
    clear hpl hlf hb1 hwW hs0 hW0 k0 k1 r0
    go_wp2_with fail
    refine hlf1.mono ?_
    rintro e w2 ⟨rfl, rfl⟩
    go_wp2
    rw [retO_some]
    refine bodyPost_ret (v := .tuple #[.agg #[.string xk, .int .i64 xi], .bool true]) (by simp [results, Try.results69, go_sem, e0, e1]) rfl ⟨rfl, ?_⟩
    exact (hb.setCell (Nat.le_succ _) _).setCell (Nat.le_succ _) _

set_option maxRecDepth 100000 in
set_option maxHeartbeats 8000000 in
theorem before_any : ∀ (n : Nat) (t : Nd) (e : En) (w : World), Live n w t → WfN n t → t.es.length ≤ 4 → SortE (flatN n t) →
    Calls Try.prog 69 #[.pointer (some ⟨t.b, 0, none⟩), .agg #[.string e.1, .int .i64 e.2]] w fun r w' => r = .returned (retO (beforeE e (flatN n t))) ∧ Below w.heap.size w w' := by
  intro n
  induction n with
  | zero => exact fun t e w h _ hl hs => before0_any t e w h hl hs
  | succ n ih =>
    intro t e w h hw hl hs
    obtain ⟨ek, ei⟩ := e
    obtain ⟨W0, hW0, hwW, hs0, k0, k1, r0⟩ := box2_any w ek ei
    have hL0 : Live (n + 1) W0 t := h.below hwW
    have hes := flat_es hs
    have hpl := place_any (ek, ei) W0 hL0.sh hes (by omega)
    have hle := ah_le (ek, ei) t.es
    obtain ⟨k, hk⟩ : ∃ k, t.kids[ahE (ek, ei) t.es]? = some k := ⟨_, List.getElem?_eq_getElem (by have := hw.1; omega)⟩
    have hkm := List.mem_of_getElem? hk
    have hkw := hw.2 k hkm
    have hks : SortE (flatN n k) := by rw [flat_kid hw hk] at hs; exact (sort_mid hs).1
    rw [before_desc hw hs hk]
    have hlt := (List.getElem?_eq_some_iff.1 hk).1
    have hnz : ¬ t.kids.length = 0 := by omega
    have hrec := fun W (hW : Below W0.heap.size W0 W) => ih k (ek, ei) W ((hL0.2.2 k hkm).below hW) hkw.1 (by omega) hks
    have hlf := fun W (hW : Below W0.heap.size W0 W) => leaf_any W (hL0.sh.below hW)
    rw [decide_eq_false hnz] at hlf
    obtain ⟨B, c, -, hc1, hc2, c1, ck, -⟩ := hL0.sh.kidv hk
    generalize hasE (ek, ei) t.es = p at *
    obtain ⟨o, ho⟩ : ∃ o, beforeE (ek, ei) (flatN n k) = o := ⟨_, rfl⟩
    rw [ho] at hrec ⊢
    obtain ⟨q, hq⟩ : ∃ q, ahE (ek, ei) t.es = q := ⟨_, rfl⟩
    rw [hq] at hpl hle hlt ck ⊢
    have zul : (q : Int) < (t.kids.length : Int) := by omega
    generalize t.kids.length = m at *
    cases o with
    | some x =>
      obtain ⟨xk, xi⟩ := x
      show Calls _ _ _ _ fun r w' => r = .returned (retO (some (xk, xi))) ∧ _
      clear h hs hw hL0 ih hes hk hkm hkw hks hnz hq ho hle
      go_enter Try.func69, Try.ntmps69
      go_wp2_with fail
      refine hpl.mono ?_
      rintro e w1 ⟨rfl, hb1⟩
      have hlf1 := hlf w1 hb1
      have hrec1 := fun W (hW : Below w1.heap.size w1 W) => hrec W (hb1.trans (hW.mono hb1.size))
      have hr1 := (hb1.block (w.heap.size + 1) (by omega)).trans r0
      have hel := lt_of_heap hr1
      have d1 := (hb1.cell (lt_of_cell c1)).trans c1
      have dk := (hb1.cell (lt_of_cell ck)).trans ck
      have m0 := (hb1.cell (lt_of_cell k0)).trans k0
      have m1 := (hb1.cell (lt_of_cell k1)).trans k1
      have hb := hwW.trans (hb1.mono hwW.size)
      clear hpl hlf hrec hb1 hwW hs0 hW0 c1 ck k0 k1 r0
      go_wp2_with fail
      refine hlf1.mono ?_
      rintro e w2 ⟨rfl, rfl⟩
      go_wp2_with fail
      have P0 := fun (w' : World) (h : Below w2.heap.size w2 w') => (h.cell (lt_of_cell d1)).trans d1
      have P1 := fun (w' : World) (h : Below w2.heap.size w2 w') => (h.cell (lt_of_cell dk)).trans dk
      have P2 := fun (w' : World) (h : Below w2.heap.size w2 w') => (h.cell (lt_of_cell m0)).trans m0
      have P3 := fun (w' : World) (h : Below w2.heap.size w2 w') => (h.cell (lt_of_cell m1)).trans m1
      clear d1 dk m0 m1
      have h0 : (fun w' : World => Below w2.heap.size w2 w') w2.drew := (Below.refl _ _).drew
      refine wp_region_held (S := fun w' => Below w2.heap.size w2 w') mixed ?_
      refine wpAnyH_take (i := 0) (oi := ⟨_, _, _, _, _, _⟩) (v := ?v1) rfl (by kernel_rfl) (by kernel_rfl) (by kernel_rfl) (fun _ _ _ h => h) (Or.inl ⟨by rfl, ?hy1⟩) h0 ?rest1
      case hy1 => (intro w hSw; (try dsimp only at hSw); go_simp; try with_reducible rfl)
      simp only [Act.put, List.setIfInBounds_toArray, List.set_cons_zero, List.set_cons_succ]
      refine wpAnyH_take (i := 1) (oi := ⟨_, _, _, _, _, _⟩) (v := ?v2) rfl (by kernel_rfl) (by kernel_rfl) (by kernel_rfl) (fun _ _ _ h => h) (Or.inl ⟨by rfl, ?hy2⟩) h0 ?rest2
      case hy2 => (intro w hSw; (try dsimp only at hSw); go_simp; try with_reducible rfl)
      simp only [Act.put, List.setIfInBounds_toArray, List.set_cons_zero, List.set_cons_succ]
      refine wpAnyH_take (i := 2) (oi := ⟨_, _, _, _, _, _⟩) (v := ?v3) rfl (by kernel_rfl) (by kernel_rfl) (by kernel_rfl) (fun _ _ _ h => h) (Or.inl ⟨by rfl, ?hy3⟩) h0 ?rest3
      case hy3 => (intro w hSw; (try dsimp only at hSw); go_simp; try with_reducible rfl)
      simp only [Act.put, List.setIfInBounds_toArray, List.set_cons_zero, List.set_cons_succ]
      refine wpAnyH_take (i := 3) (oi := ⟨_, _, _, _, _, _⟩) (v := ?v4) rfl (by kernel_rfl) (by kernel_rfl) (by kernel_rfl) (fun _ _ _ h => h) (Or.inl ⟨by rfl, ?hy4⟩) h0 ?rest4
      case hy4 => (intro w hSw; (try dsimp only at hSw); go_simp; try with_reducible rfl)
      simp only [Act.put, List.setIfInBounds_toArray, List.set_cons_zero, List.set_cons_succ]
      refine wpAnyH_take (i := 4) (oi := ⟨_, _, _, _, _, _⟩) (v := ?v5) rfl (by kernel_rfl) (by kernel_rfl) (by kernel_rfl) (fun _ _ _ h => h) (Or.inl ⟨by rfl, ?hy5⟩) h0 ?rest5
      case hy5 => (intro w hSw; (try dsimp only at hSw); go_simp; try with_reducible rfl)
      simp only [Act.put, List.setIfInBounds_toArray, List.set_cons_zero, List.set_cons_succ]
      refine wpAnyH_take (i := 5) (oi := ⟨_, _, _, _, _, _⟩) (v := ?v6) rfl (by kernel_rfl) (by kernel_rfl) (by kernel_rfl) (fun _ _ _ h => h) (Or.inl ⟨by rfl, ?hy6⟩) h0 ?rest6
      case hy6 => (intro w hSw; (try dsimp only at hSw); go_simp; try with_reducible rfl)
      simp only [Act.put, List.setIfInBounds_toArray, List.set_cons_zero, List.set_cons_succ]
      refine wpAnyH_take (i := 6) (oi := ⟨_, _, _, _, _, _⟩) (v := ?v7) rfl (by kernel_rfl) (by kernel_rfl) (by kernel_rfl) (fun _ _ _ h => h) (Or.inl ⟨by rfl, ?hy7⟩) h0 ?rest7
      case hy7 => (intro w hSw; (try dsimp only at hSw); go_simp; try with_reducible rfl)
      simp only [Act.put, List.setIfInBounds_toArray, List.set_cons_zero, List.set_cons_succ]
      refine wpAnyH_take (i := 7) (oi := ⟨_, _, _, _, _, _⟩) (v := ?v8) rfl (by kernel_rfl) (by kernel_rfl) (by kernel_rfl) (fun _ _ _ h => h) (Or.inl ⟨by rfl, ?hy8⟩) h0 ?rest8
      case hy8 => (intro w hSw; (try dsimp only at hSw); go_simp; try with_reducible rfl)
      simp only [Act.put, List.setIfInBounds_toArray, List.set_cons_zero, List.set_cons_succ]
      refine wpAnyH_ready (rs := [8, 12]) (by kernel_rfl) (by simp) ?_
      refine AllReadyH.cons (o := ⟨_, _, _, _, _, _⟩) rfl (fun K hK => ?_) (AllReadyH.cons (o := ⟨_, _, _, _, _, _⟩) rfl (fun K hK => ?_) AllReadyH.nil)
      · go_simp
        refine (hrec1 _ h0).mono ?_
        rintro e w3 ⟨rfl, hb3⟩
        rw [retO_some]
        have h3 : Below w2.heap.size w2 w3 := h0.trans (hb3.mono h0.size)
        refine hK.out _ _ h3 (fun hHeld => ?_)
        clear hK K hHeld
        try simp only [Act.put, List.setIfInBounds_toArray, List.set_cons_zero, List.set_cons_succ]
        refine wpAnyH_take (i := 9) (oi := ⟨_, _, _, _, _, _⟩) (v := ?v9) rfl (by kernel_rfl) (by kernel_rfl) (by kernel_rfl) (fun _ _ _ h => h) (Or.inl ⟨by rfl, ?hy9⟩) h3 ?rest9
        case hy9 => (intro w hSw; (try dsimp only at hSw); go_simp; try with_reducible rfl)
        simp only [Act.put, List.setIfInBounds_toArray, List.set_cons_zero, List.set_cons_succ]
        refine wpAnyH_take (i := 10) (oi := ⟨_, _, _, _, _, _⟩) (v := ?v10) rfl (by kernel_rfl) (by kernel_rfl) (by kernel_rfl) (fun _ _ _ h => h) (Or.inl ⟨by rfl, ?hy10⟩) h3 ?rest10
        case hy10 => (intro w hSw; (try dsimp only at hSw); go_simp; try with_reducible rfl)
        simp only [Act.put, List.setIfInBounds_toArray, List.set_cons_zero, List.set_cons_succ]
        refine wpAnyH_take (i := 11) (oi := ⟨_, _, _, _, _, _⟩) (v := ?v11) rfl (by kernel_rfl) (by kernel_rfl) (by kernel_rfl) (fun _ _ _ h => h) (Or.inl ⟨by rfl, ?hy11⟩) h3 ?rest11
        case hy11 => (intro w hSw; (try dsimp only at hSw); go_simp; try with_reducible rfl)
        simp only [Act.put, List.setIfInBounds_toArray, List.set_cons_zero, List.set_cons_succ]
        refine wpAnyH_ready (rs := [12]) (by kernel_rfl) (by simp) ?_
        refine AllReadyH.cons (o := ⟨_, _, _, _, _, _⟩) rfl (fun K hK => ?_) AllReadyH.nil
        go_simp
        have h4 : Below w2.heap.size w2 (w3.alloc (.cells #[.string ⟨#[]⟩, .int .i64 0] 34)) := h3.alloc h3.size _
        refine hK.out _ _ h4 (fun hHeld => ?_)
        clear hK K hHeld
        try simp only [Act.put, List.setIfInBounds_toArray, List.set_cons_zero, List.set_cons_succ]
        refine wpAnyH_ready (rs := [13]) (by kernel_rfl) (by simp) ?_
        refine AllReadyH.cons (o := ⟨_, _, _, _, _, _⟩) rfl (fun K hK => ?_) AllReadyH.nil
        go_simp
        have h5 : Below w2.heap.size w2 (w3.alloc (.cells #[.string xk, .int .i64 xi] 34)) := h3.alloc h3.size _
        refine hK.out _ _ h5 (fun hHeld => ?_)
        clear hK K hHeld
        try simp only [Act.put, List.setIfInBounds_toArray, List.set_cons_zero, List.set_cons_succ]
        refine wpAnyH_ready (rs := [14]) (by kernel_rfl) (by simp) ?_
        refine AllReadyH.cons (o := ⟨_, _, _, _, _, _⟩) rfl (fun K hK => ?_) AllReadyH.nil
        go_simp
        refine hK.out _ _ h5 (fun hHeld => ?_)
        clear hK K hHeld
        try simp only [Act.put, List.setIfInBounds_toArray, List.set_cons_zero, List.set_cons_succ]
        obtain ⟨wF, hwF⟩ : ∃ wF, w3.alloc (.cells #[.string xk, .int .i64 xi] 34) = wF := ⟨_, rfl⟩
        have rN : wF.heap[w3.heap.size]? = some (.cells #[.string xk, .int .i64 xi] 34) := by rw [← hwF]; exact heap_alloc_new _ _
        rw [hwF] at h5
        obtain ⟨f0, f1, -, -⟩ := row2_of rN
        have hr5 := (h5.block (w.heap.size + 1) hel).trans hr1
        refine wpAnyH_done (by kernel_rfl) ?_ _
        obtain ⟨e0, e1, ef, hel5⟩ := row2_of hr5
        have hbF := hb.trans (h5.mono hb.size)
        clear rN hr5 h5 hr1 P0 P1 P2 P3 h0 h4 h3 hlf1 hrec1
        go_wp2
        rw [retO_some]
        refine bodyPost_ret (v := .tuple #[.agg #[.string xk, .int .i64 xi], .bool true]) (by simp [results, Try.results69, go_sem, e0, e1]) rfl ⟨rfl, ?_⟩
        exact (hbF.setCell (Nat.le_succ _) _).setCell (Nat.le_succ _) _
      · go_simp
        have h4 : Below w2.heap.size w2 (w2.alloc (.cells #[.string ⟨#[]⟩, .int .i64 0] 34)).drew := ((Below.refl _ _).alloc (Nat.le_refl _) _).drew
        refine hK.out _ _ h4 (fun hHeld => ?_)
        clear hK K hHeld
        try simp only [Act.put, List.setIfInBounds_toArray, List.set_cons_zero, List.set_cons_succ]
        have rA : (w2.alloc (.cells #[.string ⟨#[]⟩, .int .i64 0] 34)).drew.heap[w2.heap.size]? = some (.cells #[.string ⟨#[]⟩, .int .i64 0] 34) := heap_alloc_new w2 _
        refine wpAnyH_ready (rs := [8]) (by kernel_rfl) (by simp) ?_
        refine AllReadyH.cons (o := ⟨_, _, _, _, _, _⟩) rfl (fun K hK => ?_) AllReadyH.nil
        go_simp
        refine (hrec1 _ h4).mono ?_
        rintro e w3 ⟨rfl, hb3⟩
        rw [retO_some]
        have h3 : Below w2.heap.size w2 w3 := h4.trans (hb3.mono h4.size)
        refine hK.out _ _ h3 (fun hHeld => ?_)
        clear hK K hHeld
        try simp only [Act.put, List.setIfInBounds_toArray, List.set_cons_zero, List.set_cons_succ]
        refine wpAnyH_take (i := 9) (oi := ⟨_, _, _, _, _, _⟩) (v := ?v12) rfl (by kernel_rfl) (by kernel_rfl) (by kernel_rfl) (fun _ _ _ h => h) (Or.inl ⟨by rfl, ?hy12⟩) h3 ?rest12
        case hy12 => (intro w hSw; (try dsimp only at hSw); go_simp; try with_reducible rfl)
        simp only [Act.put, List.setIfInBounds_toArray, List.set_cons_zero, List.set_cons_succ]
        refine wpAnyH_take (i := 10) (oi := ⟨_, _, _, _, _, _⟩) (v := ?v13) rfl (by kernel_rfl) (by kernel_rfl) (by kernel_rfl) (fun _ _ _ h => h) (Or.inl ⟨by rfl, ?hy13⟩) h3 ?rest13
        case hy13 => (intro w hSw; (try dsimp only at hSw); go_simp; try with_reducible rfl)
        simp only [Act.put, List.setIfInBounds_toArray, List.set_cons_zero, List.set_cons_succ]
        refine wpAnyH_take (i := 11) (oi := ⟨_, _, _, _, _, _⟩) (v := ?v14) rfl (by kernel_rfl) (by kernel_rfl) (by kernel_rfl) (fun _ _ _ h => h) (Or.inl ⟨by rfl, ?hy14⟩) h3 ?rest14
        case hy14 => (intro w hSw; (try dsimp only at hSw); go_simp; try with_reducible rfl)
        simp only [Act.put, List.setIfInBounds_toArray, List.set_cons_zero, List.set_cons_succ]
        have rB := (hb3.block w2.heap.size (by simp)).trans rA
        obtain ⟨b0, b1, bf, hbl⟩ := row2_of rB
        clear rA hb3
        refine wpAnyH_ready (rs := [13]) (by kernel_rfl) (by simp) ?_
        refine AllReadyH.cons (o := ⟨_, _, _, _, _, _⟩) rfl (fun K hK => ?_) AllReadyH.nil
        go_simp
        have h5 : Below w2.heap.size w2 ((w3.setCell ⟨w2.heap.size, 0, none⟩ (.string xk)).setCell ⟨w2.heap.size, 1, none⟩ (.int .i64 xi)) := (h3.setCell (Nat.le_refl _) _).setCell (Nat.le_refl _) _
        refine hK.out _ _ h5 (fun hHeld => ?_)
        clear hK K hHeld
        try simp only [Act.put, List.setIfInBounds_toArray, List.set_cons_zero, List.set_cons_succ]
        refine wpAnyH_ready (rs := [14]) (by kernel_rfl) (by simp) ?_
        refine AllReadyH.cons (o := ⟨_, _, _, _, _, _⟩) rfl (fun K hK => ?_) AllReadyH.nil
        go_simp
        refine hK.out _ _ h5 (fun hHeld => ?_)
        clear hK K hHeld
        try simp only [Act.put, List.setIfInBounds_toArray, List.set_cons_zero, List.set_cons_succ]
        obtain ⟨wF, hwF⟩ : ∃ wF, (w3.setCell ⟨w2.heap.size, 0, none⟩ (.string xk)).setCell ⟨w2.heap.size, 1, none⟩ (.int .i64 xi) = wF := ⟨_, rfl⟩
        have rN : wF.heap[w2.heap.size]? = some (.cells #[.string xk, .int .i64 xi] 34) := by
          rw [← hwF, heap_setCell_at (heap_setCell_at rB)]; rfl
        rw [hwF] at h5
        obtain ⟨f0, f1, -, -⟩ := row2_of rN
        have hr5 := (h5.block (w.heap.size + 1) hel).trans hr1
        refine wpAnyH_done (by kernel_rfl) ?_ _
        obtain ⟨e0, e1, ef, hel5⟩ := row2_of hr5
        have hbF := hb.trans (h5.mono hb.size)
        clear rN hr5 h5 hr1 P0 P1 P2 P3 h0 h4 h3 hlf1 hrec1
        go_wp2
        rw [retO_some]
        refine bodyPost_ret (v := .tuple #[.agg #[.string xk, .int .i64 xi], .bool true]) (by simp [results, Try.results69, go_sem, e0, e1]) rfl ⟨rfl, ?_⟩
        exact (hbF.setCell (Nat.le_succ _) _).setCell (Nat.le_succ _) _
    | none =>
      cases q with
      | zero =>
        show Calls _ _ _ _ fun r w' => r = .returned (retO none) ∧ _
        clear h hs hw hL0 ih hes hk hkm hkw hks hnz hq ho hle
        go_enter Try.func69, Try.ntmps69
        go_wp2_with fail
        refine hpl.mono ?_
        rintro e w1 ⟨rfl, hb1⟩
        have hlf1 := hlf w1 hb1
        have hrec1 := fun W (hW : Below w1.heap.size w1 W) => hrec W (hb1.trans (hW.mono hb1.size))
        have hr1 := (hb1.block (w.heap.size + 1) (by omega)).trans r0
        have hel := lt_of_heap hr1
        have d1 := (hb1.cell (lt_of_cell c1)).trans c1
        have dk := (hb1.cell (lt_of_cell ck)).trans ck
        have m0 := (hb1.cell (lt_of_cell k0)).trans k0
        have m1 := (hb1.cell (lt_of_cell k1)).trans k1
        have hb := hwW.trans (hb1.mono hwW.size)
        clear hpl hlf hrec hb1 hwW hs0 hW0 c1 ck k0 k1 r0
        go_wp2_with fail
        refine hlf1.mono ?_
        rintro e w2 ⟨rfl, rfl⟩
        go_wp2_with fail
        have P0 := fun (w' : World) (h : Below w2.heap.size w2 w') => (h.cell (lt_of_cell d1)).trans d1
        have P1 := fun (w' : World) (h : Below w2.heap.size w2 w') => (h.cell (lt_of_cell dk)).trans dk
        have P2 := fun (w' : World) (h : Below w2.heap.size w2 w') => (h.cell (lt_of_cell m0)).trans m0
        have P3 := fun (w' : World) (h : Below w2.heap.size w2 w') => (h.cell (lt_of_cell m1)).trans m1
        clear d1 dk m0 m1
        have h0 : (fun w' : World => Below w2.heap.size w2 w') w2.drew := (Below.refl _ _).drew
        refine wp_region_held (S := fun w' => Below w2.heap.size w2 w') mixed ?_
        refine wpAnyH_take (i := 0) (oi := ⟨_, _, _, _, _, _⟩) (v := ?v15) rfl (by kernel_rfl) (by kernel_rfl) (by kernel_rfl) (fun _ _ _ h => h) (Or.inl ⟨by rfl, ?hy15⟩) h0 ?rest15
        case hy15 => (intro w hSw; (try dsimp only at hSw); go_simp; try with_reducible rfl)
        simp only [Act.put, List.setIfInBounds_toArray, List.set_cons_zero, List.set_cons_succ]
        refine wpAnyH_take (i := 1) (oi := ⟨_, _, _, _, _, _⟩) (v := ?v16) rfl (by kernel_rfl) (by kernel_rfl) (by kernel_rfl) (fun _ _ _ h => h) (Or.inl ⟨by rfl, ?hy16⟩) h0 ?rest16
        case hy16 => (intro w hSw; (try dsimp only at hSw); go_simp; try with_reducible rfl)
        simp only [Act.put, List.setIfInBounds_toArray, List.set_cons_zero, List.set_cons_succ]
        refine wpAnyH_take (i := 2) (oi := ⟨_, _, _, _, _, _⟩) (v := ?v17) rfl (by kernel_rfl) (by kernel_rfl) (by kernel_rfl) (fun _ _ _ h => h) (Or.inl ⟨by rfl, ?hy17⟩) h0 ?rest17
        case hy17 => (intro w hSw; (try dsimp only at hSw); go_simp; try with_reducible rfl)
        simp only [Act.put, List.setIfInBounds_toArray, List.set_cons_zero, List.set_cons_succ]
        refine wpAnyH_take (i := 3) (oi := ⟨_, _, _, _, _, _⟩) (v := ?v18) rfl (by kernel_rfl) (by kernel_rfl) (by kernel_rfl) (fun _ _ _ h => h) (Or.inl ⟨by rfl, ?hy18⟩) h0 ?rest18
        case hy18 => (intro w hSw; (try dsimp only at hSw); go_simp; try with_reducible rfl)
        simp only [Act.put, List.setIfInBounds_toArray, List.set_cons_zero, List.set_cons_succ]
        refine wpAnyH_take (i := 4) (oi := ⟨_, _, _, _, _, _⟩) (v := ?v19) rfl (by kernel_rfl) (by kernel_rfl) (by kernel_rfl) (fun _ _ _ h => h) (Or.inl ⟨by rfl, ?hy19⟩) h0 ?rest19
        case hy19 => (intro w hSw; (try dsimp only at hSw); go_simp; try with_reducible rfl)
        simp only [Act.put, List.setIfInBounds_toArray, List.set_cons_zero, List.set_cons_succ]
        refine wpAnyH_take (i := 5) (oi := ⟨_, _, _, _, _, _⟩) (v := ?v20) rfl (by kernel_rfl) (by kernel_rfl) (by kernel_rfl) (fun _ _ _ h => h) (Or.inl ⟨by rfl, ?hy20⟩) h0 ?rest20
        case hy20 => (intro w hSw; (try dsimp only at hSw); go_simp; try with_reducible rfl)
        simp only [Act.put, List.setIfInBounds_toArray, List.set_cons_zero, List.set_cons_succ]
        refine wpAnyH_take (i := 6) (oi := ⟨_, _, _, _, _, _⟩) (v := ?v21) rfl (by kernel_rfl) (by kernel_rfl) (by kernel_rfl) (fun _ _ _ h => h) (Or.inl ⟨by rfl, ?hy21⟩) h0 ?rest21
        case hy21 => (intro w hSw; (try dsimp only at hSw); go_simp; try with_reducible rfl)
        simp only [Act.put, List.setIfInBounds_toArray, List.set_cons_zero, List.set_cons_succ]
        refine wpAnyH_take (i := 7) (oi := ⟨_, _, _, _, _, _⟩) (v := ?v22) rfl (by kernel_rfl) (by kernel_rfl) (by kernel_rfl) (fun _ _ _ h => h) (Or.inl ⟨by rfl, ?hy22⟩) h0 ?rest22
        case hy22 => (intro w hSw; (try dsimp only at hSw); go_simp; try with_reducible rfl)
        simp only [Act.put, List.setIfInBounds_toArray, List.set_cons_zero, List.set_cons_succ]
        refine wpAnyH_ready (rs := [8, 12]) (by kernel_rfl) (by simp) ?_
        refine AllReadyH.cons (o := ⟨_, _, _, _, _, _⟩) rfl (fun K hK => ?_) (AllReadyH.cons (o := ⟨_, _, _, _, _, _⟩) rfl (fun K hK => ?_) AllReadyH.nil)
        · go_simp
          refine (hrec1 _ h0).mono ?_
          rintro e w3 ⟨rfl, hb3⟩
          rw [retO_none]
          have h3 : Below w2.heap.size w2 w3 := h0.trans (hb3.mono h0.size)
          refine hK.out _ _ h3 (fun hHeld => ?_)
          clear hK K hHeld
          try simp only [Act.put, List.setIfInBounds_toArray, List.set_cons_zero, List.set_cons_succ]
          refine wpAnyH_take (i := 9) (oi := ⟨_, _, _, _, _, _⟩) (v := ?v23) rfl (by kernel_rfl) (by kernel_rfl) (by kernel_rfl) (fun _ _ _ h => h) (Or.inl ⟨by rfl, ?hy23⟩) h3 ?rest23
          case hy23 => (intro w hSw; (try dsimp only at hSw); go_simp; try with_reducible rfl)
          simp only [Act.put, List.setIfInBounds_toArray, List.set_cons_zero, List.set_cons_succ]
          refine wpAnyH_take (i := 10) (oi := ⟨_, _, _, _, _, _⟩) (v := ?v24) rfl (by kernel_rfl) (by kernel_rfl) (by kernel_rfl) (fun _ _ _ h => h) (Or.inl ⟨by rfl, ?hy24⟩) h3 ?rest24
          case hy24 => (intro w hSw; (try dsimp only at hSw); go_simp; try with_reducible rfl)
          simp only [Act.put, List.setIfInBounds_toArray, List.set_cons_zero, List.set_cons_succ]
          refine wpAnyH_take (i := 11) (oi := ⟨_, _, _, _, _, _⟩) (v := ?v25) rfl (by kernel_rfl) (by kernel_rfl) (by kernel_rfl) (fun _ _ _ h => h) (Or.inl ⟨by rfl, ?hy25⟩) h3 ?rest25
          case hy25 => (intro w hSw; (try dsimp only at hSw); go_simp; try with_reducible rfl)
          simp only [Act.put, List.setIfInBounds_toArray, List.set_cons_zero, List.set_cons_succ]
          refine wpAnyH_ready (rs := [12]) (by kernel_rfl) (by simp) ?_
          refine AllReadyH.cons (o := ⟨_, _, _, _, _, _⟩) rfl (fun K hK => ?_) AllReadyH.nil
          go_simp
          have h4 : Below w2.heap.size w2 (w3.alloc (.cells #[.string ⟨#[]⟩, .int .i64 0] 34)) := h3.alloc h3.size _
          refine hK.out _ _ h4 (fun hHeld => ?_)
          clear hK K hHeld
          try simp only [Act.put, List.setIfInBounds_toArray, List.set_cons_zero, List.set_cons_succ]
          refine wpAnyH_ready (rs := [13]) (by kernel_rfl) (by simp) ?_
          refine AllReadyH.cons (o := ⟨_, _, _, _, _, _⟩) rfl (fun K hK => ?_) AllReadyH.nil
          go_simp
          have h5 : Below w2.heap.size w2 (w3.alloc (.cells #[.string ⟨#[]⟩, .int .i64 0] 34)) := h3.alloc h3.size _
          refine hK.out _ _ h5 (fun hHeld => ?_)
          clear hK K hHeld
          try simp only [Act.put, List.setIfInBounds_toArray, List.set_cons_zero, List.set_cons_succ]
          refine wpAnyH_ready (rs := [14]) (by kernel_rfl) (by simp) ?_
          refine AllReadyH.cons (o := ⟨_, _, _, _, _, _⟩) rfl (fun K hK => ?_) AllReadyH.nil
          go_simp
          refine hK.out _ _ h5 (fun hHeld => ?_)
          clear hK K hHeld
          try simp only [Act.put, List.setIfInBounds_toArray, List.set_cons_zero, List.set_cons_succ]
          obtain ⟨wF, hwF⟩ : ∃ wF, w3.alloc (.cells #[.string ⟨#[]⟩, .int .i64 0] 34) = wF := ⟨_, rfl⟩
          have rN : wF.heap[w3.heap.size]? = some (.cells #[.string ⟨#[]⟩, .int .i64 0] 34) := by rw [← hwF]; exact heap_alloc_new _ _
          rw [hwF] at h5
          obtain ⟨f0, f1, -, -⟩ := row2_of rN
          have hr5 := (h5.block (w.heap.size + 1) hel).trans hr1
          refine wpAnyH_done (by kernel_rfl) ?_ _
          obtain ⟨e0, e1, ef, hel5⟩ := row2_of hr5
          have hbF := hb.trans (h5.mono hb.size)
          clear rN hr5 h5 hr1 P0 P1 P2 P3 h0 h4 h3 hlf1 hrec1
          go_wp2
          rw [retO_none]
          refine bodyPost_ret (v := .tuple #[.agg #[.string ⟨#[]⟩, .int .i64 0], .bool false]) (by simp [results, Try.results69, go_sem, e0, e1]) rfl ⟨rfl, ?_⟩
          exact (hbF.setCell (Nat.le_succ _) _).setCell (Nat.le_succ _) _
        · go_simp
          have h4 : Below w2.heap.size w2 (w2.alloc (.cells #[.string ⟨#[]⟩, .int .i64 0] 34)).drew := ((Below.refl _ _).alloc (Nat.le_refl _) _).drew
          refine hK.out _ _ h4 (fun hHeld => ?_)
          clear hK K hHeld
          try simp only [Act.put, List.setIfInBounds_toArray, List.set_cons_zero, List.set_cons_succ]
          have rA : (w2.alloc (.cells #[.string ⟨#[]⟩, .int .i64 0] 34)).drew.heap[w2.heap.size]? = some (.cells #[.string ⟨#[]⟩, .int .i64 0] 34) := heap_alloc_new w2 _
          refine wpAnyH_ready (rs := [8]) (by kernel_rfl) (by simp) ?_
          refine AllReadyH.cons (o := ⟨_, _, _, _, _, _⟩) rfl (fun K hK => ?_) AllReadyH.nil
          go_simp
          refine (hrec1 _ h4).mono ?_
          rintro e w3 ⟨rfl, hb3⟩
          rw [retO_none]
          have h3 : Below w2.heap.size w2 w3 := h4.trans (hb3.mono h4.size)
          refine hK.out _ _ h3 (fun hHeld => ?_)
          clear hK K hHeld
          try simp only [Act.put, List.setIfInBounds_toArray, List.set_cons_zero, List.set_cons_succ]
          refine wpAnyH_take (i := 9) (oi := ⟨_, _, _, _, _, _⟩) (v := ?v26) rfl (by kernel_rfl) (by kernel_rfl) (by kernel_rfl) (fun _ _ _ h => h) (Or.inl ⟨by rfl, ?hy26⟩) h3 ?rest26
          case hy26 => (intro w hSw; (try dsimp only at hSw); go_simp; try with_reducible rfl)
          simp only [Act.put, List.setIfInBounds_toArray, List.set_cons_zero, List.set_cons_succ]
          refine wpAnyH_take (i := 10) (oi := ⟨_, _, _, _, _, _⟩) (v := ?v27) rfl (by kernel_rfl) (by kernel_rfl) (by kernel_rfl) (fun _ _ _ h => h) (Or.inl ⟨by rfl, ?hy27⟩) h3 ?rest27
          case hy27 => (intro w hSw; (try dsimp only at hSw); go_simp; try with_reducible rfl)
          simp only [Act.put, List.setIfInBounds_toArray, List.set_cons_zero, List.set_cons_succ]
          refine wpAnyH_take (i := 11) (oi := ⟨_, _, _, _, _, _⟩) (v := ?v28) rfl (by kernel_rfl) (by kernel_rfl) (by kernel_rfl) (fun _ _ _ h => h) (Or.inl ⟨by rfl, ?hy28⟩) h3 ?rest28
          case hy28 => (intro w hSw; (try dsimp only at hSw); go_simp; try with_reducible rfl)
          simp only [Act.put, List.setIfInBounds_toArray, List.set_cons_zero, List.set_cons_succ]
          have rB := (hb3.block w2.heap.size (by simp)).trans rA
          obtain ⟨b0, b1, bf, hbl⟩ := row2_of rB
          clear rA hb3
          refine wpAnyH_ready (rs := [13]) (by kernel_rfl) (by simp) ?_
          refine AllReadyH.cons (o := ⟨_, _, _, _, _, _⟩) rfl (fun K hK => ?_) AllReadyH.nil
          go_simp
          have h5 : Below w2.heap.size w2 ((w3.setCell ⟨w2.heap.size, 0, none⟩ (.string ⟨#[]⟩)).setCell ⟨w2.heap.size, 1, none⟩ (.int .i64 0)) := (h3.setCell (Nat.le_refl _) _).setCell (Nat.le_refl _) _
          refine hK.out _ _ h5 (fun hHeld => ?_)
          clear hK K hHeld
          try simp only [Act.put, List.setIfInBounds_toArray, List.set_cons_zero, List.set_cons_succ]
          refine wpAnyH_ready (rs := [14]) (by kernel_rfl) (by simp) ?_
          refine AllReadyH.cons (o := ⟨_, _, _, _, _, _⟩) rfl (fun K hK => ?_) AllReadyH.nil
          go_simp
          refine hK.out _ _ h5 (fun hHeld => ?_)
          clear hK K hHeld
          try simp only [Act.put, List.setIfInBounds_toArray, List.set_cons_zero, List.set_cons_succ]
          obtain ⟨wF, hwF⟩ : ∃ wF, (w3.setCell ⟨w2.heap.size, 0, none⟩ (.string ⟨#[]⟩)).setCell ⟨w2.heap.size, 1, none⟩ (.int .i64 0) = wF := ⟨_, rfl⟩
          have rN : wF.heap[w2.heap.size]? = some (.cells #[.string ⟨#[]⟩, .int .i64 0] 34) := by
            rw [← hwF, heap_setCell_at (heap_setCell_at rB)]; rfl
          rw [hwF] at h5
          obtain ⟨f0, f1, -, -⟩ := row2_of rN
          have hr5 := (h5.block (w.heap.size + 1) hel).trans hr1
          refine wpAnyH_done (by kernel_rfl) ?_ _
          obtain ⟨e0, e1, ef, hel5⟩ := row2_of hr5
          have hbF := hb.trans (h5.mono hb.size)
          clear rN hr5 h5 hr1 P0 P1 P2 P3 h0 h4 h3 hlf1 hrec1
          go_wp2
          rw [retO_none]
          refine bodyPost_ret (v := .tuple #[.agg #[.string ⟨#[]⟩, .int .i64 0], .bool false]) (by simp [results, Try.results69, go_sem, e0, e1]) rfl ⟨rfl, ?_⟩
          exact (hbF.setCell (Nat.le_succ _) _).setCell (Nat.le_succ _) _
      | succ j =>
        obtain ⟨x, hx⟩ : ∃ x, t.es[j]? = some x := ⟨_, List.getElem?_eq_getElem (by omega)⟩
        obtain ⟨C, d, -, hd1, hd2, c0, ce, ci, -⟩ := hL0.sh.entryv hx
        obtain ⟨xk, xi⟩ := x
        have e1 : (none : Option En).or (if j + 1 = 0 then none else t.es[j + 1 - 1]?) = some (xk, xi) := by rw [if_neg (by omega), Option.none_or]; exact hx
        rw [e1]
        have hul2 := (List.getElem?_eq_some_iff.1 hx).1
        have zj : wrap64 (j : Int) = (j : Int) := by unfold wrap64; omega
        have zjl : (j : Int) < (t.es.length : Int) := by omega
        have zj1 : (j : Int) + 1 < (m : Int) := by omega
        have zj2 : (0 : Int) ≤ (j : Int) + 1 := by omega
        generalize t.es.length = l at *
        clear h hs hw hL0 ih hes hk hkm hkw hks hnz hq ho hle hx e1
        go_enter Try.func69, Try.ntmps69
        go_wp2_with fail
        refine hpl.mono ?_
        rintro e w1 ⟨rfl, hb1⟩
        have hlf1 := hlf w1 hb1
        have hrec1 := fun W (hW : Below w1.heap.size w1 W) => hrec W (hb1.trans (hW.mono hb1.size))
        have hr1 := (hb1.block (w.heap.size + 1) (by omega)).trans r0
        have hel := lt_of_heap hr1
        have d1 := (hb1.cell (lt_of_cell c1)).trans c1
        have dk := (hb1.cell (lt_of_cell ck)).trans ck
        have m0 := (hb1.cell (lt_of_cell k0)).trans k0
        have m1 := (hb1.cell (lt_of_cell k1)).trans k1
        have d0 := (hb1.cell (lt_of_cell c0)).trans c0
        have de := (hb1.cell (lt_of_cell ce)).trans ce
        have di := (hb1.cell (lt_of_cell ci)).trans ci
        have hb := hwW.trans (hb1.mono hwW.size)
        clear hpl hlf hrec hb1 hwW hs0 hW0 c1 ck k0 k1 r0 c0 ce ci
        go_wp2_with fail
        refine hlf1.mono ?_
        rintro e w2 ⟨rfl, rfl⟩
        go_wp2_with fail
        have P0 := fun (w' : World) (h : Below w2.heap.size w2 w') => (h.cell (lt_of_cell d1)).trans d1
        have P1 := fun (w' : World) (h : Below w2.heap.size w2 w') => (h.cell (lt_of_cell dk)).trans dk
        have P2 := fun (w' : World) (h : Below w2.heap.size w2 w') => (h.cell (lt_of_cell m0)).trans m0
        have P3 := fun (w' : World) (h : Below w2.heap.size w2 w') => (h.cell (lt_of_cell m1)).trans m1
        clear d1 dk m0 m1
        have h0 : (fun w' : World => Below w2.heap.size w2 w') w2.drew := (Below.refl _ _).drew
        refine wp_region_held (S := fun w' => Below w2.heap.size w2 w') mixed ?_
        refine wpAnyH_take (i := 0) (oi := ⟨_, _, _, _, _, _⟩) (v := ?v29) rfl (by kernel_rfl) (by kernel_rfl) (by kernel_rfl) (fun _ _ _ h => h) (Or.inl ⟨by rfl, ?hy29⟩) h0 ?rest29
        case hy29 => (intro w hSw; (try dsimp only at hSw); go_simp; try with_reducible rfl)
        simp only [Act.put, List.setIfInBounds_toArray, List.set_cons_zero, List.set_cons_succ]
        refine wpAnyH_take (i := 1) (oi := ⟨_, _, _, _, _, _⟩) (v := ?v30) rfl (by kernel_rfl) (by kernel_rfl) (by kernel_rfl) (fun _ _ _ h => h) (Or.inl ⟨by rfl, ?hy30⟩) h0 ?rest30
        case hy30 => (intro w hSw; (try dsimp only at hSw); go_simp; try with_reducible rfl)
        simp only [Act.put, List.setIfInBounds_toArray, List.set_cons_zero, List.set_cons_succ]
        refine wpAnyH_take (i := 2) (oi := ⟨_, _, _, _, _, _⟩) (v := ?v31) rfl (by kernel_rfl) (by kernel_rfl) (by kernel_rfl) (fun _ _ _ h => h) (Or.inl ⟨by rfl, ?hy31⟩) h0 ?rest31
        case hy31 => (intro w hSw; (try dsimp only at hSw); go_simp; try with_reducible rfl)
        simp only [Act.put, List.setIfInBounds_toArray, List.set_cons_zero, List.set_cons_succ]
        refine wpAnyH_take (i := 3) (oi := ⟨_, _, _, _, _, _⟩) (v := ?v32) rfl (by kernel_rfl) (by kernel_rfl) (by kernel_rfl) (fun _ _ _ h => h) (Or.inl ⟨by rfl, ?hy32⟩) h0 ?rest32
        case hy32 => (intro w hSw; (try dsimp only at hSw); go_simp; try with_reducible rfl)
        simp only [Act.put, List.setIfInBounds_toArray, List.set_cons_zero, List.set_cons_succ]
        refine wpAnyH_take (i := 4) (oi := ⟨_, _, _, _, _, _⟩) (v := ?v33) rfl (by kernel_rfl) (by kernel_rfl) (by kernel_rfl) (fun _ _ _ h => h) (Or.inl ⟨by rfl, ?hy33⟩) h0 ?rest33
        case hy33 => (intro w hSw; (try dsimp only at hSw); go_simp; try with_reducible rfl)
        simp only [Act.put, List.setIfInBounds_toArray, List.set_cons_zero, List.set_cons_succ]
        refine wpAnyH_take (i := 5) (oi := ⟨_, _, _, _, _, _⟩) (v := ?v34) rfl (by kernel_rfl) (by kernel_rfl) (by kernel_rfl) (fun _ _ _ h => h) (Or.inl ⟨by rfl, ?hy34⟩) h0 ?rest34
        case hy34 => (intro w hSw; (try dsimp only at hSw); go_simp; try with_reducible rfl)
        simp only [Act.put, List.setIfInBounds_toArray, List.set_cons_zero, List.set_cons_succ]
        refine wpAnyH_take (i := 6) (oi := ⟨_, _, _, _, _, _⟩) (v := ?v35) rfl (by kernel_rfl) (by kernel_rfl) (by kernel_rfl) (fun _ _ _ h => h) (Or.inl ⟨by rfl, ?hy35⟩) h0 ?rest35
        case hy35 => (intro w hSw; (try dsimp only at hSw); go_simp; try with_reducible rfl)
        simp only [Act.put, List.setIfInBounds_toArray, List.set_cons_zero, List.set_cons_succ]
        refine wpAnyH_take (i := 7) (oi := ⟨_, _, _, _, _, _⟩) (v := ?v36) rfl (by kernel_rfl) (by kernel_rfl) (by kernel_rfl) (fun _ _ _ h => h) (Or.inl ⟨by rfl, ?hy36⟩) h0 ?rest36
        case hy36 => (intro w hSw; (try dsimp only at hSw); go_simp; try with_reducible rfl)
        simp only [Act.put, List.setIfInBounds_toArray, List.set_cons_zero, List.set_cons_succ]
        refine wpAnyH_ready (rs := [8, 12]) (by kernel_rfl) (by simp) ?_
        refine AllReadyH.cons (o := ⟨_, _, _, _, _, _⟩) rfl (fun K hK => ?_) (AllReadyH.cons (o := ⟨_, _, _, _, _, _⟩) rfl (fun K hK => ?_) AllReadyH.nil)
        · go_simp
          refine (hrec1 _ h0).mono ?_
          rintro e w3 ⟨rfl, hb3⟩
          rw [retO_none]
          have h3 : Below w2.heap.size w2 w3 := h0.trans (hb3.mono h0.size)
          refine hK.out _ _ h3 (fun hHeld => ?_)
          clear hK K hHeld
          try simp only [Act.put, List.setIfInBounds_toArray, List.set_cons_zero, List.set_cons_succ]
          refine wpAnyH_take (i := 9) (oi := ⟨_, _, _, _, _, _⟩) (v := ?v37) rfl (by kernel_rfl) (by kernel_rfl) (by kernel_rfl) (fun _ _ _ h => h) (Or.inl ⟨by rfl, ?hy37⟩) h3 ?rest37
          case hy37 => (intro w hSw; (try dsimp only at hSw); go_simp; try with_reducible rfl)
          simp only [Act.put, List.setIfInBounds_toArray, List.set_cons_zero, List.set_cons_succ]
          refine wpAnyH_take (i := 10) (oi := ⟨_, _, _, _, _, _⟩) (v := ?v38) rfl (by kernel_rfl) (by kernel_rfl) (by kernel_rfl) (fun _ _ _ h => h) (Or.inl ⟨by rfl, ?hy38⟩) h3 ?rest38
          case hy38 => (intro w hSw; (try dsimp only at hSw); go_simp; try with_reducible rfl)
          simp only [Act.put, List.setIfInBounds_toArray, List.set_cons_zero, List.set_cons_succ]
          refine wpAnyH_take (i := 11) (oi := ⟨_, _, _, _, _, _⟩) (v := ?v39) rfl (by kernel_rfl) (by kernel_rfl) (by kernel_rfl) (fun _ _ _ h => h) (Or.inl ⟨by rfl, ?hy39⟩) h3 ?rest39
          case hy39 => (intro w hSw; (try dsimp only at hSw); go_simp; try with_reducible rfl)
          simp only [Act.put, List.setIfInBounds_toArray, List.set_cons_zero, List.set_cons_succ]
          refine wpAnyH_ready (rs := [12]) (by kernel_rfl) (by simp) ?_
          refine AllReadyH.cons (o := ⟨_, _, _, _, _, _⟩) rfl (fun K hK => ?_) AllReadyH.nil
          go_simp
          have h4 : Below w2.heap.size w2 (w3.alloc (.cells #[.string ⟨#[]⟩, .int .i64 0] 34)) := h3.alloc h3.size _
          refine hK.out _ _ h4 (fun hHeld => ?_)
          clear hK K hHeld
          try simp only [Act.put, List.setIfInBounds_toArray, List.set_cons_zero, List.set_cons_succ]
          refine wpAnyH_ready (rs := [13]) (by kernel_rfl) (by simp) ?_
          refine AllReadyH.cons (o := ⟨_, _, _, _, _, _⟩) rfl (fun K hK => ?_) AllReadyH.nil
          go_simp
          have h5 : Below w2.heap.size w2 (w3.alloc (.cells #[.string ⟨#[]⟩, .int .i64 0] 34)) := h3.alloc h3.size _
          refine hK.out _ _ h5 (fun hHeld => ?_)
          clear hK K hHeld
          try simp only [Act.put, List.setIfInBounds_toArray, List.set_cons_zero, List.set_cons_succ]
          refine wpAnyH_ready (rs := [14]) (by kernel_rfl) (by simp) ?_
          refine AllReadyH.cons (o := ⟨_, _, _, _, _, _⟩) rfl (fun K hK => ?_) AllReadyH.nil
          go_simp
          refine hK.out _ _ h5 (fun hHeld => ?_)
          clear hK K hHeld
          try simp only [Act.put, List.setIfInBounds_toArray, List.set_cons_zero, List.set_cons_succ]
          obtain ⟨wF, hwF⟩ : ∃ wF, w3.alloc (.cells #[.string ⟨#[]⟩, .int .i64 0] 34) = wF := ⟨_, rfl⟩
          have rN : wF.heap[w3.heap.size]? = some (.cells #[.string ⟨#[]⟩, .int .i64 0] 34) := by rw [← hwF]; exact heap_alloc_new _ _
          rw [hwF] at h5
          obtain ⟨f0, f1, -, -⟩ := row2_of rN
          have hr5 := (h5.block (w.heap.size + 1) hel).trans hr1
          refine wpAnyH_done (by kernel_rfl) ?_ _
          obtain ⟨e0, e1, ef, hel5⟩ := row2_of hr5
          have hbF := hb.trans (h5.mono hb.size)
          have g0 := (h5.cell (lt_of_cell d0)).trans d0
          have ge := (h5.cell (lt_of_cell de)).trans de
          have gi := (h5.cell (lt_of_cell di)).trans di
          clear rN hr5 h5 hr1 P0 P1 P2 P3 h0 h4 h3 hlf1 hrec1 d0 de di
          go_wp2
          rw [retO_some]
          refine bodyPost_ret (v := .tuple #[.agg #[.string xk, .int .i64 xi], .bool true]) (by simp [results, Try.results69, go_sem, e0, e1]) rfl ⟨rfl, ?_⟩
          exact (hbF.setCell (Nat.le_succ _) _).setCell (Nat.le_succ _) _
        · go_simp
          have h4 : Below w2.heap.size w2 (w2.alloc (.cells #[.string ⟨#[]⟩, .int .i64 0] 34)).drew := ((Below.refl _ _).alloc (Nat.le_refl _) _).drew
          refine hK.out _ _ h4 (fun hHeld => ?_)
          clear hK K hHeld
          try simp only [Act.put, List.setIfInBounds_toArray, List.set_cons_zero, List.set_cons_succ]
          have rA : (w2.alloc (.cells #[.string ⟨#[]⟩, .int .i64 0] 34)).drew.heap[w2.heap.size]? = some (.cells #[.string ⟨#[]⟩, .int .i64 0] 34) := heap_alloc_new w2 _
          refine wpAnyH_ready (rs := [8]) (by kernel_rfl) (by simp) ?_
          refine AllReadyH.cons (o := ⟨_, _, _, _, _, _⟩) rfl (fun K hK => ?_) AllReadyH.nil
          go_simp
          refine (hrec1 _ h4).mono ?_
          rintro e w3 ⟨rfl, hb3⟩
          rw [retO_none]
          have h3 : Below w2.heap.size w2 w3 := h4.trans (hb3.mono h4.size)
          refine hK.out _ _ h3 (fun hHeld => ?_)
          clear hK K hHeld
          try simp only [Act.put, List.setIfInBounds_toArray, List.set_cons_zero, List.set_cons_succ]
          refine wpAnyH_take (i := 9) (oi := ⟨_, _, _, _, _, _⟩) (v := ?v40) rfl (by kernel_rfl) (by kernel_rfl) (by kernel_rfl) (fun _ _ _ h => h) (Or.inl ⟨by rfl, ?hy40⟩) h3 ?rest40
          case hy40 => (intro w hSw; (try dsimp only at hSw); go_simp; try with_reducible rfl)
          simp only [Act.put, List.setIfInBounds_toArray, List.set_cons_zero, List.set_cons_succ]
          refine wpAnyH_take (i := 10) (oi := ⟨_, _, _, _, _, _⟩) (v := ?v41) rfl (by kernel_rfl) (by kernel_rfl) (by kernel_rfl) (fun _ _ _ h => h) (Or.inl ⟨by rfl, ?hy41⟩) h3 ?rest41
          case hy41 => (intro w hSw; (try dsimp only at hSw); go_simp; try with_reducible rfl)
          simp only [Act.put, List.setIfInBounds_toArray, List.set_cons_zero, List.set_cons_succ]
          refine wpAnyH_take (i := 11) (oi := ⟨_, _, _, _, _, _⟩) (v := ?v42) rfl (by kernel_rfl) (by kernel_rfl) (by kernel_rfl) (fun _ _ _ h => h) (Or.inl ⟨by rfl, ?hy42⟩) h3 ?rest42
          case hy42 => (intro w hSw; (try dsimp only at hSw); go_simp; try with_reducible rfl)
          simp only [Act.put, List.setIfInBounds_toArray, List.set_cons_zero, List.set_cons_succ]
          have rB := (hb3.block w2.heap.size (by simp)).trans rA
          obtain ⟨b0, b1, bf, hbl⟩ := row2_of rB
          clear rA hb3
          refine wpAnyH_ready (rs := [13]) (by kernel_rfl) (by simp) ?_
          refine AllReadyH.cons (o := ⟨_, _, _, _, _, _⟩) rfl (fun K hK => ?_) AllReadyH.nil
          go_simp
          have h5 : Below w2.heap.size w2 ((w3.setCell ⟨w2.heap.size, 0, none⟩ (.string ⟨#[]⟩)).setCell ⟨w2.heap.size, 1, none⟩ (.int .i64 0)) := (h3.setCell (Nat.le_refl _) _).setCell (Nat.le_refl _) _
          refine hK.out _ _ h5 (fun hHeld => ?_)
          clear hK K hHeld
          try simp only [Act.put, List.setIfInBounds_toArray, List.set_cons_zero, List.set_cons_succ]
          refine wpAnyH_ready (rs := [14]) (by kernel_rfl) (by simp) ?_
          refine AllReadyH.cons (o := ⟨_, _, _, _, _, _⟩) rfl (fun K hK => ?_) AllReadyH.nil
          go_simp
          refine hK.out _ _ h5 (fun hHeld => ?_)
          clear hK K hHeld
          try simp only [Act.put, List.setIfInBounds_toArray, List.set_cons_zero, List.set_cons_succ]
          obtain ⟨wF, hwF⟩ : ∃ wF, (w3.setCell ⟨w2.heap.size, 0, none⟩ (.string ⟨#[]⟩)).setCell ⟨w2.heap.size, 1, none⟩ (.int .i64 0) = wF := ⟨_, rfl⟩
          have rN : wF.heap[w2.heap.size]? = some (.cells #[.string ⟨#[]⟩, .int .i64 0] 34) := by
            rw [← hwF, heap_setCell_at (heap_setCell_at rB)]; rfl
          rw [hwF] at h5
          obtain ⟨f0, f1, -, -⟩ := row2_of rN
          have hr5 := (h5.block (w.heap.size + 1) hel).trans hr1
          refine wpAnyH_done (by kernel_rfl) ?_ _
          obtain ⟨e0, e1, ef, hel5⟩ := row2_of hr5
          have hbF := hb.trans (h5.mono hb.size)
          have g0 := (h5.cell (lt_of_cell d0)).trans d0
          have ge := (h5.cell (lt_of_cell de)).trans de
          have gi := (h5.cell (lt_of_cell di)).trans di
          clear rN hr5 h5 hr1 P0 P1 P2 P3 h0 h4 h3 hlf1 hrec1 d0 de di
          go_wp2
          rw [retO_some]
          refine bodyPost_ret (v := .tuple #[.agg #[.string xk, .int .i64 xi], .bool true]) (by simp [results, Try.results69, go_sem, e0, e1]) rfl ⟨rfl, ?_⟩
          exact (hbF.setCell (Nat.le_succ _) _).setCell (Nat.le_succ _) _
end Go.Proofs.Ytoaekmighinmhaa
