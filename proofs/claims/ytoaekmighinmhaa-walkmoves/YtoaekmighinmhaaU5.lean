/-
  The entry behind any one, and the one ahead, by their contracts. Conditions: as stated.
-/
import Derived.Test.YtoaekmighinmhaaU4
namespace Go.Proofs.Ytoaekmighinmhaa
open Go.RowKit Go.Sort

/-- an entry and true; a zero one and false. -/
def retO (o : Option En) : Value := match o with
  | some x => .tuple #[.agg #[.string x.1, .int .i64 x.2], .bool true]
  | none => .tuple #[.agg #[.string ⟨#[]⟩, .int .i64 0], .bool false]
theorem retO_some (k : ByteArray) (i : Int) : retO (some (k, i)) = .tuple #[.agg #[.string k, .int .i64 i], .bool true] := rfl
theorem retO_none : retO none = .tuple #[.agg #[.string ⟨#[]⟩, .int .i64 0], .bool false] := rfl
/-- what a walk has made by itself: the entry that came in, the answer to be. -/
theorem box2_any (w : World) (k : ByteArray) (i : Int) : ∃ W0, (w.alloc (.cells #[.string k, .int .i64 i] 34)).alloc (.cells #[.string ⟨#[]⟩, .int .i64 0] 34) = W0 ∧ Below w.heap.size w W0 ∧ W0.heap.size = w.heap.size + 2 ∧ W0.cell? ⟨w.heap.size, 0, none⟩ = some (.string k) ∧ W0.cell? ⟨w.heap.size, 1, none⟩ = some (.int .i64 i) ∧ W0.heap[w.heap.size + 1]? = some (.cells #[.string ⟨#[]⟩, .int .i64 0] 34) := by
  obtain ⟨W1, h1, h2, h3, h4, h5⟩ := box_any w k i
  rw [h1]
  have hB : Below W1.heap.size W1 (W1.alloc (.cells #[.string ⟨#[]⟩, .int .i64 0] 34)) := (Below.refl _ _).alloc (Nat.le_refl _) _
  refine ⟨_, rfl, h2.trans (hB.mono h2.size), by simp [h3], (hB.cell (lt_of_cell h4)).trans h4, (hB.cell (lt_of_cell h5)).trans h5, ?_⟩
  rw [← h3]; exact heap_alloc_new _ _
theorem row2_of {w : World} {b : Nat} {k : ByteArray} {i : Int} (h : w.heap[b]? = some (.cells #[.string k, .int .i64 i] 34)) : w.cell? ⟨b, 0, none⟩ = some (.string k) ∧ w.cell? ⟨b, 1, none⟩ = some (.int .i64 i) ∧ (∀ j, w.frozen? ⟨b, j, none⟩ = false) ∧ b < w.heap.size :=
  ⟨by simp [World.cell?, h], by simp [World.cell?, h], fun j => by simp [World.frozen?, h], lt_of_heap h⟩

set_option maxRecDepth 100000 in
set_option maxHeartbeats 4000000 in
theorem after0_any (t : Nd) (e : En) (w : World) (h : Live 0 w t) (hl : t.es.length ≤ 4) (hs : SortE t.es) :
    Calls Try.prog 71 #[.pointer (some ⟨t.b, 0, none⟩), .agg #[.string e.1, .int .i64 e.2]] w fun r w' => r = .returned (retO (afterE e t.es)) ∧ Below w.heap.size w w' := by
  obtain ⟨ek, ei⟩ := e
  obtain ⟨W0, hW0, hwW, hs0, k0, k1, r0⟩ := box2_any w ek ei
  have hsh := h.sh.below hwW
  have hpl := place_any (ek, ei) W0 hsh hs (by omega)
  have hz : t.kids.length = 0 := by rw [h.2]; rfl
  have hlf := fun W (hW : Below W0.heap.size W0 W) => leaf_any W (hsh.below hW)
  rw [hz] at hlf
  rw [after_leaf hs]
  have hul := up_le (e := (ek, ei)) hs
  have hud : upE (ek, ei) t.es = if hasE (ek, ei) t.es then ahE (ek, ei) t.es + 1 else ahE (ek, ei) t.es := rfl
  obtain ⟨u, hu⟩ : ∃ u, upE (ek, ei) t.es = u := ⟨_, rfl⟩
  rw [hu] at hul hud ⊢
  cases hx : t.es[u]? with
  | none =>
    have hu2 : u = t.es.length := by have := List.getElem?_eq_none_iff.1 hx; omega
    subst hu2
    obtain ⟨sa, sc, -, -, -, -, c0, -, -⟩ := hsh.view
    generalize t.es.length = l at *
    cases hp : hasE (ek, ei) t.es with
    | true =>
      rw [hp] at hpl hud
      have zu : wrap64 ((ahE (ek, ei) t.es : Int) + 1) = (l : Int) := by simp at hud; unfold wrap64; omega
      generalize ahE (ek, ei) t.es = q at *
      clear h hsh hs hz hx hu hud hul hp
      go_enter Try.func71, Try.ntmps71
      go_wp2_with fail
      refine hpl.mono ?_
      rintro e w1 ⟨rfl, hb1⟩
      have hlf1 := hlf w1 hb1
      obtain ⟨e0, e1, ef, hel⟩ := row2_of ((hb1.block (w.heap.size + 1) (by omega)).trans r0)
      have d0 := (hb1.cell (lt_of_cell c0)).trans c0
      clear c0
      have hb := hwW.trans (hb1.mono hwW.size)
      clear hpl hlf hb1 hwW hs0 hW0 k0 k1 r0
      go_wp2_with fail
      refine hlf1.mono ?_
      rintro e w2 ⟨rfl, rfl⟩
      go_wp2
      rw [retO_none]
      refine bodyPost_ret (v := .tuple #[.agg #[.string ⟨#[]⟩, .int .i64 0], .bool false]) (by simp [results, Try.results71, go_sem, e0, e1]) rfl ⟨rfl, ?_⟩
      exact (hb.setCell (Nat.le_succ _) _).setCell (Nat.le_succ _) _
    | false =>
      rw [hp] at hpl hud
      have hud2 : l = ahE (ek, ei) t.es := by simpa using hud
      rw [← hud2] at hpl
      clear hud2
      clear h hsh hs hz hx hu hud hul hp
      go_enter Try.func71, Try.ntmps71
      go_wp2_with fail
      refine hpl.mono ?_
      rintro e w1 ⟨rfl, hb1⟩
      have hlf1 := hlf w1 hb1
      obtain ⟨e0, e1, ef, hel⟩ := row2_of ((hb1.block (w.heap.size + 1) (by omega)).trans r0)
      have d0 := (hb1.cell (lt_of_cell c0)).trans c0
      clear c0
      have hb := hwW.trans (hb1.mono hwW.size)
      clear hpl hlf hb1 hwW hs0 hW0 k0 k1 r0
      go_wp2_with fail
      refine hlf1.mono ?_
      rintro e w2 ⟨rfl, rfl⟩
      go_wp2
      rw [retO_none]
      refine bodyPost_ret (v := .tuple #[.agg #[.string ⟨#[]⟩, .int .i64 0], .bool false]) (by simp [results, Try.results71, go_sem, e0, e1]) rfl ⟨rfl, ?_⟩
      exact (hb.setCell (Nat.le_succ _) _).setCell (Nat.le_succ _) _
  | some x =>
    obtain ⟨B, c, -, hc1, hc2, c0, ck, ci, -⟩ := hsh.entryv hx
    obtain ⟨xk, xi⟩ := x
    have hul2 := (List.getElem?_eq_some_iff.1 hx).1
    have zul : (u : Int) < (t.es.length : Int) := by omega
    have zne : ¬ u = t.es.length := by omega
    have zne2 : ¬ (u : Int) = (t.es.length : Int) := by omega
    generalize t.es.length = l at *
    cases hp : hasE (ek, ei) t.es with
    | true =>
      rw [hp] at hpl hud
      have zu : wrap64 ((ahE (ek, ei) t.es : Int) + 1) = (u : Int) := by simp at hud; unfold wrap64; omega
      generalize ahE (ek, ei) t.es = q at *
      clear h hsh hs hz hx hu hud hul hp
      go_enter Try.func71, Try.ntmps71
      go_wp2_with fail
      refine hpl.mono ?_
      rintro e w1 ⟨rfl, hb1⟩
      have hlf1 := hlf w1 hb1
      obtain ⟨e0, e1, ef, hel⟩ := row2_of ((hb1.block (w.heap.size + 1) (by omega)).trans r0)
      have d0 := (hb1.cell (lt_of_cell c0)).trans c0
      have dk := (hb1.cell (lt_of_cell ck)).trans ck
      have di := (hb1.cell (lt_of_cell ci)).trans ci
      clear c0 ck ci
      have hb := hwW.trans (hb1.mono hwW.size)
      clear hpl hlf hb1 hwW hs0 hW0 k0 k1 r0
      go_wp2_with fail
      refine hlf1.mono ?_
      rintro e w2 ⟨rfl, rfl⟩
      go_wp2
      rw [retO_some]
      refine bodyPost_ret (v := .tuple #[.agg #[.string xk, .int .i64 xi], .bool true]) (by simp [results, Try.results71, go_sem, e0, e1]) rfl ⟨rfl, ?_⟩
      exact (hb.setCell (Nat.le_succ _) _).setCell (Nat.le_succ _) _
    | false =>
      rw [hp] at hpl hud
      have hud2 : u = ahE (ek, ei) t.es := by simpa using hud
      rw [← hud2] at hpl
      clear hud2
      clear h hsh hs hz hx hu hud hul hp
      go_enter Try.func71, Try.ntmps71
      go_wp2_with fail
      refine hpl.mono ?_
      rintro e w1 ⟨rfl, hb1⟩
      have hlf1 := hlf w1 hb1
      obtain ⟨e0, e1, ef, hel⟩ := row2_of ((hb1.block (w.heap.size + 1) (by omega)).trans r0)
      have d0 := (hb1.cell (lt_of_cell c0)).trans c0
      have dk := (hb1.cell (lt_of_cell ck)).trans ck
      have di := (hb1.cell (lt_of_cell ci)).trans ci
      clear c0 ck ci
      have hb := hwW.trans (hb1.mono hwW.size)
      clear hpl hlf hb1 hwW hs0 hW0 k0 k1 r0
      go_wp2_with fail
      refine hlf1.mono ?_
      rintro e w2 ⟨rfl, rfl⟩
      go_wp2
      rw [retO_some]
      refine bodyPost_ret (v := .tuple #[.agg #[.string xk, .int .i64 xi], .bool true]) (by simp [results, Try.results71, go_sem, e0, e1]) rfl ⟨rfl, ?_⟩
      exact (hb.setCell (Nat.le_succ _) _).setCell (Nat.le_succ _) _

set_option maxRecDepth 100000 in
set_option maxHeartbeats 8000000 in
theorem after_any : ∀ (n : Nat) (t : Nd) (e : En) (w : World), Live n w t → WfN n t → t.es.length ≤ 4 → SortE (flatN n t) →
    Calls Try.prog 71 #[.pointer (some ⟨t.b, 0, none⟩), .agg #[.string e.1, .int .i64 e.2]] w fun r w' => r = .returned (retO (afterE e (flatN n t))) ∧ Below w.heap.size w w' := by
  intro n
  induction n with
  | zero => exact fun t e w h _ hl hs => after0_any t e w h hl hs
  | succ n ih =>
    intro t e w h hw hl hs
    obtain ⟨ek, ei⟩ := e
    obtain ⟨W0, hW0, hwW, hs0, k0, k1, r0⟩ := box2_any w ek ei
    have hL0 : Live (n + 1) W0 t := h.below hwW
    have hes := flat_es hs
    have hpl := place_any (ek, ei) W0 hL0.sh hes (by omega)
    have hul := up_le (e := (ek, ei)) hes
    have hud : upE (ek, ei) t.es = if hasE (ek, ei) t.es then ahE (ek, ei) t.es + 1 else ahE (ek, ei) t.es := rfl
    obtain ⟨u, hu⟩ : ∃ u, upE (ek, ei) t.es = u := ⟨_, rfl⟩
    rw [hu] at hul hud
    obtain ⟨k, hk⟩ : ∃ k, t.kids[u]? = some k := ⟨_, List.getElem?_eq_getElem (by have := hw.1; omega)⟩
    have hkm := List.mem_of_getElem? hk
    have hkw := hw.2 k hkm
    have hks : SortE (flatN n k) := by rw [flat_kid hw hk] at hs; exact (sort_mid hs).1
    rw [after_desc hw hs (by rw [hu]; exact hk), hu]
    have hlt := (List.getElem?_eq_some_iff.1 hk).1
    have hnz : ¬ t.kids.length = 0 := by omega
    have hrec := fun W (hW : Below W0.heap.size W0 W) => ih k (ek, ei) W ((hL0.2.2 k hkm).below hW) hkw.1 (by omega) hks
    have hlf := fun W (hW : Below W0.heap.size W0 W) => leaf_any W (hL0.sh.below hW)
    rw [decide_eq_false hnz] at hlf
    obtain ⟨B, c, -, hc1, hc2, c1, ck, -⟩ := hL0.sh.kidv hk
    obtain ⟨o, ho⟩ : ∃ o, afterE (ek, ei) (flatN n k) = o := ⟨_, rfl⟩
    rw [ho] at hrec ⊢
    have zul : (u : Int) < (t.kids.length : Int) := by omega
    generalize t.kids.length = m at *
    cases o with
    | some x =>
      obtain ⟨xk, xi⟩ := x
      show Calls _ _ _ _ fun r w' => r = .returned (retO (some (xk, xi))) ∧ _
      cases hp : hasE (ek, ei) t.es with
      | true =>
        rw [hp] at hpl hud
        have zu : wrap64 ((ahE (ek, ei) t.es : Int) + 1) = (u : Int) := by simp at hud; unfold wrap64; omega
        generalize ahE (ek, ei) t.es = q at *
        clear h hs hw hL0 ih hes hp hk hkm hkw hks hnz hu hud ho hul
        go_enter Try.func71, Try.ntmps71
        go_wp2_with fail
        refine hpl.mono ?_
        rintro e w1 ⟨rfl, hb1⟩
        have hlf1 := hlf w1 hb1
        have hrec1 := fun W (hW : Below w1.heap.size w1 W) => hrec W (hb1.trans (hW.mono hb1.size))
        have hr1 := (hb1.block (w.heap.size + 1) (by omega)).trans r0
        have hel := lt_of_heap hr1
        have d1 := (hb1.cell (lt_of_cell c1)).trans c1
        have dk := (hb1.cell (lt_of_cell ck)).trans ck
        have m0 := (hb1.cell (lt_of_cell k0)).trans k0
        have m1 := (hb1.cell (lt_of_cell k1)).trans k1
        have hb := hwW.trans (hb1.mono hwW.size)
        clear hpl hlf hrec hb1 hwW hs0 hW0 c1 ck k0 k1 r0
        go_wp2_with fail
        refine hlf1.mono ?_
        rintro e w2 ⟨rfl, rfl⟩
        go_wp2_with fail
        have P0 := fun (w' : World) (h : Below w2.heap.size w2 w') => (h.cell (lt_of_cell d1)).trans d1
        have P1 := fun (w' : World) (h : Below w2.heap.size w2 w') => (h.cell (lt_of_cell dk)).trans dk
        have P2 := fun (w' : World) (h : Below w2.heap.size w2 w') => (h.cell (lt_of_cell m0)).trans m0
        have P3 := fun (w' : World) (h : Below w2.heap.size w2 w') => (h.cell (lt_of_cell m1)).trans m1
        clear d1 dk m0 m1
        have h0 : (fun w' : World => Below w2.heap.size w2 w') w2.drew := (Below.refl _ _).drew
        refine wp_region_held (S := fun w' => Below w2.heap.size w2 w') mixed ?_
        refine wpAnyH_take (i := 0) (oi := ⟨_, _, _, _, _, _⟩) (v := ?v1) rfl (by kernel_rfl) (by kernel_rfl) (by kernel_rfl) (fun _ _ _ h => h) (Or.inl ⟨by rfl, ?hy1⟩) h0 ?rest1
        case hy1 => (intro w hSw; (try dsimp only at hSw); go_simp; try with_reducible rfl)
        simp only [Act.put, List.setIfInBounds_toArray, List.set_cons_zero, List.set_cons_succ]
        refine wpAnyH_take (i := 1) (oi := ⟨_, _, _, _, _, _⟩) (v := ?v2) rfl (by kernel_rfl) (by kernel_rfl) (by kernel_rfl) (fun _ _ _ h => h) (Or.inl ⟨by rfl, ?hy2⟩) h0 ?rest2
        case hy2 => (intro w hSw; (try dsimp only at hSw); go_simp; try with_reducible rfl)
        simp only [Act.put, List.setIfInBounds_toArray, List.set_cons_zero, List.set_cons_succ]
        refine wpAnyH_take (i := 2) (oi := ⟨_, _, _, _, _, _⟩) (v := ?v3) rfl (by kernel_rfl) (by kernel_rfl) (by kernel_rfl) (fun _ _ _ h => h) (Or.inl ⟨by rfl, ?hy3⟩) h0 ?rest3
        case hy3 => (intro w hSw; (try dsimp only at hSw); go_simp; try with_reducible rfl)
        simp only [Act.put, List.setIfInBounds_toArray, List.set_cons_zero, List.set_cons_succ]
        refine wpAnyH_take (i := 3) (oi := ⟨_, _, _, _, _, _⟩) (v := ?v4) rfl (by kernel_rfl) (by kernel_rfl) (by kernel_rfl) (fun _ _ _ h => h) (Or.inl ⟨by rfl, ?hy4⟩) h0 ?rest4
        case hy4 => (intro w hSw; (try dsimp only at hSw); go_simp; try with_reducible rfl)
        simp only [Act.put, List.setIfInBounds_toArray, List.set_cons_zero, List.set_cons_succ]
        refine wpAnyH_take (i := 4) (oi := ⟨_, _, _, _, _, _⟩) (v := ?v5) rfl (by kernel_rfl) (by kernel_rfl) (by kernel_rfl) (fun _ _ _ h => h) (Or.inl ⟨by rfl, ?hy5⟩) h0 ?rest5
        case hy5 => (intro w hSw; (try dsimp only at hSw); go_simp; try with_reducible rfl)
        simp only [Act.put, List.setIfInBounds_toArray, List.set_cons_zero, List.set_cons_succ]
        refine wpAnyH_take (i := 5) (oi := ⟨_, _, _, _, _, _⟩) (v := ?v6) rfl (by kernel_rfl) (by kernel_rfl) (by kernel_rfl) (fun _ _ _ h => h) (Or.inl ⟨by rfl, ?hy6⟩) h0 ?rest6
        case hy6 => (intro w hSw; (try dsimp only at hSw); go_simp; try with_reducible rfl)
        simp only [Act.put, List.setIfInBounds_toArray, List.set_cons_zero, List.set_cons_succ]
        refine wpAnyH_take (i := 6) (oi := ⟨_, _, _, _, _, _⟩) (v := ?v7) rfl (by kernel_rfl) (by kernel_rfl) (by kernel_rfl) (fun _ _ _ h => h) (Or.inl ⟨by rfl, ?hy7⟩) h0 ?rest7
        case hy7 => (intro w hSw; (try dsimp only at hSw); go_simp; try with_reducible rfl)
        simp only [Act.put, List.setIfInBounds_toArray, List.set_cons_zero, List.set_cons_succ]
        refine wpAnyH_take (i := 7) (oi := ⟨_, _, _, _, _, _⟩) (v := ?v8) rfl (by kernel_rfl) (by kernel_rfl) (by kernel_rfl) (fun _ _ _ h => h) (Or.inl ⟨by rfl, ?hy8⟩) h0 ?rest8
        case hy8 => (intro w hSw; (try dsimp only at hSw); go_simp; try with_reducible rfl)
        simp only [Act.put, List.setIfInBounds_toArray, List.set_cons_zero, List.set_cons_succ]
        refine wpAnyH_ready (rs := [8, 12]) (by kernel_rfl) (by simp) ?_
        refine AllReadyH.cons (o := ⟨_, _, _, _, _, _⟩) rfl (fun K hK => ?_) (AllReadyH.cons (o := ⟨_, _, _, _, _, _⟩) rfl (fun K hK => ?_) AllReadyH.nil)
        · go_simp
          refine (hrec1 _ h0).mono ?_
          rintro e w3 ⟨rfl, hb3⟩
          rw [retO_some]
          have h3 : Below w2.heap.size w2 w3 := h0.trans (hb3.mono h0.size)
          refine hK.out _ _ h3 (fun hHeld => ?_)
          clear hK K hHeld
          try simp only [Act.put, List.setIfInBounds_toArray, List.set_cons_zero, List.set_cons_succ]
          refine wpAnyH_take (i := 9) (oi := ⟨_, _, _, _, _, _⟩) (v := ?v9) rfl (by kernel_rfl) (by kernel_rfl) (by kernel_rfl) (fun _ _ _ h => h) (Or.inl ⟨by rfl, ?hy9⟩) h3 ?rest9
          case hy9 => (intro w hSw; (try dsimp only at hSw); go_simp; try with_reducible rfl)
          simp only [Act.put, List.setIfInBounds_toArray, List.set_cons_zero, List.set_cons_succ]
          refine wpAnyH_take (i := 10) (oi := ⟨_, _, _, _, _, _⟩) (v := ?v10) rfl (by kernel_rfl) (by kernel_rfl) (by kernel_rfl) (fun _ _ _ h => h) (Or.inl ⟨by rfl, ?hy10⟩) h3 ?rest10
          case hy10 => (intro w hSw; (try dsimp only at hSw); go_simp; try with_reducible rfl)
          simp only [Act.put, List.setIfInBounds_toArray, List.set_cons_zero, List.set_cons_succ]
          refine wpAnyH_take (i := 11) (oi := ⟨_, _, _, _, _, _⟩) (v := ?v11) rfl (by kernel_rfl) (by kernel_rfl) (by kernel_rfl) (fun _ _ _ h => h) (Or.inl ⟨by rfl, ?hy11⟩) h3 ?rest11
          case hy11 => (intro w hSw; (try dsimp only at hSw); go_simp; try with_reducible rfl)
          simp only [Act.put, List.setIfInBounds_toArray, List.set_cons_zero, List.set_cons_succ]
          refine wpAnyH_ready (rs := [12]) (by kernel_rfl) (by simp) ?_
          refine AllReadyH.cons (o := ⟨_, _, _, _, _, _⟩) rfl (fun K hK => ?_) AllReadyH.nil
          go_simp
          have h4 : Below w2.heap.size w2 (w3.alloc (.cells #[.string ⟨#[]⟩, .int .i64 0] 34)) := h3.alloc h3.size _
          refine hK.out _ _ h4 (fun hHeld => ?_)
          clear hK K hHeld
          try simp only [Act.put, List.setIfInBounds_toArray, List.set_cons_zero, List.set_cons_succ]
          refine wpAnyH_ready (rs := [13]) (by kernel_rfl) (by simp) ?_
          refine AllReadyH.cons (o := ⟨_, _, _, _, _, _⟩) rfl (fun K hK => ?_) AllReadyH.nil
          go_simp
          have h5 : Below w2.heap.size w2 (w3.alloc (.cells #[.string xk, .int .i64 xi] 34)) := h3.alloc h3.size _
          refine hK.out _ _ h5 (fun hHeld => ?_)
          clear hK K hHeld
          try simp only [Act.put, List.setIfInBounds_toArray, List.set_cons_zero, List.set_cons_succ]
          refine wpAnyH_ready (rs := [14]) (by kernel_rfl) (by simp) ?_
          refine AllReadyH.cons (o := ⟨_, _, _, _, _, _⟩) rfl (fun K hK => ?_) AllReadyH.nil
          go_simp
          refine hK.out _ _ h5 (fun hHeld => ?_)
          clear hK K hHeld
          try simp only [Act.put, List.setIfInBounds_toArray, List.set_cons_zero, List.set_cons_succ]
          obtain ⟨wF, hwF⟩ : ∃ wF, w3.alloc (.cells #[.string xk, .int .i64 xi] 34) = wF := ⟨_, rfl⟩
          have rN : wF.heap[w3.heap.size]? = some (.cells #[.string xk, .int .i64 xi] 34) := by rw [← hwF]; exact heap_alloc_new _ _
          rw [hwF] at h5
          obtain ⟨f0, f1, -, -⟩ := row2_of rN
          have hr5 := (h5.block (w.heap.size + 1) hel).trans hr1
          refine wpAnyH_done (by kernel_rfl) ?_ _
          obtain ⟨e0, e1, ef, hel5⟩ := row2_of hr5
          have hbF := hb.trans (h5.mono hb.size)
          clear rN hr5 h5 hr1 P0 P1 P2 P3 h0 h4 h3 hlf1 hrec1
          go_wp2
          rw [retO_some]
          refine bodyPost_ret (v := .tuple #[.agg #[.string xk, .int .i64 xi], .bool true]) (by simp [results, Try.results71, go_sem, e0, e1]) rfl ⟨rfl, ?_⟩
          exact (hbF.setCell (Nat.le_succ _) _).setCell (Nat.le_succ _) _
        · go_simp
          have h4 : Below w2.heap.size w2 (w2.alloc (.cells #[.string ⟨#[]⟩, .int .i64 0] 34)).drew := ((Below.refl _ _).alloc (Nat.le_refl _) _).drew
          refine hK.out _ _ h4 (fun hHeld => ?_)
          clear hK K hHeld
          try simp only [Act.put, List.setIfInBounds_toArray, List.set_cons_zero, List.set_cons_succ]
          have rA : (w2.alloc (.cells #[.string ⟨#[]⟩, .int .i64 0] 34)).drew.heap[w2.heap.size]? = some (.cells #[.string ⟨#[]⟩, .int .i64 0] 34) := heap_alloc_new w2 _
          refine wpAnyH_ready (rs := [8]) (by kernel_rfl) (by simp) ?_
          refine AllReadyH.cons (o := ⟨_, _, _, _, _, _⟩) rfl (fun K hK => ?_) AllReadyH.nil
          go_simp
          refine (hrec1 _ h4).mono ?_
          rintro e w3 ⟨rfl, hb3⟩
          rw [retO_some]
          have h3 : Below w2.heap.size w2 w3 := h4.trans (hb3.mono h4.size)
          refine hK.out _ _ h3 (fun hHeld => ?_)
          clear hK K hHeld
          try simp only [Act.put, List.setIfInBounds_toArray, List.set_cons_zero, List.set_cons_succ]
          refine wpAnyH_take (i := 9) (oi := ⟨_, _, _, _, _, _⟩) (v := ?v12) rfl (by kernel_rfl) (by kernel_rfl) (by kernel_rfl) (fun _ _ _ h => h) (Or.inl ⟨by rfl, ?hy12⟩) h3 ?rest12
          case hy12 => (intro w hSw; (try dsimp only at hSw); go_simp; try with_reducible rfl)
          simp only [Act.put, List.setIfInBounds_toArray, List.set_cons_zero, List.set_cons_succ]
          refine wpAnyH_take (i := 10) (oi := ⟨_, _, _, _, _, _⟩) (v := ?v13) rfl (by kernel_rfl) (by kernel_rfl) (by kernel_rfl) (fun _ _ _ h => h) (Or.inl ⟨by rfl, ?hy13⟩) h3 ?rest13
          case hy13 => (intro w hSw; (try dsimp only at hSw); go_simp; try with_reducible rfl)
          simp only [Act.put, List.setIfInBounds_toArray, List.set_cons_zero, List.set_cons_succ]
          refine wpAnyH_take (i := 11) (oi := ⟨_, _, _, _, _, _⟩) (v := ?v14) rfl (by kernel_rfl) (by kernel_rfl) (by kernel_rfl) (fun _ _ _ h => h) (Or.inl ⟨by rfl, ?hy14⟩) h3 ?rest14
          case hy14 => (intro w hSw; (try dsimp only at hSw); go_simp; try with_reducible rfl)
          simp only [Act.put, List.setIfInBounds_toArray, List.set_cons_zero, List.set_cons_succ]
          have rB := (hb3.block w2.heap.size (by simp)).trans rA
          obtain ⟨b0, b1, bf, hbl⟩ := row2_of rB
          clear rA hb3
          refine wpAnyH_ready (rs := [13]) (by kernel_rfl) (by simp) ?_
          refine AllReadyH.cons (o := ⟨_, _, _, _, _, _⟩) rfl (fun K hK => ?_) AllReadyH.nil
          go_simp
          have h5 : Below w2.heap.size w2 ((w3.setCell ⟨w2.heap.size, 0, none⟩ (.string xk)).setCell ⟨w2.heap.size, 1, none⟩ (.int .i64 xi)) := (h3.setCell (Nat.le_refl _) _).setCell (Nat.le_refl _) _
          refine hK.out _ _ h5 (fun hHeld => ?_)
          clear hK K hHeld
          try simp only [Act.put, List.setIfInBounds_toArray, List.set_cons_zero, List.set_cons_succ]
          refine wpAnyH_ready (rs := [14]) (by kernel_rfl) (by simp) ?_
          refine AllReadyH.cons (o := ⟨_, _, _, _, _, _⟩) rfl (fun K hK => ?_) AllReadyH.nil
          go_simp
          refine hK.out _ _ h5 (fun hHeld => ?_)
          clear hK K hHeld
          try simp only [Act.put, List.setIfInBounds_toArray, List.set_cons_zero, List.set_cons_succ]
          obtain ⟨wF, hwF⟩ : ∃ wF, (w3.setCell ⟨w2.heap.size, 0, none⟩ (.string xk)).setCell ⟨w2.heap.size, 1, none⟩ (.int .i64 xi) = wF := ⟨_, rfl⟩
          have rN : wF.heap[w2.heap.size]? = some (.cells #[.string xk, .int .i64 xi] 34) := by
            rw [← hwF, heap_setCell_at (heap_setCell_at rB)]; rfl
          rw [hwF] at h5
          obtain ⟨f0, f1, -, -⟩ := row2_of rN
          have hr5 := (h5.block (w.heap.size + 1) hel).trans hr1
          refine wpAnyH_done (by kernel_rfl) ?_ _
          obtain ⟨e0, e1, ef, hel5⟩ := row2_of hr5
          have hbF := hb.trans (h5.mono hb.size)
          clear rN hr5 h5 hr1 P0 P1 P2 P3 h0 h4 h3 hlf1 hrec1
          go_wp2
          rw [retO_some]
          refine bodyPost_ret (v := .tuple #[.agg #[.string xk, .int .i64 xi], .bool true]) (by simp [results, Try.results71, go_sem, e0, e1]) rfl ⟨rfl, ?_⟩
          exact (hbF.setCell (Nat.le_succ _) _).setCell (Nat.le_succ _) _
      | false =>
        rw [hp] at hpl hud
        have hud2 : u = ahE (ek, ei) t.es := by simpa using hud
        rw [← hud2] at hpl
        clear hud2
        clear h hs hw hL0 ih hes hp hk hkm hkw hks hnz hu hud ho hul
        go_enter Try.func71, Try.ntmps71
        go_wp2_with fail
        refine hpl.mono ?_
        rintro e w1 ⟨rfl, hb1⟩
        have hlf1 := hlf w1 hb1
        have hrec1 := fun W (hW : Below w1.heap.size w1 W) => hrec W (hb1.trans (hW.mono hb1.size))
        have hr1 := (hb1.block (w.heap.size + 1) (by omega)).trans r0
        have hel := lt_of_heap hr1
        have d1 := (hb1.cell (lt_of_cell c1)).trans c1
        have dk := (hb1.cell (lt_of_cell ck)).trans ck
        have m0 := (hb1.cell (lt_of_cell k0)).trans k0
        have m1 := (hb1.cell (lt_of_cell k1)).trans k1
        have hb := hwW.trans (hb1.mono hwW.size)
        clear hpl hlf hrec hb1 hwW hs0 hW0 c1 ck k0 k1 r0
        go_wp2_with fail
        refine hlf1.mono ?_
        rintro e w2 ⟨rfl, rfl⟩
        go_wp2_with fail
        have P0 := fun (w' : World) (h : Below w2.heap.size w2 w') => (h.cell (lt_of_cell d1)).trans d1
        have P1 := fun (w' : World) (h : Below w2.heap.size w2 w') => (h.cell (lt_of_cell dk)).trans dk
        have P2 := fun (w' : World) (h : Below w2.heap.size w2 w') => (h.cell (lt_of_cell m0)).trans m0
        have P3 := fun (w' : World) (h : Below w2.heap.size w2 w') => (h.cell (lt_of_cell m1)).trans m1
        clear d1 dk m0 m1
        have h0 : (fun w' : World => Below w2.heap.size w2 w') w2.drew := (Below.refl _ _).drew
        refine wp_region_held (S := fun w' => Below w2.heap.size w2 w') mixed ?_
        refine wpAnyH_take (i := 0) (oi := ⟨_, _, _, _, _, _⟩) (v := ?v15) rfl (by kernel_rfl) (by kernel_rfl) (by kernel_rfl) (fun _ _ _ h => h) (Or.inl ⟨by rfl, ?hy15⟩) h0 ?rest15
        case hy15 => (intro w hSw; (try dsimp only at hSw); go_simp; try with_reducible rfl)
        simp only [Act.put, List.setIfInBounds_toArray, List.set_cons_zero, List.set_cons_succ]
        refine wpAnyH_take (i := 1) (oi := ⟨_, _, _, _, _, _⟩) (v := ?v16) rfl (by kernel_rfl) (by kernel_rfl) (by kernel_rfl) (fun _ _ _ h => h) (Or.inl ⟨by rfl, ?hy16⟩) h0 ?rest16
        case hy16 => (intro w hSw; (try dsimp only at hSw); go_simp; try with_reducible rfl)
        simp only [Act.put, List.setIfInBounds_toArray, List.set_cons_zero, List.set_cons_succ]
        refine wpAnyH_take (i := 2) (oi := ⟨_, _, _, _, _, _⟩) (v := ?v17) rfl (by kernel_rfl) (by kernel_rfl) (by kernel_rfl) (fun _ _ _ h => h) (Or.inl ⟨by rfl, ?hy17⟩) h0 ?rest17
        case hy17 => (intro w hSw; (try dsimp only at hSw); go_simp; try with_reducible rfl)
        simp only [Act.put, List.setIfInBounds_toArray, List.set_cons_zero, List.set_cons_succ]
        refine wpAnyH_take (i := 3) (oi := ⟨_, _, _, _, _, _⟩) (v := ?v18) rfl (by kernel_rfl) (by kernel_rfl) (by kernel_rfl) (fun _ _ _ h => h) (Or.inl ⟨by rfl, ?hy18⟩) h0 ?rest18
        case hy18 => (intro w hSw; (try dsimp only at hSw); go_simp; try with_reducible rfl)
        simp only [Act.put, List.setIfInBounds_toArray, List.set_cons_zero, List.set_cons_succ]
        refine wpAnyH_take (i := 4) (oi := ⟨_, _, _, _, _, _⟩) (v := ?v19) rfl (by kernel_rfl) (by kernel_rfl) (by kernel_rfl) (fun _ _ _ h => h) (Or.inl ⟨by rfl, ?hy19⟩) h0 ?rest19
        case hy19 => (intro w hSw; (try dsimp only at hSw); go_simp; try with_reducible rfl)
        simp only [Act.put, List.setIfInBounds_toArray, List.set_cons_zero, List.set_cons_succ]
        refine wpAnyH_take (i := 5) (oi := ⟨_, _, _, _, _, _⟩) (v := ?v20) rfl (by kernel_rfl) (by kernel_rfl) (by kernel_rfl) (fun _ _ _ h => h) (Or.inl ⟨by rfl, ?hy20⟩) h0 ?rest20
        case hy20 => (intro w hSw; (try dsimp only at hSw); go_simp; try with_reducible rfl)
        simp only [Act.put, List.setIfInBounds_toArray, List.set_cons_zero, List.set_cons_succ]
        refine wpAnyH_take (i := 6) (oi := ⟨_, _, _, _, _, _⟩) (v := ?v21) rfl (by kernel_rfl) (by kernel_rfl) (by kernel_rfl) (fun _ _ _ h => h) (Or.inl ⟨by rfl, ?hy21⟩) h0 ?rest21
        case hy21 => (intro w hSw; (try dsimp only at hSw); go_simp; try with_reducible rfl)
        simp only [Act.put, List.setIfInBounds_toArray, List.set_cons_zero, List.set_cons_succ]
        refine wpAnyH_take (i := 7) (oi := ⟨_, _, _, _, _, _⟩) (v := ?v22) rfl (by kernel_rfl) (by kernel_rfl) (by kernel_rfl) (fun _ _ _ h => h) (Or.inl ⟨by rfl, ?hy22⟩) h0 ?rest22
        case hy22 => (intro w hSw; (try dsimp only at hSw); go_simp; try with_reducible rfl)
        simp only [Act.put, List.setIfInBounds_toArray, List.set_cons_zero, List.set_cons_succ]
        refine wpAnyH_ready (rs := [8, 12]) (by kernel_rfl) (by simp) ?_
        refine AllReadyH.cons (o := ⟨_, _, _, _, _, _⟩) rfl (fun K hK => ?_) (AllReadyH.cons (o := ⟨_, _, _, _, _, _⟩) rfl (fun K hK => ?_) AllReadyH.nil)
        · go_simp
          refine (hrec1 _ h0).mono ?_
          rintro e w3 ⟨rfl, hb3⟩
          rw [retO_some]
          have h3 : Below w2.heap.size w2 w3 := h0.trans (hb3.mono h0.size)
          refine hK.out _ _ h3 (fun hHeld => ?_)
          clear hK K hHeld
          try simp only [Act.put, List.setIfInBounds_toArray, List.set_cons_zero, List.set_cons_succ]
          refine wpAnyH_take (i := 9) (oi := ⟨_, _, _, _, _, _⟩) (v := ?v23) rfl (by kernel_rfl) (by kernel_rfl) (by kernel_rfl) (fun _ _ _ h => h) (Or.inl ⟨by rfl, ?hy23⟩) h3 ?rest23
          case hy23 => (intro w hSw; (try dsimp only at hSw); go_simp; try with_reducible rfl)
          simp only [Act.put, List.setIfInBounds_toArray, List.set_cons_zero, List.set_cons_succ]
          refine wpAnyH_take (i := 10) (oi := ⟨_, _, _, _, _, _⟩) (v := ?v24) rfl (by kernel_rfl) (by kernel_rfl) (by kernel_rfl) (fun _ _ _ h => h) (Or.inl ⟨by rfl, ?hy24⟩) h3 ?rest24
          case hy24 => (intro w hSw; (try dsimp only at hSw); go_simp; try with_reducible rfl)
          simp only [Act.put, List.setIfInBounds_toArray, List.set_cons_zero, List.set_cons_succ]
          refine wpAnyH_take (i := 11) (oi := ⟨_, _, _, _, _, _⟩) (v := ?v25) rfl (by kernel_rfl) (by kernel_rfl) (by kernel_rfl) (fun _ _ _ h => h) (Or.inl ⟨by rfl, ?hy25⟩) h3 ?rest25
          case hy25 => (intro w hSw; (try dsimp only at hSw); go_simp; try with_reducible rfl)
          simp only [Act.put, List.setIfInBounds_toArray, List.set_cons_zero, List.set_cons_succ]
          refine wpAnyH_ready (rs := [12]) (by kernel_rfl) (by simp) ?_
          refine AllReadyH.cons (o := ⟨_, _, _, _, _, _⟩) rfl (fun K hK => ?_) AllReadyH.nil
          go_simp
          have h4 : Below w2.heap.size w2 (w3.alloc (.cells #[.string ⟨#[]⟩, .int .i64 0] 34)) := h3.alloc h3.size _
          refine hK.out _ _ h4 (fun hHeld => ?_)
          clear hK K hHeld
          try simp only [Act.put, List.setIfInBounds_toArray, List.set_cons_zero, List.set_cons_succ]
          refine wpAnyH_ready (rs := [13]) (by kernel_rfl) (by simp) ?_
          refine AllReadyH.cons (o := ⟨_, _, _, _, _, _⟩) rfl (fun K hK => ?_) AllReadyH.nil
          go_simp
          have h5 : Below w2.heap.size w2 (w3.alloc (.cells #[.string xk, .int .i64 xi] 34)) := h3.alloc h3.size _
          refine hK.out _ _ h5 (fun hHeld => ?_)
          clear hK K hHeld
          try simp only [Act.put, List.setIfInBounds_toArray, List.set_cons_zero, List.set_cons_succ]
          refine wpAnyH_ready (rs := [14]) (by kernel_rfl) (by simp) ?_
          refine AllReadyH.cons (o := ⟨_, _, _, _, _, _⟩) rfl (fun K hK => ?_) AllReadyH.nil
          go_simp
          refine hK.out _ _ h5 (fun hHeld => ?_)
          clear hK K hHeld
          try simp only [Act.put, List.setIfInBounds_toArray, List.set_cons_zero, List.set_cons_succ]
          obtain ⟨wF, hwF⟩ : ∃ wF, w3.alloc (.cells #[.string xk, .int .i64 xi] 34) = wF := ⟨_, rfl⟩
          have rN : wF.heap[w3.heap.size]? = some (.cells #[.string xk, .int .i64 xi] 34) := by rw [← hwF]; exact heap_alloc_new _ _
          rw [hwF] at h5
          obtain ⟨f0, f1, -, -⟩ := row2_of rN
          have hr5 := (h5.block (w.heap.size + 1) hel).trans hr1
          refine wpAnyH_done (by kernel_rfl) ?_ _
          obtain ⟨e0, e1, ef, hel5⟩ := row2_of hr5
          have hbF := hb.trans (h5.mono hb.size)
          clear rN hr5 h5 hr1 P0 P1 P2 P3 h0 h4 h3 hlf1 hrec1
          go_wp2
          rw [retO_some]
          refine bodyPost_ret (v := .tuple #[.agg #[.string xk, .int .i64 xi], .bool true]) (by simp [results, Try.results71, go_sem, e0, e1]) rfl ⟨rfl, ?_⟩
          exact (hbF.setCell (Nat.le_succ _) _).setCell (Nat.le_succ _) _
        · go_simp
          have h4 : Below w2.heap.size w2 (w2.alloc (.cells #[.string ⟨#[]⟩, .int .i64 0] 34)).drew := ((Below.refl _ _).alloc (Nat.le_refl _) _).drew
          refine hK.out _ _ h4 (fun hHeld => ?_)
          clear hK K hHeld
          try simp only [Act.put, List.setIfInBounds_toArray, List.set_cons_zero, List.set_cons_succ]
          have rA : (w2.alloc (.cells #[.string ⟨#[]⟩, .int .i64 0] 34)).drew.heap[w2.heap.size]? = some (.cells #[.string ⟨#[]⟩, .int .i64 0] 34) := heap_alloc_new w2 _
          refine wpAnyH_ready (rs := [8]) (by kernel_rfl) (by simp) ?_
          refine AllReadyH.cons (o := ⟨_, _, _, _, _, _⟩) rfl (fun K hK => ?_) AllReadyH.nil
          go_simp
          refine (hrec1 _ h4).mono ?_
          rintro e w3 ⟨rfl, hb3⟩
          rw [retO_some]
          have h3 : Below w2.heap.size w2 w3 := h4.trans (hb3.mono h4.size)
          refine hK.out _ _ h3 (fun hHeld => ?_)
          clear hK K hHeld
          try simp only [Act.put, List.setIfInBounds_toArray, List.set_cons_zero, List.set_cons_succ]
          refine wpAnyH_take (i := 9) (oi := ⟨_, _, _, _, _, _⟩) (v := ?v26) rfl (by kernel_rfl) (by kernel_rfl) (by kernel_rfl) (fun _ _ _ h => h) (Or.inl ⟨by rfl, ?hy26⟩) h3 ?rest26
          case hy26 => (intro w hSw; (try dsimp only at hSw); go_simp; try with_reducible rfl)
          simp only [Act.put, List.setIfInBounds_toArray, List.set_cons_zero, List.set_cons_succ]
          refine wpAnyH_take (i := 10) (oi := ⟨_, _, _, _, _, _⟩) (v := ?v27) rfl (by kernel_rfl) (by kernel_rfl) (by kernel_rfl) (fun _ _ _ h => h) (Or.inl ⟨by rfl, ?hy27⟩) h3 ?rest27
          case hy27 => (intro w hSw; (try dsimp only at hSw); go_simp; try with_reducible rfl)
          simp only [Act.put, List.setIfInBounds_toArray, List.set_cons_zero, List.set_cons_succ]
          refine wpAnyH_take (i := 11) (oi := ⟨_, _, _, _, _, _⟩) (v := ?v28) rfl (by kernel_rfl) (by kernel_rfl) (by kernel_rfl) (fun _ _ _ h => h) (Or.inl ⟨by rfl, ?hy28⟩) h3 ?rest28
          case hy28 => (intro w hSw; (try dsimp only at hSw); go_simp; try with_reducible rfl)
          simp only [Act.put, List.setIfInBounds_toArray, List.set_cons_zero, List.set_cons_succ]
          have rB := (hb3.block w2.heap.size (by simp)).trans rA
          obtain ⟨b0, b1, bf, hbl⟩ := row2_of rB
          clear rA hb3
          refine wpAnyH_ready (rs := [13]) (by kernel_rfl) (by simp) ?_
          refine AllReadyH.cons (o := ⟨_, _, _, _, _, _⟩) rfl (fun K hK => ?_) AllReadyH.nil
          go_simp
          have h5 : Below w2.heap.size w2 ((w3.setCell ⟨w2.heap.size, 0, none⟩ (.string xk)).setCell ⟨w2.heap.size, 1, none⟩ (.int .i64 xi)) := (h3.setCell (Nat.le_refl _) _).setCell (Nat.le_refl _) _
          refine hK.out _ _ h5 (fun hHeld => ?_)
          clear hK K hHeld
          try simp only [Act.put, List.setIfInBounds_toArray, List.set_cons_zero, List.set_cons_succ]
          refine wpAnyH_ready (rs := [14]) (by kernel_rfl) (by simp) ?_
          refine AllReadyH.cons (o := ⟨_, _, _, _, _, _⟩) rfl (fun K hK => ?_) AllReadyH.nil
          go_simp
          refine hK.out _ _ h5 (fun hHeld => ?_)
          clear hK K hHeld
          try simp only [Act.put, List.setIfInBounds_toArray, List.set_cons_zero, List.set_cons_succ]
          obtain ⟨wF, hwF⟩ : ∃ wF, (w3.setCell ⟨w2.heap.size, 0, none⟩ (.string xk)).setCell ⟨w2.heap.size, 1, none⟩ (.int .i64 xi) = wF := ⟨_, rfl⟩
          have rN : wF.heap[w2.heap.size]? = some (.cells #[.string xk, .int .i64 xi] 34) := by
            rw [← hwF, heap_setCell_at (heap_setCell_at rB)]; rfl
          rw [hwF] at h5
          obtain ⟨f0, f1, -, -⟩ := row2_of rN
          have hr5 := (h5.block (w.heap.size + 1) hel).trans hr1
          refine wpAnyH_done (by kernel_rfl) ?_ _
          obtain ⟨e0, e1, ef, hel5⟩ := row2_of hr5
          have hbF := hb.trans (h5.mono hb.size)
          clear rN hr5 h5 hr1 P0 P1 P2 P3 h0 h4 h3 hlf1 hrec1
          go_wp2
          rw [retO_some]
          refine bodyPost_ret (v := .tuple #[.agg #[.string xk, .int .i64 xi], .bool true]) (by simp [results, Try.results71, go_sem, e0, e1]) rfl ⟨rfl, ?_⟩
          exact (hbF.setCell (Nat.le_succ _) _).setCell (Nat.le_succ _) _
    | none =>
      cases hx : t.es[u]? with
      | none =>
        have hu2 : u = t.es.length := by have := List.getElem?_eq_none_iff.1 hx; omega
        subst hu2
        obtain ⟨sa, sc, -, -, -, -, c0, -, -⟩ := hL0.sh.view
        generalize t.es.length = l at *
        show Calls _ _ _ _ fun r w' => r = .returned (retO none) ∧ _
        cases hp : hasE (ek, ei) t.es with
        | true =>
          rw [hp] at hpl hud
          have zu : wrap64 ((ahE (ek, ei) t.es : Int) + 1) = (l : Int) := by simp at hud; unfold wrap64; omega
          generalize ahE (ek, ei) t.es = q at *
          clear h hs hw hL0 ih hes hp hk hkm hkw hks hnz hu hud ho hul hx
          go_enter Try.func71, Try.ntmps71
          go_wp2_with fail
          refine hpl.mono ?_
          rintro e w1 ⟨rfl, hb1⟩
          have hlf1 := hlf w1 hb1
          have hrec1 := fun W (hW : Below w1.heap.size w1 W) => hrec W (hb1.trans (hW.mono hb1.size))
          have hr1 := (hb1.block (w.heap.size + 1) (by omega)).trans r0
          have hel := lt_of_heap hr1
          have d1 := (hb1.cell (lt_of_cell c1)).trans c1
          have dk := (hb1.cell (lt_of_cell ck)).trans ck
          have m0 := (hb1.cell (lt_of_cell k0)).trans k0
          have m1 := (hb1.cell (lt_of_cell k1)).trans k1
          have d0 := (hb1.cell (lt_of_cell c0)).trans c0
          have hb := hwW.trans (hb1.mono hwW.size)
          clear hpl hlf hrec hb1 hwW hs0 hW0 c1 ck k0 k1 r0 c0
          go_wp2_with fail
          refine hlf1.mono ?_
          rintro e w2 ⟨rfl, rfl⟩
          go_wp2_with fail
          have P0 := fun (w' : World) (h : Below w2.heap.size w2 w') => (h.cell (lt_of_cell d1)).trans d1
          have P1 := fun (w' : World) (h : Below w2.heap.size w2 w') => (h.cell (lt_of_cell dk)).trans dk
          have P2 := fun (w' : World) (h : Below w2.heap.size w2 w') => (h.cell (lt_of_cell m0)).trans m0
          have P3 := fun (w' : World) (h : Below w2.heap.size w2 w') => (h.cell (lt_of_cell m1)).trans m1
          clear d1 dk m0 m1
          have h0 : (fun w' : World => Below w2.heap.size w2 w') w2.drew := (Below.refl _ _).drew
          refine wp_region_held (S := fun w' => Below w2.heap.size w2 w') mixed ?_
          refine wpAnyH_take (i := 0) (oi := ⟨_, _, _, _, _, _⟩) (v := ?v29) rfl (by kernel_rfl) (by kernel_rfl) (by kernel_rfl) (fun _ _ _ h => h) (Or.inl ⟨by rfl, ?hy29⟩) h0 ?rest29
          case hy29 => (intro w hSw; (try dsimp only at hSw); go_simp; try with_reducible rfl)
          simp only [Act.put, List.setIfInBounds_toArray, List.set_cons_zero, List.set_cons_succ]
          refine wpAnyH_take (i := 1) (oi := ⟨_, _, _, _, _, _⟩) (v := ?v30) rfl (by kernel_rfl) (by kernel_rfl) (by kernel_rfl) (fun _ _ _ h => h) (Or.inl ⟨by rfl, ?hy30⟩) h0 ?rest30
          case hy30 => (intro w hSw; (try dsimp only at hSw); go_simp; try with_reducible rfl)
          simp only [Act.put, List.setIfInBounds_toArray, List.set_cons_zero, List.set_cons_succ]
          refine wpAnyH_take (i := 2) (oi := ⟨_, _, _, _, _, _⟩) (v := ?v31) rfl (by kernel_rfl) (by kernel_rfl) (by kernel_rfl) (fun _ _ _ h => h) (Or.inl ⟨by rfl, ?hy31⟩) h0 ?rest31
          case hy31 => (intro w hSw; (try dsimp only at hSw); go_simp; try with_reducible rfl)
          simp only [Act.put, List.setIfInBounds_toArray, List.set_cons_zero, List.set_cons_succ]
          refine wpAnyH_take (i := 3) (oi := ⟨_, _, _, _, _, _⟩) (v := ?v32) rfl (by kernel_rfl) (by kernel_rfl) (by kernel_rfl) (fun _ _ _ h => h) (Or.inl ⟨by rfl, ?hy32⟩) h0 ?rest32
          case hy32 => (intro w hSw; (try dsimp only at hSw); go_simp; try with_reducible rfl)
          simp only [Act.put, List.setIfInBounds_toArray, List.set_cons_zero, List.set_cons_succ]
          refine wpAnyH_take (i := 4) (oi := ⟨_, _, _, _, _, _⟩) (v := ?v33) rfl (by kernel_rfl) (by kernel_rfl) (by kernel_rfl) (fun _ _ _ h => h) (Or.inl ⟨by rfl, ?hy33⟩) h0 ?rest33
          case hy33 => (intro w hSw; (try dsimp only at hSw); go_simp; try with_reducible rfl)
          simp only [Act.put, List.setIfInBounds_toArray, List.set_cons_zero, List.set_cons_succ]
          refine wpAnyH_take (i := 5) (oi := ⟨_, _, _, _, _, _⟩) (v := ?v34) rfl (by kernel_rfl) (by kernel_rfl) (by kernel_rfl) (fun _ _ _ h => h) (Or.inl ⟨by rfl, ?hy34⟩) h0 ?rest34
          case hy34 => (intro w hSw; (try dsimp only at hSw); go_simp; try with_reducible rfl)
          simp only [Act.put, List.setIfInBounds_toArray, List.set_cons_zero, List.set_cons_succ]
          refine wpAnyH_take (i := 6) (oi := ⟨_, _, _, _, _, _⟩) (v := ?v35) rfl (by kernel_rfl) (by kernel_rfl) (by kernel_rfl) (fun _ _ _ h => h) (Or.inl ⟨by rfl, ?hy35⟩) h0 ?rest35
          case hy35 => (intro w hSw; (try dsimp only at hSw); go_simp; try with_reducible rfl)
          simp only [Act.put, List.setIfInBounds_toArray, List.set_cons_zero, List.set_cons_succ]
          refine wpAnyH_take (i := 7) (oi := ⟨_, _, _, _, _, _⟩) (v := ?v36) rfl (by kernel_rfl) (by kernel_rfl) (by kernel_rfl) (fun _ _ _ h => h) (Or.inl ⟨by rfl, ?hy36⟩) h0 ?rest36
          case hy36 => (intro w hSw; (try dsimp only at hSw); go_simp; try with_reducible rfl)
          simp only [Act.put, List.setIfInBounds_toArray, List.set_cons_zero, List.set_cons_succ]
          refine wpAnyH_ready (rs := [8, 12]) (by kernel_rfl) (by simp) ?_
          refine AllReadyH.cons (o := ⟨_, _, _, _, _, _⟩) rfl (fun K hK => ?_) (AllReadyH.cons (o := ⟨_, _, _, _, _, _⟩) rfl (fun K hK => ?_) AllReadyH.nil)
          · go_simp
            refine (hrec1 _ h0).mono ?_
            rintro e w3 ⟨rfl, hb3⟩
            rw [retO_none]
            have h3 : Below w2.heap.size w2 w3 := h0.trans (hb3.mono h0.size)
            refine hK.out _ _ h3 (fun hHeld => ?_)
            clear hK K hHeld
            try simp only [Act.put, List.setIfInBounds_toArray, List.set_cons_zero, List.set_cons_succ]
            refine wpAnyH_take (i := 9) (oi := ⟨_, _, _, _, _, _⟩) (v := ?v37) rfl (by kernel_rfl) (by kernel_rfl) (by kernel_rfl) (fun _ _ _ h => h) (Or.inl ⟨by rfl, ?hy37⟩) h3 ?rest37
            case hy37 => (intro w hSw; (try dsimp only at hSw); go_simp; try with_reducible rfl)
            simp only [Act.put, List.setIfInBounds_toArray, List.set_cons_zero, List.set_cons_succ]
            refine wpAnyH_take (i := 10) (oi := ⟨_, _, _, _, _, _⟩) (v := ?v38) rfl (by kernel_rfl) (by kernel_rfl) (by kernel_rfl) (fun _ _ _ h => h) (Or.inl ⟨by rfl, ?hy38⟩) h3 ?rest38
            case hy38 => (intro w hSw; (try dsimp only at hSw); go_simp; try with_reducible rfl)
            simp only [Act.put, List.setIfInBounds_toArray, List.set_cons_zero, List.set_cons_succ]
            refine wpAnyH_take (i := 11) (oi := ⟨_, _, _, _, _, _⟩) (v := ?v39) rfl (by kernel_rfl) (by kernel_rfl) (by kernel_rfl) (fun _ _ _ h => h) (Or.inl ⟨by rfl, ?hy39⟩) h3 ?rest39
            case hy39 => (intro w hSw; (try dsimp only at hSw); go_simp; try with_reducible rfl)
            simp only [Act.put, List.setIfInBounds_toArray, List.set_cons_zero, List.set_cons_succ]
            refine wpAnyH_ready (rs := [12]) (by kernel_rfl) (by simp) ?_
            refine AllReadyH.cons (o := ⟨_, _, _, _, _, _⟩) rfl (fun K hK => ?_) AllReadyH.nil
            go_simp
            have h4 : Below w2.heap.size w2 (w3.alloc (.cells #[.string ⟨#[]⟩, .int .i64 0] 34)) := h3.alloc h3.size _
            refine hK.out _ _ h4 (fun hHeld => ?_)
            clear hK K hHeld
            try simp only [Act.put, List.setIfInBounds_toArray, List.set_cons_zero, List.set_cons_succ]
            refine wpAnyH_ready (rs := [13]) (by kernel_rfl) (by simp) ?_
            refine AllReadyH.cons (o := ⟨_, _, _, _, _, _⟩) rfl (fun K hK => ?_) AllReadyH.nil
            go_simp
            have h5 : Below w2.heap.size w2 (w3.alloc (.cells #[.string ⟨#[]⟩, .int .i64 0] 34)) := h3.alloc h3.size _
            refine hK.out _ _ h5 (fun hHeld => ?_)
            clear hK K hHeld
            try simp only [Act.put, List.setIfInBounds_toArray, List.set_cons_zero, List.set_cons_succ]
            refine wpAnyH_ready (rs := [14]) (by kernel_rfl) (by simp) ?_
            refine AllReadyH.cons (o := ⟨_, _, _, _, _, _⟩) rfl (fun K hK => ?_) AllReadyH.nil
            go_simp
            refine hK.out _ _ h5 (fun hHeld => ?_)
            clear hK K hHeld
            try simp only [Act.put, List.setIfInBounds_toArray, List.set_cons_zero, List.set_cons_succ]
            obtain ⟨wF, hwF⟩ : ∃ wF, w3.alloc (.cells #[.string ⟨#[]⟩, .int .i64 0] 34) = wF := ⟨_, rfl⟩
            have rN : wF.heap[w3.heap.size]? = some (.cells #[.string ⟨#[]⟩, .int .i64 0] 34) := by rw [← hwF]; exact heap_alloc_new _ _
            rw [hwF] at h5
            obtain ⟨f0, f1, -, -⟩ := row2_of rN
            have hr5 := (h5.block (w.heap.size + 1) hel).trans hr1
            refine wpAnyH_done (by kernel_rfl) ?_ _
            obtain ⟨e0, e1, ef, hel5⟩ := row2_of hr5
            have hbF := hb.trans (h5.mono hb.size)
            have g0 := (h5.cell (lt_of_cell d0)).trans d0
            clear rN hr5 h5 hr1 P0 P1 P2 P3 h0 h4 h3 hlf1 hrec1 d0
            go_wp2
            rw [retO_none]
            refine bodyPost_ret (v := .tuple #[.agg #[.string ⟨#[]⟩, .int .i64 0], .bool false]) (by simp [results, Try.results71, go_sem, e0, e1]) rfl ⟨rfl, ?_⟩
            exact (hbF.setCell (Nat.le_succ _) _).setCell (Nat.le_succ _) _
          · go_simp
            have h4 : Below w2.heap.size w2 (w2.alloc (.cells #[.string ⟨#[]⟩, .int .i64 0] 34)).drew := ((Below.refl _ _).alloc (Nat.le_refl _) _).drew
            refine hK.out _ _ h4 (fun hHeld => ?_)
            clear hK K hHeld
            try simp only [Act.put, List.setIfInBounds_toArray, List.set_cons_zero, List.set_cons_succ]
            have rA : (w2.alloc (.cells #[.string ⟨#[]⟩, .int .i64 0] 34)).drew.heap[w2.heap.size]? = some (.cells #[.string ⟨#[]⟩, .int .i64 0] 34) := heap_alloc_new w2 _
            refine wpAnyH_ready (rs := [8]) (by kernel_rfl) (by simp) ?_
            refine AllReadyH.cons (o := ⟨_, _, _, _, _, _⟩) rfl (fun K hK => ?_) AllReadyH.nil
            go_simp
            refine (hrec1 _ h4).mono ?_
            rintro e w3 ⟨rfl, hb3⟩
            rw [retO_none]
            have h3 : Below w2.heap.size w2 w3 := h4.trans (hb3.mono h4.size)
            refine hK.out _ _ h3 (fun hHeld => ?_)
            clear hK K hHeld
            try simp only [Act.put, List.setIfInBounds_toArray, List.set_cons_zero, List.set_cons_succ]
            refine wpAnyH_take (i := 9) (oi := ⟨_, _, _, _, _, _⟩) (v := ?v40) rfl (by kernel_rfl) (by kernel_rfl) (by kernel_rfl) (fun _ _ _ h => h) (Or.inl ⟨by rfl, ?hy40⟩) h3 ?rest40
            case hy40 => (intro w hSw; (try dsimp only at hSw); go_simp; try with_reducible rfl)
            simp only [Act.put, List.setIfInBounds_toArray, List.set_cons_zero, List.set_cons_succ]
            refine wpAnyH_take (i := 10) (oi := ⟨_, _, _, _, _, _⟩) (v := ?v41) rfl (by kernel_rfl) (by kernel_rfl) (by kernel_rfl) (fun _ _ _ h => h) (Or.inl ⟨by rfl, ?hy41⟩) h3 ?rest41
            case hy41 => (intro w hSw; (try dsimp only at hSw); go_simp; try with_reducible rfl)
            simp only [Act.put, List.setIfInBounds_toArray, List.set_cons_zero, List.set_cons_succ]
            refine wpAnyH_take (i := 11) (oi := ⟨_, _, _, _, _, _⟩) (v := ?v42) rfl (by kernel_rfl) (by kernel_rfl) (by kernel_rfl) (fun _ _ _ h => h) (Or.inl ⟨by rfl, ?hy42⟩) h3 ?rest42
            case hy42 => (intro w hSw; (try dsimp only at hSw); go_simp; try with_reducible rfl)
            simp only [Act.put, List.setIfInBounds_toArray, List.set_cons_zero, List.set_cons_succ]
            have rB := (hb3.block w2.heap.size (by simp)).trans rA
            obtain ⟨b0, b1, bf, hbl⟩ := row2_of rB
            clear rA hb3
            refine wpAnyH_ready (rs := [13]) (by kernel_rfl) (by simp) ?_
            refine AllReadyH.cons (o := ⟨_, _, _, _, _, _⟩) rfl (fun K hK => ?_) AllReadyH.nil
            go_simp
            have h5 : Below w2.heap.size w2 ((w3.setCell ⟨w2.heap.size, 0, none⟩ (.string ⟨#[]⟩)).setCell ⟨w2.heap.size, 1, none⟩ (.int .i64 0)) := (h3.setCell (Nat.le_refl _) _).setCell (Nat.le_refl _) _
            refine hK.out _ _ h5 (fun hHeld => ?_)
            clear hK K hHeld
            try simp only [Act.put, List.setIfInBounds_toArray, List.set_cons_zero, List.set_cons_succ]
            refine wpAnyH_ready (rs := [14]) (by kernel_rfl) (by simp) ?_
            refine AllReadyH.cons (o := ⟨_, _, _, _, _, _⟩) rfl (fun K hK => ?_) AllReadyH.nil
            go_simp
            refine hK.out _ _ h5 (fun hHeld => ?_)
            clear hK K hHeld
            try simp only [Act.put, List.setIfInBounds_toArray, List.set_cons_zero, List.set_cons_succ]
            obtain ⟨wF, hwF⟩ : ∃ wF, (w3.setCell ⟨w2.heap.size, 0, none⟩ (.string ⟨#[]⟩)).setCell ⟨w2.heap.size, 1, none⟩ (.int .i64 0) = wF := ⟨_, rfl⟩
            have rN : wF.heap[w2.heap.size]? = some (.cells #[.string ⟨#[]⟩, .int .i64 0] 34) := by
              rw [← hwF, heap_setCell_at (heap_setCell_at rB)]; rfl
            rw [hwF] at h5
            obtain ⟨f0, f1, -, -⟩ := row2_of rN
            have hr5 := (h5.block (w.heap.size + 1) hel).trans hr1
            refine wpAnyH_done (by kernel_rfl) ?_ _
            obtain ⟨e0, e1, ef, hel5⟩ := row2_of hr5
            have hbF := hb.trans (h5.mono hb.size)
            have g0 := (h5.cell (lt_of_cell d0)).trans d0
            clear rN hr5 h5 hr1 P0 P1 P2 P3 h0 h4 h3 hlf1 hrec1 d0
            go_wp2
            rw [retO_none]
            refine bodyPost_ret (v := .tuple #[.agg #[.string ⟨#[]⟩, .int .i64 0], .bool false]) (by simp [results, Try.results71, go_sem, e0, e1]) rfl ⟨rfl, ?_⟩
            exact (hbF.setCell (Nat.le_succ _) _).setCell (Nat.le_succ _) _
        | false =>
          rw [hp] at hpl hud
          have hud2 : l = ahE (ek, ei) t.es := by simpa using hud
          rw [← hud2] at hpl
          clear hud2
          clear h hs hw hL0 ih hes hp hk hkm hkw hks hnz hu hud ho hul hx
          go_enter Try.func71, Try.ntmps71
          go_wp2_with fail
          refine hpl.mono ?_
          rintro e w1 ⟨rfl, hb1⟩
          have hlf1 := hlf w1 hb1
          have hrec1 := fun W (hW : Below w1.heap.size w1 W) => hrec W (hb1.trans (hW.mono hb1.size))
          have hr1 := (hb1.block (w.heap.size + 1) (by omega)).trans r0
          have hel := lt_of_heap hr1
          have d1 := (hb1.cell (lt_of_cell c1)).trans c1
          have dk := (hb1.cell (lt_of_cell ck)).trans ck
          have m0 := (hb1.cell (lt_of_cell k0)).trans k0
          have m1 := (hb1.cell (lt_of_cell k1)).trans k1
          have d0 := (hb1.cell (lt_of_cell c0)).trans c0
          have hb := hwW.trans (hb1.mono hwW.size)
          clear hpl hlf hrec hb1 hwW hs0 hW0 c1 ck k0 k1 r0 c0
          go_wp2_with fail
          refine hlf1.mono ?_
          rintro e w2 ⟨rfl, rfl⟩
          go_wp2_with fail
          have P0 := fun (w' : World) (h : Below w2.heap.size w2 w') => (h.cell (lt_of_cell d1)).trans d1
          have P1 := fun (w' : World) (h : Below w2.heap.size w2 w') => (h.cell (lt_of_cell dk)).trans dk
          have P2 := fun (w' : World) (h : Below w2.heap.size w2 w') => (h.cell (lt_of_cell m0)).trans m0
          have P3 := fun (w' : World) (h : Below w2.heap.size w2 w') => (h.cell (lt_of_cell m1)).trans m1
          clear d1 dk m0 m1
          have h0 : (fun w' : World => Below w2.heap.size w2 w') w2.drew := (Below.refl _ _).drew
          refine wp_region_held (S := fun w' => Below w2.heap.size w2 w') mixed ?_
          refine wpAnyH_take (i := 0) (oi := ⟨_, _, _, _, _, _⟩) (v := ?v43) rfl (by kernel_rfl) (by kernel_rfl) (by kernel_rfl) (fun _ _ _ h => h) (Or.inl ⟨by rfl, ?hy43⟩) h0 ?rest43
          case hy43 => (intro w hSw; (try dsimp only at hSw); go_simp; try with_reducible rfl)
          simp only [Act.put, List.setIfInBounds_toArray, List.set_cons_zero, List.set_cons_succ]
          refine wpAnyH_take (i := 1) (oi := ⟨_, _, _, _, _, _⟩) (v := ?v44) rfl (by kernel_rfl) (by kernel_rfl) (by kernel_rfl) (fun _ _ _ h => h) (Or.inl ⟨by rfl, ?hy44⟩) h0 ?rest44
          case hy44 => (intro w hSw; (try dsimp only at hSw); go_simp; try with_reducible rfl)
          simp only [Act.put, List.setIfInBounds_toArray, List.set_cons_zero, List.set_cons_succ]
          refine wpAnyH_take (i := 2) (oi := ⟨_, _, _, _, _, _⟩) (v := ?v45) rfl (by kernel_rfl) (by kernel_rfl) (by kernel_rfl) (fun _ _ _ h => h) (Or.inl ⟨by rfl, ?hy45⟩) h0 ?rest45
          case hy45 => (intro w hSw; (try dsimp only at hSw); go_simp; try with_reducible rfl)
          simp only [Act.put, List.setIfInBounds_toArray, List.set_cons_zero, List.set_cons_succ]
          refine wpAnyH_take (i := 3) (oi := ⟨_, _, _, _, _, _⟩) (v := ?v46) rfl (by kernel_rfl) (by kernel_rfl) (by kernel_rfl) (fun _ _ _ h => h) (Or.inl ⟨by rfl, ?hy46⟩) h0 ?rest46
          case hy46 => (intro w hSw; (try dsimp only at hSw); go_simp; try with_reducible rfl)
          simp only [Act.put, List.setIfInBounds_toArray, List.set_cons_zero, List.set_cons_succ]
          refine wpAnyH_take (i := 4) (oi := ⟨_, _, _, _, _, _⟩) (v := ?v47) rfl (by kernel_rfl) (by kernel_rfl) (by kernel_rfl) (fun _ _ _ h => h) (Or.inl ⟨by rfl, ?hy47⟩) h0 ?rest47
          case hy47 => (intro w hSw; (try dsimp only at hSw); go_simp; try with_reducible rfl)
          simp only [Act.put, List.setIfInBounds_toArray, List.set_cons_zero, List.set_cons_succ]
          refine wpAnyH_take (i := 5) (oi := ⟨_, _, _, _, _, _⟩) (v := ?v48) rfl (by kernel_rfl) (by kernel_rfl) (by kernel_rfl) (fun _ _ _ h => h) (Or.inl ⟨by rfl, ?hy48⟩) h0 ?rest48
          case hy48 => (intro w hSw; (try dsimp only at hSw); go_simp; try with_reducible rfl)
          simp only [Act.put, List.setIfInBounds_toArray, List.set_cons_zero, List.set_cons_succ]
          refine wpAnyH_take (i := 6) (oi := ⟨_, _, _, _, _, _⟩) (v := ?v49) rfl (by kernel_rfl) (by kernel_rfl) (by kernel_rfl) (fun _ _ _ h => h) (Or.inl ⟨by rfl, ?hy49⟩) h0 ?rest49
          case hy49 => (intro w hSw; (try dsimp only at hSw); go_simp; try with_reducible rfl)
          simp only [Act.put, List.setIfInBounds_toArray, List.set_cons_zero, List.set_cons_succ]
          refine wpAnyH_take (i := 7) (oi := ⟨_, _, _, _, _, _⟩) (v := ?v50) rfl (by kernel_rfl) (by kernel_rfl) (by kernel_rfl) (fun _ _ _ h => h) (Or.inl ⟨by rfl, ?hy50⟩) h0 ?rest50
          case hy50 => (intro w hSw; (try dsimp only at hSw); go_simp; try with_reducible rfl)
          simp only [Act.put, List.setIfInBounds_toArray, List.set_cons_zero, List.set_cons_succ]
          refine wpAnyH_ready (rs := [8, 12]) (by kernel_rfl) (by simp) ?_
          refine AllReadyH.cons (o := ⟨_, _, _, _, _, _⟩) rfl (fun K hK => ?_) (AllReadyH.cons (o := ⟨_, _, _, _, _, _⟩) rfl (fun K hK => ?_) AllReadyH.nil)
          · go_simp
            refine (hrec1 _ h0).mono ?_
            rintro e w3 ⟨rfl, hb3⟩
            rw [retO_none]
            have h3 : Below w2.heap.size w2 w3 := h0.trans (hb3.mono h0.size)
            refine hK.out _ _ h3 (fun hHeld => ?_)
            clear hK K hHeld
            try simp only [Act.put, List.setIfInBounds_toArray, List.set_cons_zero, List.set_cons_succ]
            refine wpAnyH_take (i := 9) (oi := ⟨_, _, _, _, _, _⟩) (v := ?v51) rfl (by kernel_rfl) (by kernel_rfl) (by kernel_rfl) (fun _ _ _ h => h) (Or.inl ⟨by rfl, ?hy51⟩) h3 ?rest51
            case hy51 => (intro w hSw; (try dsimp only at hSw); go_simp; try with_reducible rfl)
            simp only [Act.put, List.setIfInBounds_toArray, List.set_cons_zero, List.set_cons_succ]
            refine wpAnyH_take (i := 10) (oi := ⟨_, _, _, _, _, _⟩) (v := ?v52) rfl (by kernel_rfl) (by kernel_rfl) (by kernel_rfl) (fun _ _ _ h => h) (Or.inl ⟨by rfl, ?hy52⟩) h3 ?rest52
            case hy52 => (intro w hSw; (try dsimp only at hSw); go_simp; try with_reducible rfl)
            simp only [Act.put, List.setIfInBounds_toArray, List.set_cons_zero, List.set_cons_succ]
            refine wpAnyH_take (i := 11) (oi := ⟨_, _, _, _, _, _⟩) (v := ?v53) rfl (by kernel_rfl) (by kernel_rfl) (by kernel_rfl) (fun _ _ _ h => h) (Or.inl ⟨by rfl, ?hy53⟩) h3 ?rest53
            case hy53 => (intro w hSw; (try dsimp only at hSw); go_simp; try with_reducible rfl)
            simp only [Act.put, List.setIfInBounds_toArray, List.set_cons_zero, List.set_cons_succ]
            refine wpAnyH_ready (rs := [12]) (by kernel_rfl) (by simp) ?_
            refine AllReadyH.cons (o := ⟨_, _, _, _, _, _⟩) rfl (fun K hK => ?_) AllReadyH.nil
            go_simp
            have h4 : Below w2.heap.size w2 (w3.alloc (.cells #[.string ⟨#[]⟩, .int .i64 0] 34)) := h3.alloc h3.size _
            refine hK.out _ _ h4 (fun hHeld => ?_)
            clear hK K hHeld
            try simp only [Act.put, List.setIfInBounds_toArray, List.set_cons_zero, List.set_cons_succ]
            refine wpAnyH_ready (rs := [13]) (by kernel_rfl) (by simp) ?_
            refine AllReadyH.cons (o := ⟨_, _, _, _, _, _⟩) rfl (fun K hK => ?_) AllReadyH.nil
            go_simp
            have h5 : Below w2.heap.size w2 (w3.alloc (.cells #[.string ⟨#[]⟩, .int .i64 0] 34)) := h3.alloc h3.size _
            refine hK.out _ _ h5 (fun hHeld => ?_)
            clear hK K hHeld
            try simp only [Act.put, List.setIfInBounds_toArray, List.set_cons_zero, List.set_cons_succ]
            refine wpAnyH_ready (rs := [14]) (by kernel_rfl) (by simp) ?_
            refine AllReadyH.cons (o := ⟨_, _, _, _, _, _⟩) rfl (fun K hK => ?_) AllReadyH.nil
            go_simp
            refine hK.out _ _ h5 (fun hHeld => ?_)
            clear hK K hHeld
            try simp only [Act.put, List.setIfInBounds_toArray, List.set_cons_zero, List.set_cons_succ]
            obtain ⟨wF, hwF⟩ : ∃ wF, w3.alloc (.cells #[.string ⟨#[]⟩, .int .i64 0] 34) = wF := ⟨_, rfl⟩
            have rN : wF.heap[w3.heap.size]? = some (.cells #[.string ⟨#[]⟩, .int .i64 0] 34) := by rw [← hwF]; exact heap_alloc_new _ _
            rw [hwF] at h5
            obtain ⟨f0, f1, -, -⟩ := row2_of rN
            have hr5 := (h5.block (w.heap.size + 1) hel).trans hr1
            refine wpAnyH_done (by kernel_rfl) ?_ _
            obtain ⟨e0, e1, ef, hel5⟩ := row2_of hr5
            have hbF := hb.trans (h5.mono hb.size)
            have g0 := (h5.cell (lt_of_cell d0)).trans d0
            clear rN hr5 h5 hr1 P0 P1 P2 P3 h0 h4 h3 hlf1 hrec1 d0
            go_wp2
            rw [retO_none]
            refine bodyPost_ret (v := .tuple #[.agg #[.string ⟨#[]⟩, .int .i64 0], .bool false]) (by simp [results, Try.results71, go_sem, e0, e1]) rfl ⟨rfl, ?_⟩
            exact (hbF.setCell (Nat.le_succ _) _).setCell (Nat.le_succ _) _
          · go_simp
            have h4 : Below w2.heap.size w2 (w2.alloc (.cells #[.string ⟨#[]⟩, .int .i64 0] 34)).drew := ((Below.refl _ _).alloc (Nat.le_refl _) _).drew
            refine hK.out _ _ h4 (fun hHeld => ?_)
            clear hK K hHeld
            try simp only [Act.put, List.setIfInBounds_toArray, List.set_cons_zero, List.set_cons_succ]
            have rA : (w2.alloc (.cells #[.string ⟨#[]⟩, .int .i64 0] 34)).drew.heap[w2.heap.size]? = some (.cells #[.string ⟨#[]⟩, .int .i64 0] 34) := heap_alloc_new w2 _
            refine wpAnyH_ready (rs := [8]) (by kernel_rfl) (by simp) ?_
            refine AllReadyH.cons (o := ⟨_, _, _, _, _, _⟩) rfl (fun K hK => ?_) AllReadyH.nil
            go_simp
            refine (hrec1 _ h4).mono ?_
            rintro e w3 ⟨rfl, hb3⟩
            rw [retO_none]
            have h3 : Below w2.heap.size w2 w3 := h4.trans (hb3.mono h4.size)
            refine hK.out _ _ h3 (fun hHeld => ?_)
            clear hK K hHeld
            try simp only [Act.put, List.setIfInBounds_toArray, List.set_cons_zero, List.set_cons_succ]
            refine wpAnyH_take (i := 9) (oi := ⟨_, _, _, _, _, _⟩) (v := ?v54) rfl (by kernel_rfl) (by kernel_rfl) (by kernel_rfl) (fun _ _ _ h => h) (Or.inl ⟨by rfl, ?hy54⟩) h3 ?rest54
            case hy54 => (intro w hSw; (try dsimp only at hSw); go_simp; try with_reducible rfl)
            simp only [Act.put, List.setIfInBounds_toArray, List.set_cons_zero, List.set_cons_succ]
            refine wpAnyH_take (i := 10) (oi := ⟨_, _, _, _, _, _⟩) (v := ?v55) rfl (by kernel_rfl) (by kernel_rfl) (by kernel_rfl) (fun _ _ _ h => h) (Or.inl ⟨by rfl, ?hy55⟩) h3 ?rest55
            case hy55 => (intro w hSw; (try dsimp only at hSw); go_simp; try with_reducible rfl)
            simp only [Act.put, List.setIfInBounds_toArray, List.set_cons_zero, List.set_cons_succ]
            refine wpAnyH_take (i := 11) (oi := ⟨_, _, _, _, _, _⟩) (v := ?v56) rfl (by kernel_rfl) (by kernel_rfl) (by kernel_rfl) (fun _ _ _ h => h) (Or.inl ⟨by rfl, ?hy56⟩) h3 ?rest56
            case hy56 => (intro w hSw; (try dsimp only at hSw); go_simp; try with_reducible rfl)
            simp only [Act.put, List.setIfInBounds_toArray, List.set_cons_zero, List.set_cons_succ]
            have rB := (hb3.block w2.heap.size (by simp)).trans rA
            obtain ⟨b0, b1, bf, hbl⟩ := row2_of rB
            clear rA hb3
            refine wpAnyH_ready (rs := [13]) (by kernel_rfl) (by simp) ?_
            refine AllReadyH.cons (o := ⟨_, _, _, _, _, _⟩) rfl (fun K hK => ?_) AllReadyH.nil
            go_simp
            have h5 : Below w2.heap.size w2 ((w3.setCell ⟨w2.heap.size, 0, none⟩ (.string ⟨#[]⟩)).setCell ⟨w2.heap.size, 1, none⟩ (.int .i64 0)) := (h3.setCell (Nat.le_refl _) _).setCell (Nat.le_refl _) _
            refine hK.out _ _ h5 (fun hHeld => ?_)
            clear hK K hHeld
            try simp only [Act.put, List.setIfInBounds_toArray, List.set_cons_zero, List.set_cons_succ]
            refine wpAnyH_ready (rs := [14]) (by kernel_rfl) (by simp) ?_
            refine AllReadyH.cons (o := ⟨_, _, _, _, _, _⟩) rfl (fun K hK => ?_) AllReadyH.nil
            go_simp
            refine hK.out _ _ h5 (fun hHeld => ?_)
            clear hK K hHeld
            try simp only [Act.put, List.setIfInBounds_toArray, List.set_cons_zero, List.set_cons_succ]
            obtain ⟨wF, hwF⟩ : ∃ wF, (w3.setCell ⟨w2.heap.size, 0, none⟩ (.string ⟨#[]⟩)).setCell ⟨w2.heap.size, 1, none⟩ (.int .i64 0) = wF := ⟨_, rfl⟩
            have rN : wF.heap[w2.heap.size]? = some (.cells #[.string ⟨#[]⟩, .int .i64 0] 34) := by
              rw [← hwF, heap_setCell_at (heap_setCell_at rB)]; rfl
            rw [hwF] at h5
            obtain ⟨f0, f1, -, -⟩ := row2_of rN
            have hr5 := (h5.block (w.heap.size + 1) hel).trans hr1
            refine wpAnyH_done (by kernel_rfl) ?_ _
            obtain ⟨e0, e1, ef, hel5⟩ := row2_of hr5
            have hbF := hb.trans (h5.mono hb.size)
            have g0 := (h5.cell (lt_of_cell d0)).trans d0
            clear rN hr5 h5 hr1 P0 P1 P2 P3 h0 h4 h3 hlf1 hrec1 d0
            go_wp2
            rw [retO_none]
            refine bodyPost_ret (v := .tuple #[.agg #[.string ⟨#[]⟩, .int .i64 0], .bool false]) (by simp [results, Try.results71, go_sem, e0, e1]) rfl ⟨rfl, ?_⟩
            exact (hbF.setCell (Nat.le_succ _) _).setCell (Nat.le_succ _) _
      | some x =>
        obtain ⟨C, d, -, hd1, hd2, c0, ce, ci, -⟩ := hL0.sh.entryv hx
        obtain ⟨xk, xi⟩ := x
        have hul2 := (List.getElem?_eq_some_iff.1 hx).1
        have zul2 : (u : Int) < (t.es.length : Int) := by omega
        have zne : ¬ u = t.es.length := by omega
        have zne2 : ¬ (u : Int) = (t.es.length : Int) := by omega
        generalize t.es.length = l at *
        show Calls _ _ _ _ fun r w' => r = .returned (retO (some (xk, xi))) ∧ _
        cases hp : hasE (ek, ei) t.es with
        | true =>
          rw [hp] at hpl hud
          have zu : wrap64 ((ahE (ek, ei) t.es : Int) + 1) = (u : Int) := by simp at hud; unfold wrap64; omega
          generalize ahE (ek, ei) t.es = q at *
          clear h hs hw hL0 ih hes hp hk hkm hkw hks hnz hu hud ho hul hx
          go_enter Try.func71, Try.ntmps71
          go_wp2_with fail
          refine hpl.mono ?_
          rintro e w1 ⟨rfl, hb1⟩
          have hlf1 := hlf w1 hb1
          have hrec1 := fun W (hW : Below w1.heap.size w1 W) => hrec W (hb1.trans (hW.mono hb1.size))
          have hr1 := (hb1.block (w.heap.size + 1) (by omega)).trans r0
          have hel := lt_of_heap hr1
          have d1 := (hb1.cell (lt_of_cell c1)).trans c1
          have dk := (hb1.cell (lt_of_cell ck)).trans ck
          have m0 := (hb1.cell (lt_of_cell k0)).trans k0
          have m1 := (hb1.cell (lt_of_cell k1)).trans k1
          have d0 := (hb1.cell (lt_of_cell c0)).trans c0
          have de := (hb1.cell (lt_of_cell ce)).trans ce
          have di := (hb1.cell (lt_of_cell ci)).trans ci
          have hb := hwW.trans (hb1.mono hwW.size)
          clear hpl hlf hrec hb1 hwW hs0 hW0 c1 ck k0 k1 r0 c0 ce ci
          go_wp2_with fail
          refine hlf1.mono ?_
          rintro e w2 ⟨rfl, rfl⟩
          go_wp2_with fail
          have P0 := fun (w' : World) (h : Below w2.heap.size w2 w') => (h.cell (lt_of_cell d1)).trans d1
          have P1 := fun (w' : World) (h : Below w2.heap.size w2 w') => (h.cell (lt_of_cell dk)).trans dk
          have P2 := fun (w' : World) (h : Below w2.heap.size w2 w') => (h.cell (lt_of_cell m0)).trans m0
          have P3 := fun (w' : World) (h : Below w2.heap.size w2 w') => (h.cell (lt_of_cell m1)).trans m1
          clear d1 dk m0 m1
          have h0 : (fun w' : World => Below w2.heap.size w2 w') w2.drew := (Below.refl _ _).drew
          refine wp_region_held (S := fun w' => Below w2.heap.size w2 w') mixed ?_
          refine wpAnyH_take (i := 0) (oi := ⟨_, _, _, _, _, _⟩) (v := ?v57) rfl (by kernel_rfl) (by kernel_rfl) (by kernel_rfl) (fun _ _ _ h => h) (Or.inl ⟨by rfl, ?hy57⟩) h0 ?rest57
          case hy57 => (intro w hSw; (try dsimp only at hSw); go_simp; try with_reducible rfl)
          simp only [Act.put, List.setIfInBounds_toArray, List.set_cons_zero, List.set_cons_succ]
          refine wpAnyH_take (i := 1) (oi := ⟨_, _, _, _, _, _⟩) (v := ?v58) rfl (by kernel_rfl) (by kernel_rfl) (by kernel_rfl) (fun _ _ _ h => h) (Or.inl ⟨by rfl, ?hy58⟩) h0 ?rest58
          case hy58 => (intro w hSw; (try dsimp only at hSw); go_simp; try with_reducible rfl)
          simp only [Act.put, List.setIfInBounds_toArray, List.set_cons_zero, List.set_cons_succ]
          refine wpAnyH_take (i := 2) (oi := ⟨_, _, _, _, _, _⟩) (v := ?v59) rfl (by kernel_rfl) (by kernel_rfl) (by kernel_rfl) (fun _ _ _ h => h) (Or.inl ⟨by rfl, ?hy59⟩) h0 ?rest59
          case hy59 => (intro w hSw; (try dsimp only at hSw); go_simp; try with_reducible rfl)
          simp only [Act.put, List.setIfInBounds_toArray, List.set_cons_zero, List.set_cons_succ]
          refine wpAnyH_take (i := 3) (oi := ⟨_, _, _, _, _, _⟩) (v := ?v60) rfl (by kernel_rfl) (by kernel_rfl) (by kernel_rfl) (fun _ _ _ h => h) (Or.inl ⟨by rfl, ?hy60⟩) h0 ?rest60
          case hy60 => (intro w hSw; (try dsimp only at hSw); go_simp; try with_reducible rfl)
          simp only [Act.put, List.setIfInBounds_toArray, List.set_cons_zero, List.set_cons_succ]
          refine wpAnyH_take (i := 4) (oi := ⟨_, _, _, _, _, _⟩) (v := ?v61) rfl (by kernel_rfl) (by kernel_rfl) (by kernel_rfl) (fun _ _ _ h => h) (Or.inl ⟨by rfl, ?hy61⟩) h0 ?rest61
          case hy61 => (intro w hSw; (try dsimp only at hSw); go_simp; try with_reducible rfl)
          simp only [Act.put, List.setIfInBounds_toArray, List.set_cons_zero, List.set_cons_succ]
          refine wpAnyH_take (i := 5) (oi := ⟨_, _, _, _, _, _⟩) (v := ?v62) rfl (by kernel_rfl) (by kernel_rfl) (by kernel_rfl) (fun _ _ _ h => h) (Or.inl ⟨by rfl, ?hy62⟩) h0 ?rest62
          case hy62 => (intro w hSw; (try dsimp only at hSw); go_simp; try with_reducible rfl)
          simp only [Act.put, List.setIfInBounds_toArray, List.set_cons_zero, List.set_cons_succ]
          refine wpAnyH_take (i := 6) (oi := ⟨_, _, _, _, _, _⟩) (v := ?v63) rfl (by kernel_rfl) (by kernel_rfl) (by kernel_rfl) (fun _ _ _ h => h) (Or.inl ⟨by rfl, ?hy63⟩) h0 ?rest63
          case hy63 => (intro w hSw; (try dsimp only at hSw); go_simp; try with_reducible rfl)
          simp only [Act.put, List.setIfInBounds_toArray, List.set_cons_zero, List.set_cons_succ]
          refine wpAnyH_take (i := 7) (oi := ⟨_, _, _, _, _, _⟩) (v := ?v64) rfl (by kernel_rfl) (by kernel_rfl) (by kernel_rfl) (fun _ _ _ h => h) (Or.inl ⟨by rfl, ?hy64⟩) h0 ?rest64
          case hy64 => (intro w hSw; (try dsimp only at hSw); go_simp; try with_reducible rfl)
          simp only [Act.put, List.setIfInBounds_toArray, List.set_cons_zero, List.set_cons_succ]
          refine wpAnyH_ready (rs := [8, 12]) (by kernel_rfl) (by simp) ?_
          refine AllReadyH.cons (o := ⟨_, _, _, _, _, _⟩) rfl (fun K hK => ?_) (AllReadyH.cons (o := ⟨_, _, _, _, _, _⟩) rfl (fun K hK => ?_) AllReadyH.nil)
          · go_simp
            refine (hrec1 _ h0).mono ?_
            rintro e w3 ⟨rfl, hb3⟩
            rw [retO_none]
            have h3 : Below w2.heap.size w2 w3 := h0.trans (hb3.mono h0.size)
            refine hK.out _ _ h3 (fun hHeld => ?_)
            clear hK K hHeld
            try simp only [Act.put, List.setIfInBounds_toArray, List.set_cons_zero, List.set_cons_succ]
            refine wpAnyH_take (i := 9) (oi := ⟨_, _, _, _, _, _⟩) (v := ?v65) rfl (by kernel_rfl) (by kernel_rfl) (by kernel_rfl) (fun _ _ _ h => h) (Or.inl ⟨by rfl, ?hy65⟩) h3 ?rest65
            case hy65 => (intro w hSw; (try dsimp only at hSw); go_simp; try with_reducible rfl)
            simp only [Act.put, List.setIfInBounds_toArray, List.set_cons_zero, List.set_cons_succ]
            refine wpAnyH_take (i := 10) (oi := ⟨_, _, _, _, _, _⟩) (v := ?v66) rfl (by kernel_rfl) (by kernel_rfl) (by kernel_rfl) (fun _ _ _ h => h) (Or.inl ⟨by rfl, ?hy66⟩) h3 ?rest66
            case hy66 => (intro w hSw; (try dsimp only at hSw); go_simp; try with_reducible rfl)
            simp only [Act.put, List.setIfInBounds_toArray, List.set_cons_zero, List.set_cons_succ]
            refine wpAnyH_take (i := 11) (oi := ⟨_, _, _, _, _, _⟩) (v := ?v67) rfl (by kernel_rfl) (by kernel_rfl) (by kernel_rfl) (fun _ _ _ h => h) (Or.inl ⟨by rfl, ?hy67⟩) h3 ?rest67
            case hy67 => (intro w hSw; (try dsimp only at hSw); go_simp; try with_reducible rfl)
            simp only [Act.put, List.setIfInBounds_toArray, List.set_cons_zero, List.set_cons_succ]
            refine wpAnyH_ready (rs := [12]) (by kernel_rfl) (by simp) ?_
            refine AllReadyH.cons (o := ⟨_, _, _, _, _, _⟩) rfl (fun K hK => ?_) AllReadyH.nil
            go_simp
            have h4 : Below w2.heap.size w2 (w3.alloc (.cells #[.string ⟨#[]⟩, .int .i64 0] 34)) := h3.alloc h3.size _
            refine hK.out _ _ h4 (fun hHeld => ?_)
            clear hK K hHeld
            try simp only [Act.put, List.setIfInBounds_toArray, List.set_cons_zero, List.set_cons_succ]
            refine wpAnyH_ready (rs := [13]) (by kernel_rfl) (by simp) ?_
            refine AllReadyH.cons (o := ⟨_, _, _, _, _, _⟩) rfl (fun K hK => ?_) AllReadyH.nil
            go_simp
            have h5 : Below w2.heap.size w2 (w3.alloc (.cells #[.string ⟨#[]⟩, .int .i64 0] 34)) := h3.alloc h3.size _
            refine hK.out _ _ h5 (fun hHeld => ?_)
            clear hK K hHeld
            try simp only [Act.put, List.setIfInBounds_toArray, List.set_cons_zero, List.set_cons_succ]
            refine wpAnyH_ready (rs := [14]) (by kernel_rfl) (by simp) ?_
            refine AllReadyH.cons (o := ⟨_, _, _, _, _, _⟩) rfl (fun K hK => ?_) AllReadyH.nil
            go_simp
            refine hK.out _ _ h5 (fun hHeld => ?_)
            clear hK K hHeld
            try simp only [Act.put, List.setIfInBounds_toArray, List.set_cons_zero, List.set_cons_succ]
            obtain ⟨wF, hwF⟩ : ∃ wF, w3.alloc (.cells #[.string ⟨#[]⟩, .int .i64 0] 34) = wF := ⟨_, rfl⟩
            have rN : wF.heap[w3.heap.size]? = some (.cells #[.string ⟨#[]⟩, .int .i64 0] 34) := by rw [← hwF]; exact heap_alloc_new _ _
            rw [hwF] at h5
            obtain ⟨f0, f1, -, -⟩ := row2_of rN
            have hr5 := (h5.block (w.heap.size + 1) hel).trans hr1
            refine wpAnyH_done (by kernel_rfl) ?_ _
            obtain ⟨e0, e1, ef, hel5⟩ := row2_of hr5
            have hbF := hb.trans (h5.mono hb.size)
            have g0 := (h5.cell (lt_of_cell d0)).trans d0
            have ge := (h5.cell (lt_of_cell de)).trans de
            have gi := (h5.cell (lt_of_cell di)).trans di
            clear rN hr5 h5 hr1 P0 P1 P2 P3 h0 h4 h3 hlf1 hrec1 d0 de di
            go_wp2
            rw [retO_some]
            refine bodyPost_ret (v := .tuple #[.agg #[.string xk, .int .i64 xi], .bool true]) (by simp [results, Try.results71, go_sem, e0, e1]) rfl ⟨rfl, ?_⟩
            exact (hbF.setCell (Nat.le_succ _) _).setCell (Nat.le_succ _) _
          · go_simp
            have h4 : Below w2.heap.size w2 (w2.alloc (.cells #[.string ⟨#[]⟩, .int .i64 0] 34)).drew := ((Below.refl _ _).alloc (Nat.le_refl _) _).drew
            refine hK.out _ _ h4 (fun hHeld => ?_)
            clear hK K hHeld
            try simp only [Act.put, List.setIfInBounds_toArray, List.set_cons_zero, List.set_cons_succ]
            have rA : (w2.alloc (.cells #[.string ⟨#[]⟩, .int .i64 0] 34)).drew.heap[w2.heap.size]? = some (.cells #[.string ⟨#[]⟩, .int .i64 0] 34) := heap_alloc_new w2 _
            refine wpAnyH_ready (rs := [8]) (by kernel_rfl) (by simp) ?_
            refine AllReadyH.cons (o := ⟨_, _, _, _, _, _⟩) rfl (fun K hK => ?_) AllReadyH.nil
            go_simp
            refine (hrec1 _ h4).mono ?_
            rintro e w3 ⟨rfl, hb3⟩
            rw [retO_none]
            have h3 : Below w2.heap.size w2 w3 := h4.trans (hb3.mono h4.size)
            refine hK.out _ _ h3 (fun hHeld => ?_)
            clear hK K hHeld
            try simp only [Act.put, List.setIfInBounds_toArray, List.set_cons_zero, List.set_cons_succ]
            refine wpAnyH_take (i := 9) (oi := ⟨_, _, _, _, _, _⟩) (v := ?v68) rfl (by kernel_rfl) (by kernel_rfl) (by kernel_rfl) (fun _ _ _ h => h) (Or.inl ⟨by rfl, ?hy68⟩) h3 ?rest68
            case hy68 => (intro w hSw; (try dsimp only at hSw); go_simp; try with_reducible rfl)
            simp only [Act.put, List.setIfInBounds_toArray, List.set_cons_zero, List.set_cons_succ]
            refine wpAnyH_take (i := 10) (oi := ⟨_, _, _, _, _, _⟩) (v := ?v69) rfl (by kernel_rfl) (by kernel_rfl) (by kernel_rfl) (fun _ _ _ h => h) (Or.inl ⟨by rfl, ?hy69⟩) h3 ?rest69
            case hy69 => (intro w hSw; (try dsimp only at hSw); go_simp; try with_reducible rfl)
            simp only [Act.put, List.setIfInBounds_toArray, List.set_cons_zero, List.set_cons_succ]
            refine wpAnyH_take (i := 11) (oi := ⟨_, _, _, _, _, _⟩) (v := ?v70) rfl (by kernel_rfl) (by kernel_rfl) (by kernel_rfl) (fun _ _ _ h => h) (Or.inl ⟨by rfl, ?hy70⟩) h3 ?rest70
            case hy70 => (intro w hSw; (try dsimp only at hSw); go_simp; try with_reducible rfl)
            simp only [Act.put, List.setIfInBounds_toArray, List.set_cons_zero, List.set_cons_succ]
            have rB := (hb3.block w2.heap.size (by simp)).trans rA
            obtain ⟨b0, b1, bf, hbl⟩ := row2_of rB
            clear rA hb3
            refine wpAnyH_ready (rs := [13]) (by kernel_rfl) (by simp) ?_
            refine AllReadyH.cons (o := ⟨_, _, _, _, _, _⟩) rfl (fun K hK => ?_) AllReadyH.nil
            go_simp
            have h5 : Below w2.heap.size w2 ((w3.setCell ⟨w2.heap.size, 0, none⟩ (.string ⟨#[]⟩)).setCell ⟨w2.heap.size, 1, none⟩ (.int .i64 0)) := (h3.setCell (Nat.le_refl _) _).setCell (Nat.le_refl _) _
            refine hK.out _ _ h5 (fun hHeld => ?_)
            clear hK K hHeld
            try simp only [Act.put, List.setIfInBounds_toArray, List.set_cons_zero, List.set_cons_succ]
            refine wpAnyH_ready (rs := [14]) (by kernel_rfl) (by simp) ?_
            refine AllReadyH.cons (o := ⟨_, _, _, _, _, _⟩) rfl (fun K hK => ?_) AllReadyH.nil
            go_simp
            refine hK.out _ _ h5 (fun hHeld => ?_)
            clear hK K hHeld
            try simp only [Act.put, List.setIfInBounds_toArray, List.set_cons_zero, List.set_cons_succ]
            obtain ⟨wF, hwF⟩ : ∃ wF, (w3.setCell ⟨w2.heap.size, 0, none⟩ (.string ⟨#[]⟩)).setCell ⟨w2.heap.size, 1, none⟩ (.int .i64 0) = wF := ⟨_, rfl⟩
            have rN : wF.heap[w2.heap.size]? = some (.cells #[.string ⟨#[]⟩, .int .i64 0] 34) := by
              rw [← hwF, heap_setCell_at (heap_setCell_at rB)]; rfl
            rw [hwF] at h5
            obtain ⟨f0, f1, -, -⟩ := row2_of rN
            have hr5 := (h5.block (w.heap.size + 1) hel).trans hr1
            refine wpAnyH_done (by kernel_rfl) ?_ _
            obtain ⟨e0, e1, ef, hel5⟩ := row2_of hr5
            have hbF := hb.trans (h5.mono hb.size)
            have g0 := (h5.cell (lt_of_cell d0)).trans d0
            have ge := (h5.cell (lt_of_cell de)).trans de
            have gi := (h5.cell (lt_of_cell di)).trans di
            clear rN hr5 h5 hr1 P0 P1 P2 P3 h0 h4 h3 hlf1 hrec1 d0 de di
            go_wp2
            rw [retO_some]
            refine bodyPost_ret (v := .tuple #[.agg #[.string xk, .int .i64 xi], .bool true]) (by simp [results, Try.results71, go_sem, e0, e1]) rfl ⟨rfl, ?_⟩
            exact (hbF.setCell (Nat.le_succ _) _).setCell (Nat.le_succ _) _
        | false =>
          rw [hp] at hpl hud
          have hud2 : u = ahE (ek, ei) t.es := by simpa using hud
          rw [← hud2] at hpl
          clear hud2
          clear h hs hw hL0 ih hes hp hk hkm hkw hks hnz hu hud ho hul hx
          go_enter Try.func71, Try.ntmps71
          go_wp2_with fail
          refine hpl.mono ?_
          rintro e w1 ⟨rfl, hb1⟩
          have hlf1 := hlf w1 hb1
          have hrec1 := fun W (hW : Below w1.heap.size w1 W) => hrec W (hb1.trans (hW.mono hb1.size))
          have hr1 := (hb1.block (w.heap.size + 1) (by omega)).trans r0
          have hel := lt_of_heap hr1
          have d1 := (hb1.cell (lt_of_cell c1)).trans c1
          have dk := (hb1.cell (lt_of_cell ck)).trans ck
          have m0 := (hb1.cell (lt_of_cell k0)).trans k0
          have m1 := (hb1.cell (lt_of_cell k1)).trans k1
          have d0 := (hb1.cell (lt_of_cell c0)).trans c0
          have de := (hb1.cell (lt_of_cell ce)).trans ce
          have di := (hb1.cell (lt_of_cell ci)).trans ci
          have hb := hwW.trans (hb1.mono hwW.size)
          clear hpl hlf hrec hb1 hwW hs0 hW0 c1 ck k0 k1 r0 c0 ce ci
          go_wp2_with fail
          refine hlf1.mono ?_
          rintro e w2 ⟨rfl, rfl⟩
          go_wp2_with fail
          have P0 := fun (w' : World) (h : Below w2.heap.size w2 w') => (h.cell (lt_of_cell d1)).trans d1
          have P1 := fun (w' : World) (h : Below w2.heap.size w2 w') => (h.cell (lt_of_cell dk)).trans dk
          have P2 := fun (w' : World) (h : Below w2.heap.size w2 w') => (h.cell (lt_of_cell m0)).trans m0
          have P3 := fun (w' : World) (h : Below w2.heap.size w2 w') => (h.cell (lt_of_cell m1)).trans m1
          clear d1 dk m0 m1
          have h0 : (fun w' : World => Below w2.heap.size w2 w') w2.drew := (Below.refl _ _).drew
          refine wp_region_held (S := fun w' => Below w2.heap.size w2 w') mixed ?_
          refine wpAnyH_take (i := 0) (oi := ⟨_, _, _, _, _, _⟩) (v := ?v71) rfl (by kernel_rfl) (by kernel_rfl) (by kernel_rfl) (fun _ _ _ h => h) (Or.inl ⟨by rfl, ?hy71⟩) h0 ?rest71
          case hy71 => (intro w hSw; (try dsimp only at hSw); go_simp; try with_reducible rfl)
          simp only [Act.put, List.setIfInBounds_toArray, List.set_cons_zero, List.set_cons_succ]
          refine wpAnyH_take (i := 1) (oi := ⟨_, _, _, _, _, _⟩) (v := ?v72) rfl (by kernel_rfl) (by kernel_rfl) (by kernel_rfl) (fun _ _ _ h => h) (Or.inl ⟨by rfl, ?hy72⟩) h0 ?rest72
          case hy72 => (intro w hSw; (try dsimp only at hSw); go_simp; try with_reducible rfl)
          simp only [Act.put, List.setIfInBounds_toArray, List.set_cons_zero, List.set_cons_succ]
          refine wpAnyH_take (i := 2) (oi := ⟨_, _, _, _, _, _⟩) (v := ?v73) rfl (by kernel_rfl) (by kernel_rfl) (by kernel_rfl) (fun _ _ _ h => h) (Or.inl ⟨by rfl, ?hy73⟩) h0 ?rest73
          case hy73 => (intro w hSw; (try dsimp only at hSw); go_simp; try with_reducible rfl)
          simp only [Act.put, List.setIfInBounds_toArray, List.set_cons_zero, List.set_cons_succ]
          refine wpAnyH_take (i := 3) (oi := ⟨_, _, _, _, _, _⟩) (v := ?v74) rfl (by kernel_rfl) (by kernel_rfl) (by kernel_rfl) (fun _ _ _ h => h) (Or.inl ⟨by rfl, ?hy74⟩) h0 ?rest74
          case hy74 => (intro w hSw; (try dsimp only at hSw); go_simp; try with_reducible rfl)
          simp only [Act.put, List.setIfInBounds_toArray, List.set_cons_zero, List.set_cons_succ]
          refine wpAnyH_take (i := 4) (oi := ⟨_, _, _, _, _, _⟩) (v := ?v75) rfl (by kernel_rfl) (by kernel_rfl) (by kernel_rfl) (fun _ _ _ h => h) (Or.inl ⟨by rfl, ?hy75⟩) h0 ?rest75
          case hy75 => (intro w hSw; (try dsimp only at hSw); go_simp; try with_reducible rfl)
          simp only [Act.put, List.setIfInBounds_toArray, List.set_cons_zero, List.set_cons_succ]
          refine wpAnyH_take (i := 5) (oi := ⟨_, _, _, _, _, _⟩) (v := ?v76) rfl (by kernel_rfl) (by kernel_rfl) (by kernel_rfl) (fun _ _ _ h => h) (Or.inl ⟨by rfl, ?hy76⟩) h0 ?rest76
          case hy76 => (intro w hSw; (try dsimp only at hSw); go_simp; try with_reducible rfl)
          simp only [Act.put, List.setIfInBounds_toArray, List.set_cons_zero, List.set_cons_succ]
          refine wpAnyH_take (i := 6) (oi := ⟨_, _, _, _, _, _⟩) (v := ?v77) rfl (by kernel_rfl) (by kernel_rfl) (by kernel_rfl) (fun _ _ _ h => h) (Or.inl ⟨by rfl, ?hy77⟩) h0 ?rest77
          case hy77 => (intro w hSw; (try dsimp only at hSw); go_simp; try with_reducible rfl)
          simp only [Act.put, List.setIfInBounds_toArray, List.set_cons_zero, List.set_cons_succ]
          refine wpAnyH_take (i := 7) (oi := ⟨_, _, _, _, _, _⟩) (v := ?v78) rfl (by kernel_rfl) (by kernel_rfl) (by kernel_rfl) (fun _ _ _ h => h) (Or.inl ⟨by rfl, ?hy78⟩) h0 ?rest78
          case hy78 => (intro w hSw; (try dsimp only at hSw); go_simp; try with_reducible rfl)
          simp only [Act.put, List.setIfInBounds_toArray, List.set_cons_zero, List.set_cons_succ]
          refine wpAnyH_ready (rs := [8, 12]) (by kernel_rfl) (by simp) ?_
          refine AllReadyH.cons (o := ⟨_, _, _, _, _, _⟩) rfl (fun K hK => ?_) (AllReadyH.cons (o := ⟨_, _, _, _, _, _⟩) rfl (fun K hK => ?_) AllReadyH.nil)
          · go_simp
            refine (hrec1 _ h0).mono ?_
            rintro e w3 ⟨rfl, hb3⟩
            rw [retO_none]
            have h3 : Below w2.heap.size w2 w3 := h0.trans (hb3.mono h0.size)
            refine hK.out _ _ h3 (fun hHeld => ?_)
            clear hK K hHeld
            try simp only [Act.put, List.setIfInBounds_toArray, List.set_cons_zero, List.set_cons_succ]
            refine wpAnyH_take (i := 9) (oi := ⟨_, _, _, _, _, _⟩) (v := ?v79) rfl (by kernel_rfl) (by kernel_rfl) (by kernel_rfl) (fun _ _ _ h => h) (Or.inl ⟨by rfl, ?hy79⟩) h3 ?rest79
            case hy79 => (intro w hSw; (try dsimp only at hSw); go_simp; try with_reducible rfl)
            simp only [Act.put, List.setIfInBounds_toArray, List.set_cons_zero, List.set_cons_succ]
            refine wpAnyH_take (i := 10) (oi := ⟨_, _, _, _, _, _⟩) (v := ?v80) rfl (by kernel_rfl) (by kernel_rfl) (by kernel_rfl) (fun _ _ _ h => h) (Or.inl ⟨by rfl, ?hy80⟩) h3 ?rest80
            case hy80 => (intro w hSw; (try dsimp only at hSw); go_simp; try with_reducible rfl)
            simp only [Act.put, List.setIfInBounds_toArray, List.set_cons_zero, List.set_cons_succ]
            refine wpAnyH_take (i := 11) (oi := ⟨_, _, _, _, _, _⟩) (v := ?v81) rfl (by kernel_rfl) (by kernel_rfl) (by kernel_rfl) (fun _ _ _ h => h) (Or.inl ⟨by rfl, ?hy81⟩) h3 ?rest81
            case hy81 => (intro w hSw; (try dsimp only at hSw); go_simp; try with_reducible rfl)
            simp only [Act.put, List.setIfInBounds_toArray, List.set_cons_zero, List.set_cons_succ]
            refine wpAnyH_ready (rs := [12]) (by kernel_rfl) (by simp) ?_
            refine AllReadyH.cons (o := ⟨_, _, _, _, _, _⟩) rfl (fun K hK => ?_) AllReadyH.nil
            go_simp
            have h4 : Below w2.heap.size w2 (w3.alloc (.cells #[.string ⟨#[]⟩, .int .i64 0] 34)) := h3.alloc h3.size _
            refine hK.out _ _ h4 (fun hHeld => ?_)
            clear hK K hHeld
            try simp only [Act.put, List.setIfInBounds_toArray, List.set_cons_zero, List.set_cons_succ]
            refine wpAnyH_ready (rs := [13]) (by kernel_rfl) (by simp) ?_
            refine AllReadyH.cons (o := ⟨_, _, _, _, _, _⟩) rfl (fun K hK => ?_) AllReadyH.nil
            go_simp
            have h5 : Below w2.heap.size w2 (w3.alloc (.cells #[.string ⟨#[]⟩, .int .i64 0] 34)) := h3.alloc h3.size _
            refine hK.out _ _ h5 (fun hHeld => ?_)
            clear hK K hHeld
            try simp only [Act.put, List.setIfInBounds_toArray, List.set_cons_zero, List.set_cons_succ]
            refine wpAnyH_ready (rs := [14]) (by kernel_rfl) (by simp) ?_
            refine AllReadyH.cons (o := ⟨_, _, _, _, _, _⟩) rfl (fun K hK => ?_) AllReadyH.nil
            go_simp
            refine hK.out _ _ h5 (fun hHeld => ?_)
            clear hK K hHeld
            try simp only [Act.put, List.setIfInBounds_toArray, List.set_cons_zero, List.set_cons_succ]
            obtain ⟨wF, hwF⟩ : ∃ wF, w3.alloc (.cells #[.string ⟨#[]⟩, .int .i64 0] 34) = wF := ⟨_, rfl⟩
            have rN : wF.heap[w3.heap.size]? = some (.cells #[.string ⟨#[]⟩, .int .i64 0] 34) := by rw [← hwF]; exact heap_alloc_new _ _
            rw [hwF] at h5
            obtain ⟨f0, f1, -, -⟩ := row2_of rN
            have hr5 := (h5.block (w.heap.size + 1) hel).trans hr1
            refine wpAnyH_done (by kernel_rfl) ?_ _
            obtain ⟨e0, e1, ef, hel5⟩ := row2_of hr5
            have hbF := hb.trans (h5.mono hb.size)
            have g0 := (h5.cell (lt_of_cell d0)).trans d0
            have ge := (h5.cell (lt_of_cell de)).trans de
            have gi := (h5.cell (lt_of_cell di)).trans di
            clear rN hr5 h5 hr1 P0 P1 P2 P3 h0 h4 h3 hlf1 hrec1 d0 de di
            go_wp2
            rw [retO_some]
            refine bodyPost_ret (v := .tuple #[.agg #[.string xk, .int .i64 xi], .bool true]) (by simp [results, Try.results71, go_sem, e0, e1]) rfl ⟨rfl, ?_⟩
            exact (hbF.setCell (Nat.le_succ _) _).setCell (Nat.le_succ _) _
          · go_simp
            have h4 : Below w2.heap.size w2 (w2.alloc (.cells #[.string ⟨#[]⟩, .int .i64 0] 34)).drew := ((Below.refl _ _).alloc (Nat.le_refl _) _).drew
            refine hK.out _ _ h4 (fun hHeld => ?_)
            clear hK K hHeld
            try simp only [Act.put, List.setIfInBounds_toArray, List.set_cons_zero, List.set_cons_succ]
            have rA : (w2.alloc (.cells #[.string ⟨#[]⟩, .int .i64 0] 34)).drew.heap[w2.heap.size]? = some (.cells #[.string ⟨#[]⟩, .int .i64 0] 34) := heap_alloc_new w2 _
            refine wpAnyH_ready (rs := [8]) (by kernel_rfl) (by simp) ?_
            refine AllReadyH.cons (o := ⟨_, _, _, _, _, _⟩) rfl (fun K hK => ?_) AllReadyH.nil
            go_simp
            refine (hrec1 _ h4).mono ?_
            rintro e w3 ⟨rfl, hb3⟩
            rw [retO_none]
            have h3 : Below w2.heap.size w2 w3 := h4.trans (hb3.mono h4.size)
            refine hK.out _ _ h3 (fun hHeld => ?_)
            clear hK K hHeld
            try simp only [Act.put, List.setIfInBounds_toArray, List.set_cons_zero, List.set_cons_succ]
            refine wpAnyH_take (i := 9) (oi := ⟨_, _, _, _, _, _⟩) (v := ?v82) rfl (by kernel_rfl) (by kernel_rfl) (by kernel_rfl) (fun _ _ _ h => h) (Or.inl ⟨by rfl, ?hy82⟩) h3 ?rest82
            case hy82 => (intro w hSw; (try dsimp only at hSw); go_simp; try with_reducible rfl)
            simp only [Act.put, List.setIfInBounds_toArray, List.set_cons_zero, List.set_cons_succ]
            refine wpAnyH_take (i := 10) (oi := ⟨_, _, _, _, _, _⟩) (v := ?v83) rfl (by kernel_rfl) (by kernel_rfl) (by kernel_rfl) (fun _ _ _ h => h) (Or.inl ⟨by rfl, ?hy83⟩) h3 ?rest83
            case hy83 => (intro w hSw; (try dsimp only at hSw); go_simp; try with_reducible rfl)
            simp only [Act.put, List.setIfInBounds_toArray, List.set_cons_zero, List.set_cons_succ]
            refine wpAnyH_take (i := 11) (oi := ⟨_, _, _, _, _, _⟩) (v := ?v84) rfl (by kernel_rfl) (by kernel_rfl) (by kernel_rfl) (fun _ _ _ h => h) (Or.inl ⟨by rfl, ?hy84⟩) h3 ?rest84
            case hy84 => (intro w hSw; (try dsimp only at hSw); go_simp; try with_reducible rfl)
            simp only [Act.put, List.setIfInBounds_toArray, List.set_cons_zero, List.set_cons_succ]
            have rB := (hb3.block w2.heap.size (by simp)).trans rA
            obtain ⟨b0, b1, bf, hbl⟩ := row2_of rB
            clear rA hb3
            refine wpAnyH_ready (rs := [13]) (by kernel_rfl) (by simp) ?_
            refine AllReadyH.cons (o := ⟨_, _, _, _, _, _⟩) rfl (fun K hK => ?_) AllReadyH.nil
            go_simp
            have h5 : Below w2.heap.size w2 ((w3.setCell ⟨w2.heap.size, 0, none⟩ (.string ⟨#[]⟩)).setCell ⟨w2.heap.size, 1, none⟩ (.int .i64 0)) := (h3.setCell (Nat.le_refl _) _).setCell (Nat.le_refl _) _
            refine hK.out _ _ h5 (fun hHeld => ?_)
            clear hK K hHeld
            try simp only [Act.put, List.setIfInBounds_toArray, List.set_cons_zero, List.set_cons_succ]
            refine wpAnyH_ready (rs := [14]) (by kernel_rfl) (by simp) ?_
            refine AllReadyH.cons (o := ⟨_, _, _, _, _, _⟩) rfl (fun K hK => ?_) AllReadyH.nil
            go_simp
            refine hK.out _ _ h5 (fun hHeld => ?_)
            clear hK K hHeld
            try simp only [Act.put, List.setIfInBounds_toArray, List.set_cons_zero, List.set_cons_succ]
            obtain ⟨wF, hwF⟩ : ∃ wF, (w3.setCell ⟨w2.heap.size, 0, none⟩ (.string ⟨#[]⟩)).setCell ⟨w2.heap.size, 1, none⟩ (.int .i64 0) = wF := ⟨_, rfl⟩
            have rN : wF.heap[w2.heap.size]? = some (.cells #[.string ⟨#[]⟩, .int .i64 0] 34) := by
              rw [← hwF, heap_setCell_at (heap_setCell_at rB)]; rfl
            rw [hwF] at h5
            obtain ⟨f0, f1, -, -⟩ := row2_of rN
            have hr5 := (h5.block (w.heap.size + 1) hel).trans hr1
            refine wpAnyH_done (by kernel_rfl) ?_ _
            obtain ⟨e0, e1, ef, hel5⟩ := row2_of hr5
            have hbF := hb.trans (h5.mono hb.size)
            have g0 := (h5.cell (lt_of_cell d0)).trans d0
            have ge := (h5.cell (lt_of_cell de)).trans de
            have gi := (h5.cell (lt_of_cell di)).trans di
            clear rN hr5 h5 hr1 P0 P1 P2 P3 h0 h4 h3 hlf1 hrec1 d0 de di
            go_wp2
            rw [retO_some]
            refine bodyPost_ret (v := .tuple #[.agg #[.string xk, .int .i64 xi], .bool true]) (by simp [results, Try.results71, go_sem, e0, e1]) rfl ⟨rfl, ?_⟩
            exact (hbF.setCell (Nat.le_succ _) _).setCell (Nat.le_succ _) _
end Go.Proofs.Ytoaekmighinmhaa
