/-
  tell and Nodes by their contracts: all nodes of a tree, each ahead of those below it. Conditions: as stated.
  rise and sink by their contracts: the topmost node of a tree. Conditions: as stated.
  sink by its contract; Add and Del of a tree. Conditions: as stated.
-/
import Derived.Test.YtgnhillnikjnfaaU21
namespace Go.Proofs.Ytgnhillnikjnfaa
open Go.RowKit

theorem infoNt : (Try.prog.info? 50).map (fun i => (i.zero, i.size, i.bytes)) = some (some (.agg #[.int .i64 0, .int .i64 0, .bool false]), 3, 24) := by kernel_rfl
theorem encNts_append (a b : List Nt) : encNts (a ++ b) = encNts a ++ encNts b := by simp [encNts]
theorem nodes_flat (n d : Nat) (ks : List Nd) (j : Nat) (k : Nd) (hk : ks[j]? = some k) : (ks.take (j + 1)).flatMap (nodesN n d) = (ks.take j).flatMap (nodesN n d) ++ nodesN n d k := by
  rw [List.take_add_one, hk]
  simp
/-- how many are told, at most: less than by this. -/
theorem take_le (n d : Nat) (ks : List Nd) (j : Nat) : ((ks.take j).flatMap (nodesN n d)).length ≤ (ks.flatMap (nodesN n d)).length := by
  conv => rhs; rw [← List.take_append_drop j ks]
  rw [List.flatMap_append, List.length_append]
  omega

set_option maxRecDepth 100000 in
set_option maxHeartbeats 4000000 in
theorem tell_any (B0 : Nat) : ∀ (n : Nat) (t : Nd) (d : Nat) (l : List Nt) (w : World) (ov : Value), Live n w t → WfN n t → t.es.length ≤ 4 → (∀ a, tc n a t ≠ 0 → a < B0) → B0 ≤ w.heap.size → w.ownsRow B0 50 3 ov l.length (encNts l) → l.length + (nodesN n d t).length ≤ 1000000 → d + n ≤ 1000000 →
    Calls Try.prog 38 #[.pointer (some ⟨t.b, 0, none⟩), ov, .int .i64 d] w fun r w' => ∃ v', r = .returned v' ∧ w'.ownsRow B0 50 3 v' (l ++ nodesN n d t).length (encNts (l ++ nodesN n d t)) ∧ Below B0 w w' := by
  intro n
  induction n with
  | zero =>
    intro t d l w ov h hw hl4 hB hBw hov hlen hd
    obtain ⟨oa, oc, rfl⟩ := slice_of_row hov
    obtain ⟨sa, sc0, ka, kd, -, ek, t0, t1, -⟩ := h.sh.view
    have hz : t.kids.length = 0 := by rw [h.2]; rfl
    rw [hz] at t1
    have hlf := leaf_any w.drew (h.sh.below (Below.refl _ _).drew)
    rw [hz] at hlf
    have htb : t.b < B0 := hB t.b (by have := sc_b t; show sc t.b t ≠ 0; omega)
    obtain ⟨el, hel⟩ : ∃ el, t.es.length = el := ⟨_, rfl⟩
    rw [hel] at t0
    have P0 := fun (w' : World) (h : w'.heap[t.b]? = w.heap[t.b]?) => (World.cell?_of_block (a := ⟨t.b, 0, none⟩) h).trans t0
    have hll : l.length ≤ 1000000 - 1 := by
      have : (nodesN 0 d t).length = 1 := rfl
      omega
    obtain ⟨m, hm⟩ : ∃ m, l.length = m := ⟨_, rfl⟩
    rw [hm] at hov hll ⊢
    obtain ⟨i0, hi, hz0, hz1, hz2⟩ := info_parts infoNt
    have HH := (show Hid _ from And.intro hov (And.intro hm hel))
    clear h hw hl4 hB hov hlen ek hm
    have h0 : (fun w' : World => w'.heap[t.b]? = w.heap[t.b]?) w.drew := rfl
    go_enter Try.func38, Try.ntmps38
    go_wp2_with fail
    refine wp_region_held (S := fun w' => w'.heap[t.b]? = w.heap[t.b]?) mixed ?_
    refine wpAnyH_take (i := 0) (oi := ⟨_, _, _, _, _, _⟩) (v := ?v1) rfl (by kernel_rfl) (by kernel_rfl) (by kernel_rfl) (fun _ _ _ h => h) (Or.inl ⟨by rfl, ?hy1⟩) h0 ?rest1
    case hy1 => (intro w hSw; (try dsimp only at hSw); go_simp; try with_reducible rfl)
    simp only [Act.put, List.setIfInBounds_toArray, List.set_cons_zero, List.set_cons_succ]
    refine wpAnyH_take (i := 1) (oi := ⟨_, _, _, _, _, _⟩) (v := ?v2) rfl (by kernel_rfl) (by kernel_rfl) (by kernel_rfl) (fun _ _ _ h => h) (Or.inl ⟨by rfl, ?hy2⟩) h0 ?rest2
    case hy2 => (intro w hSw; (try dsimp only at hSw); go_simp; try with_reducible rfl)
    simp only [Act.put, List.setIfInBounds_toArray, List.set_cons_zero, List.set_cons_succ]
    refine wpAnyH_take (i := 2) (oi := ⟨_, _, _, _, _, _⟩) (v := ?v3) rfl (by kernel_rfl) (by kernel_rfl) (by kernel_rfl) (fun _ _ _ h => h) (Or.inl ⟨by rfl, ?hy3⟩) h0 ?rest3
    case hy3 => (intro w hSw; (try dsimp only at hSw); go_simp; try with_reducible rfl)
    simp only [Act.put, List.setIfInBounds_toArray, List.set_cons_zero, List.set_cons_succ]
    refine wpAnyH_take (i := 3) (oi := ⟨_, _, _, _, _, _⟩) (v := ?v4) rfl (by kernel_rfl) (by kernel_rfl) (by kernel_rfl) (fun _ _ _ h => h) (Or.inl ⟨by rfl, ?hy4⟩) h0 ?rest4
    case hy4 => (intro w hSw; (try dsimp only at hSw); go_simp; try with_reducible rfl)
    simp only [Act.put, List.setIfInBounds_toArray, List.set_cons_zero, List.set_cons_succ]
    refine wpAnyH_take (i := 4) (oi := ⟨_, _, _, _, _, _⟩) (v := ?v5) rfl (by kernel_rfl) (by kernel_rfl) (by kernel_rfl) (fun _ _ _ h => h) (Or.inl ⟨by rfl, ?hy5⟩) h0 ?rest5
    case hy5 => (intro w hSw; (try dsimp only at hSw); go_simp; try with_reducible rfl)
    simp only [Act.put, List.setIfInBounds_toArray, List.set_cons_zero, List.set_cons_succ]
    refine wpAnyH_take (i := 5) (oi := ⟨_, _, _, _, _, _⟩) (v := ?v6) rfl (by kernel_rfl) (by kernel_rfl) (by kernel_rfl) (fun _ _ _ h => h) (Or.inl ⟨by rfl, ?hy6⟩) h0 ?rest6
    case hy6 => (intro w hSw; (try dsimp only at hSw); go_simp; try with_reducible rfl)
    simp only [Act.put, List.setIfInBounds_toArray, List.set_cons_zero, List.set_cons_succ]
    refine wpAnyH_take (i := 6) (oi := ⟨_, _, _, _, _, _⟩) (v := ?v7) rfl (by kernel_rfl) (by kernel_rfl) (by kernel_rfl) (fun _ _ _ h => h) (Or.inl ⟨by rfl, ?hy7⟩) h0 ?rest7
    case hy7 => (intro w hSw; (try dsimp only at hSw); go_simp; try with_reducible rfl)
    simp only [Act.put, List.setIfInBounds_toArray, List.set_cons_zero, List.set_cons_succ]
    refine wpAnyH_take (i := 7) (oi := ⟨_, _, _, _, _, _⟩) (v := ?v8) rfl (by kernel_rfl) (by kernel_rfl) (by kernel_rfl) (fun _ _ _ h => h) (Or.inl ⟨by rfl, ?hy8⟩) h0 ?rest8
    case hy8 => (intro w hSw; (try dsimp only at hSw); go_simp; try with_reducible rfl)
    simp only [Act.put, List.setIfInBounds_toArray, List.set_cons_zero, List.set_cons_succ]
    refine wpAnyH_ready (rs := [8]) (by kernel_rfl) (by simp) ?_
    refine AllReadyH.cons (o := ⟨_, _, _, _, _, _⟩) rfl (fun K hK => ?_) AllReadyH.nil
    go_simp
    refine hlf.mono ?_
    rintro e w1 ⟨rfl, hw1⟩
    subst hw1
    refine hK.out _ _ h0 (fun hHeld => ?_)
    clear hK K hHeld
    try simp only [Act.put, List.setIfInBounds_toArray, List.set_cons_zero, List.set_cons_succ]
    refine wpAnyH_take (i := 9) (oi := ⟨_, _, _, _, _, _⟩) (v := ?v9) rfl (by kernel_rfl) (by kernel_rfl) (by kernel_rfl) (fun _ _ _ h => h) (Or.inl ⟨by rfl, ?hy9⟩) h0 ?rest9
    case hy9 => (intro w hSw; (try dsimp only at hSw); go_simp; try with_reducible rfl)
    simp only [Act.put, List.setIfInBounds_toArray, List.set_cons_zero, List.set_cons_succ]
    refine wpAnyH_ready (rs := [10]) (by kernel_rfl) (by simp) ?_
    refine AllReadyH.cons (o := ⟨_, _, _, _, _, _⟩) rfl (fun K hK => ?_) AllReadyH.nil
    go_simp
    have hb1 : Below B0 w (w.alloc (.cells #[.int .i64 d, .int .i64 el, .bool true] 50)).drew := ((Below.refl _ _).alloc hBw _).drew
    have h1 : (w.alloc (.cells #[.int .i64 d, .int .i64 el, .bool true] 50)).drew.heap[t.b]? = w.heap[t.b]? := hb1.block t.b htb
    refine hK.out _ _ h1 (fun hHeld => ?_)
    clear hK K hHeld
    try simp only [Act.put, List.setIfInBounds_toArray, List.set_cons_zero, List.set_cons_succ]
    obtain ⟨w1, hw1⟩ : ∃ w1, (w.alloc (.cells #[.int .i64 d, .int .i64 el, .bool true] 50)).drew = w1 := ⟨_, rfl⟩
    have hn1 : w1.heap[w.heap.size]? = some (.cells #[.int .i64 d, .int .i64 el, .bool true] 50 (0, 0)) := by rw [← hw1]; exact heap_alloc_new w _
    have hs1 : w.heap.size ≤ w1.heap.size := by rw [← hw1]; show _ ≤ (w.alloc _).heap.size; simp
    have hbw1 : Below w.heap.size w w1 := by rw [← hw1]; exact ((Below.refl _ _).alloc (Nat.le_refl _) _).drew
    rw [hw1] at h1 hb1 ⊢
    have hov := HH.out.1
    have hown1 := own_keep (W' := w1) hov fun a ha => hbw1.block a (own_lt hov ha)
    refine wpAnyH_ready (rs := [11]) (by kernel_rfl) (by simp) ?_
    refine AllReadyH.cons (o := ⟨_, _, _, _, _, _⟩) rfl (fun K hK => ?_) AllReadyH.nil
    refine step_append_lies _ rfl (.tmp 9) (.tmp 19) 47 rfl B0 50 i0 _ 3 24 Try.underlying47 hi hz0 hz1 hz2 rfl (by decide) _ m (encNts l) (by simp [Act.eval]) hown1 ⟨w.heap.size, 0, none⟩ 1 1 [.int .i64 d, .int .i64 el, .bool true] (by simp [Act.eval]) rfl (World.news_of_block hn1) (by intro u hu; simp only [List.mem_cons, List.not_mem_nil, or_false] at hu; rcases hu with rfl | rfl | rfl <;> rfl) (by omega) (by unfold maxLen; omega) (by omega) (by omega) _ rfl ?_
    intro g cap w2 hown2 hgrow2 hlie2 hlt2
    have hb2 : Below B0 w w2 := hb1.grown hgrow2 (by omega) fun k hk => (hown1.lt k hk).1
    have h2 : w2.heap[t.b]? = w.heap[t.b]? := hb2.block t.b htb
    have G := (show Hid _ from And.intro hown2 hb2)
    clear hown2 hgrow2 hlie2 hlt2 hown1 hov hbw1 hn1 hs1 hw1 hb2
    refine hK.out _ _ h2 (fun hHeld => ?_)
    clear hK K hHeld
    try simp only [Act.put, List.setIfInBounds_toArray, List.set_cons_zero, List.set_cons_succ]
    refine wpAnyH_take (i := 12) (oi := ⟨_, _, _, _, _, _⟩) (v := ?v10) rfl (by kernel_rfl) (by kernel_rfl) (by kernel_rfl) (fun _ _ _ h => h) (Or.inl ⟨by rfl, ?hy10⟩) h2 ?rest10
    case hy10 => (intro w hSw; (try dsimp only at hSw); go_simp; try with_reducible rfl)
    simp only [Act.put, List.setIfInBounds_toArray, List.set_cons_zero, List.set_cons_succ]
    refine wpAnyH_done (by kernel_rfl) ?_ _
    have g1 := (World.cell?_of_block (a := ⟨t.b, 1, none⟩) h2).trans t1
    clear P0 h0 h1 h2 hb1 hi hz0 hz1 hz2 hlf t0
    go_wp2
    refine wp_loop_rounds 1 ?_
    rw [rounds_succ]
    go_wp2
    go_ret
    obtain ⟨hown2, hb2⟩ := G.out
    obtain ⟨-, hm, hel⟩ := HH.out
    refine ⟨_, rfl, ?_, hb2⟩
    have e1 : l ++ nodesN 0 d t = l ++ [(d, el, true)] := by rw [← hel]; rfl
    rw [e1, List.length_append, hm, encNts_append]
    exact hown2
  | succ n ih =>
    intro t d l w ov h hw hl4 hB hBw hov hlen hd
    obtain ⟨oa, oc, rfl⟩ := slice_of_row hov
    obtain ⟨N, hN⟩ : ∃ N, t.kids.length = N := ⟨_, rfl⟩
    have hN1 : 1 ≤ N := by have := hw.1; omega
    obtain ⟨k0, hk0⟩ : ∃ k0, t.kids[0]? = some k0 := ⟨_, List.getElem?_eq_getElem (by omega)⟩
    obtain ⟨sa, sc0, -, -, -, -, t0, -, -⟩ := h.1.view
    obtain ⟨B, kc, ek, hkc1, hkc2, t1, -, -⟩ := h.1.kidv hk0
    rw [hN] at t1 hkc1
    have hlf := leaf_any w.drew (h.1.below (Below.refl _ _).drew)
    rw [hN, decide_eq_false (show ¬ N = 0 by omega)] at hlf
    have htb : t.b < B0 := hB t.b (by have := sc_b t; have := tc_sc (n + 1) t.b t; omega)
    have hBB : B < B0 := hB B (by
      have h1 : vc B t.k = 1 := vc_of (by rw [ek]; rfl)
      have h2 : vc B t.k ≤ sc B t := by unfold sc; omega
      have := tc_sc (n + 1) B t
      omega)
    obtain ⟨el, hel⟩ : ∃ el, t.es.length = el := ⟨_, rfl⟩
    rw [hel] at t0
    have P0 := fun (w' : World) (h : w'.heap[t.b]? = w.heap[t.b]?) => (World.cell?_of_block (a := ⟨t.b, 0, none⟩) h).trans t0
    have hnd : nodesN (n + 1) d t = (d, el, false) :: t.kids.flatMap (nodesN n (d + 1)) := by rw [← hel]; rfl
    rw [hnd] at hlen ⊢
    have hlen2 : l.length + 1 + (t.kids.flatMap (nodesN n (d + 1))).length ≤ 1000000 := by rw [List.length_cons] at hlen; omega
    have hll : l.length ≤ 1000000 - 1 := by omega
    have hN2 : N ≤ 5 := by have := hw.1; omega
    obtain ⟨m, hm⟩ : ∃ m, l.length = m := ⟨_, rfl⟩
    rw [hm] at hov hll hlen2 ⊢
    obtain ⟨i0, hi, hz0, hz1, hz2⟩ := info_parts infoNt
    have HH := (show Hid _ from And.intro hov (And.intro hm (And.intro hel (And.intro h (And.intro hw (And.intro hB (And.intro hlen2 (And.intro ih (And.intro hN ek)))))))))
    have HZ : Hid (wrap64 ((d : Int) + 1) = (d : Int) + 1) := by unfold Hid wrap64; omega
    obtain ⟨X, hX⟩ : ∃ X, l ++ (d, el, false) :: t.kids.flatMap (nodesN n (d + 1)) = X := ⟨_, rfl⟩
    rw [hX]
    obtain ⟨XL, hXL⟩ : ∃ XL, X.length = XL := ⟨_, rfl⟩
    rw [hXL]
    clear h hw hl4 hB hov hlen ek hm hk0 hnd hlen2 ih hel hN
    have h0 : (fun w' : World => w'.heap[t.b]? = w.heap[t.b]?) w.drew := rfl
    go_enter Try.func38, Try.ntmps38
    go_wp2_with fail
    refine wp_region_held (S := fun w' => w'.heap[t.b]? = w.heap[t.b]?) mixed ?_
    refine wpAnyH_take (i := 0) (oi := ⟨_, _, _, _, _, _⟩) (v := ?v11) rfl (by kernel_rfl) (by kernel_rfl) (by kernel_rfl) (fun _ _ _ h => h) (Or.inl ⟨by rfl, ?hy11⟩) h0 ?rest11
    case hy11 => (intro w hSw; (try dsimp only at hSw); go_simp; try with_reducible rfl)
    simp only [Act.put, List.setIfInBounds_toArray, List.set_cons_zero, List.set_cons_succ]
    refine wpAnyH_take (i := 1) (oi := ⟨_, _, _, _, _, _⟩) (v := ?v12) rfl (by kernel_rfl) (by kernel_rfl) (by kernel_rfl) (fun _ _ _ h => h) (Or.inl ⟨by rfl, ?hy12⟩) h0 ?rest12
    case hy12 => (intro w hSw; (try dsimp only at hSw); go_simp; try with_reducible rfl)
    simp only [Act.put, List.setIfInBounds_toArray, List.set_cons_zero, List.set_cons_succ]
    refine wpAnyH_take (i := 2) (oi := ⟨_, _, _, _, _, _⟩) (v := ?v13) rfl (by kernel_rfl) (by kernel_rfl) (by kernel_rfl) (fun _ _ _ h => h) (Or.inl ⟨by rfl, ?hy13⟩) h0 ?rest13
    case hy13 => (intro w hSw; (try dsimp only at hSw); go_simp; try with_reducible rfl)
    simp only [Act.put, List.setIfInBounds_toArray, List.set_cons_zero, List.set_cons_succ]
    refine wpAnyH_take (i := 3) (oi := ⟨_, _, _, _, _, _⟩) (v := ?v14) rfl (by kernel_rfl) (by kernel_rfl) (by kernel_rfl) (fun _ _ _ h => h) (Or.inl ⟨by rfl, ?hy14⟩) h0 ?rest14
    case hy14 => (intro w hSw; (try dsimp only at hSw); go_simp; try with_reducible rfl)
    simp only [Act.put, List.setIfInBounds_toArray, List.set_cons_zero, List.set_cons_succ]
    refine wpAnyH_take (i := 4) (oi := ⟨_, _, _, _, _, _⟩) (v := ?v15) rfl (by kernel_rfl) (by kernel_rfl) (by kernel_rfl) (fun _ _ _ h => h) (Or.inl ⟨by rfl, ?hy15⟩) h0 ?rest15
    case hy15 => (intro w hSw; (try dsimp only at hSw); go_simp; try with_reducible rfl)
    simp only [Act.put, List.setIfInBounds_toArray, List.set_cons_zero, List.set_cons_succ]
    refine wpAnyH_take (i := 5) (oi := ⟨_, _, _, _, _, _⟩) (v := ?v16) rfl (by kernel_rfl) (by kernel_rfl) (by kernel_rfl) (fun _ _ _ h => h) (Or.inl ⟨by rfl, ?hy16⟩) h0 ?rest16
    case hy16 => (intro w hSw; (try dsimp only at hSw); go_simp; try with_reducible rfl)
    simp only [Act.put, List.setIfInBounds_toArray, List.set_cons_zero, List.set_cons_succ]
    refine wpAnyH_take (i := 6) (oi := ⟨_, _, _, _, _, _⟩) (v := ?v17) rfl (by kernel_rfl) (by kernel_rfl) (by kernel_rfl) (fun _ _ _ h => h) (Or.inl ⟨by rfl, ?hy17⟩) h0 ?rest17
    case hy17 => (intro w hSw; (try dsimp only at hSw); go_simp; try with_reducible rfl)
    simp only [Act.put, List.setIfInBounds_toArray, List.set_cons_zero, List.set_cons_succ]
    refine wpAnyH_take (i := 7) (oi := ⟨_, _, _, _, _, _⟩) (v := ?v18) rfl (by kernel_rfl) (by kernel_rfl) (by kernel_rfl) (fun _ _ _ h => h) (Or.inl ⟨by rfl, ?hy18⟩) h0 ?rest18
    case hy18 => (intro w hSw; (try dsimp only at hSw); go_simp; try with_reducible rfl)
    simp only [Act.put, List.setIfInBounds_toArray, List.set_cons_zero, List.set_cons_succ]
    refine wpAnyH_ready (rs := [8]) (by kernel_rfl) (by simp) ?_
    refine AllReadyH.cons (o := ⟨_, _, _, _, _, _⟩) rfl (fun K hK => ?_) AllReadyH.nil
    go_simp
    refine hlf.mono ?_
    rintro e w1 ⟨rfl, hw1⟩
    subst hw1
    refine hK.out _ _ h0 (fun hHeld => ?_)
    clear hK K hHeld
    try simp only [Act.put, List.setIfInBounds_toArray, List.set_cons_zero, List.set_cons_succ]
    refine wpAnyH_take (i := 9) (oi := ⟨_, _, _, _, _, _⟩) (v := ?v19) rfl (by kernel_rfl) (by kernel_rfl) (by kernel_rfl) (fun _ _ _ h => h) (Or.inl ⟨by rfl, ?hy19⟩) h0 ?rest19
    case hy19 => (intro w hSw; (try dsimp only at hSw); go_simp; try with_reducible rfl)
    simp only [Act.put, List.setIfInBounds_toArray, List.set_cons_zero, List.set_cons_succ]
    refine wpAnyH_ready (rs := [10]) (by kernel_rfl) (by simp) ?_
    refine AllReadyH.cons (o := ⟨_, _, _, _, _, _⟩) rfl (fun K hK => ?_) AllReadyH.nil
    go_simp
    have hb1 : Below B0 w (w.alloc (.cells #[.int .i64 d, .int .i64 el, .bool false] 50)).drew := ((Below.refl _ _).alloc hBw _).drew
    have h1 : (w.alloc (.cells #[.int .i64 d, .int .i64 el, .bool false] 50)).drew.heap[t.b]? = w.heap[t.b]? := hb1.block t.b htb
    refine hK.out _ _ h1 (fun hHeld => ?_)
    clear hK K hHeld
    try simp only [Act.put, List.setIfInBounds_toArray, List.set_cons_zero, List.set_cons_succ]
    obtain ⟨w1, hw1⟩ : ∃ w1, (w.alloc (.cells #[.int .i64 d, .int .i64 el, .bool false] 50)).drew = w1 := ⟨_, rfl⟩
    have hn1 : w1.heap[w.heap.size]? = some (.cells #[.int .i64 d, .int .i64 el, .bool false] 50 (0, 0)) := by rw [← hw1]; exact heap_alloc_new w _
    have hs1 : w.heap.size ≤ w1.heap.size := by rw [← hw1]; show _ ≤ (w.alloc _).heap.size; simp
    have hbw1 : Below w.heap.size w w1 := by rw [← hw1]; exact ((Below.refl _ _).alloc (Nat.le_refl _) _).drew
    rw [hw1] at h1 hb1 ⊢
    have hov := HH.out.1
    have hown1 := own_keep (W' := w1) hov fun a ha => hbw1.block a (own_lt hov ha)
    refine wpAnyH_ready (rs := [11]) (by kernel_rfl) (by simp) ?_
    refine AllReadyH.cons (o := ⟨_, _, _, _, _, _⟩) rfl (fun K hK => ?_) AllReadyH.nil
    refine step_append_lies _ rfl (.tmp 9) (.tmp 19) 47 rfl B0 50 i0 _ 3 24 Try.underlying47 hi hz0 hz1 hz2 rfl (by decide) _ m (encNts l) (by simp [Act.eval]) hown1 ⟨w.heap.size, 0, none⟩ 1 1 [.int .i64 d, .int .i64 el, .bool false] (by simp [Act.eval]) rfl (World.news_of_block hn1) (by intro u hu; simp only [List.mem_cons, List.not_mem_nil, or_false] at hu; rcases hu with rfl | rfl | rfl <;> rfl) (by omega) (by unfold maxLen; omega) (by omega) (by omega) _ rfl ?_
    intro g cap w2 hown2 hgrow2 hlie2 hlt2
    have hb2 : Below B0 w w2 := hb1.grown hgrow2 (by omega) fun k hk => (hown1.lt k hk).1
    have h2 : w2.heap[t.b]? = w.heap[t.b]? := hb2.block t.b htb
    have G := (show Hid _ from And.intro hown2 hb2)
    clear hown2 hgrow2 hlie2 hlt2 hown1 hov hbw1 hn1 hs1 hw1 hb2
    refine hK.out _ _ h2 (fun hHeld => ?_)
    clear hK K hHeld
    try simp only [Act.put, List.setIfInBounds_toArray, List.set_cons_zero, List.set_cons_succ]
    refine wpAnyH_take (i := 12) (oi := ⟨_, _, _, _, _, _⟩) (v := ?v20) rfl (by kernel_rfl) (by kernel_rfl) (by kernel_rfl) (fun _ _ _ h => h) (Or.inl ⟨by rfl, ?hy20⟩) h2 ?rest20
    case hy20 => (intro w hSw; (try dsimp only at hSw); go_simp; try with_reducible rfl)
    simp only [Act.put, List.setIfInBounds_toArray, List.set_cons_zero, List.set_cons_succ]
    refine wpAnyH_done (by kernel_rfl) ?_ _
    have g1 := (World.cell?_of_block (a := ⟨t.b, 1, none⟩) h2).trans t1
    clear P0 h0 h1 h2 hb1 hi hz0 hz1 hz2 hlf t0
    go_wp2
    go_loopg [1, 8, 26] N (fun gg ov' _ i wr => ∃ j : Nat, j ≤ N ∧ N - j ≤ gg ∧ i = .int .i64 j ∧ Aside (wr.ownsRow B0 50 3 ov' (l ++ (d, el, false) :: (t.kids.take j).flatMap (nodesN n (d + 1))).length (encNts (l ++ (d, el, false) :: (t.kids.take j).flatMap (nodesN n (d + 1)))) ∧ Below B0 w wr))
    case atStart =>
      obtain ⟨hown2, hb2⟩ := G.out
      refine ⟨0, Nat.zero_le _, by omega, rfl, ?_, hb2⟩
      have e1 : l ++ (d, el, false) :: (t.kids.take 0).flatMap (nodesN n (d + 1)) = l ++ [(d, el, false)] := rfl
      rw [e1, List.length_append, HH.out.2.1, encNts_append]
      exact hown2
    case round =>
      obtain ⟨j, hjN, hgg, rfl, HR⟩ := hrel
      obtain ⟨hrow, hbR⟩ := HR.out
      obtain ⟨va, vcp, rfl⟩ := slice_of_row hrow
      obtain ⟨q, hq⟩ : ∃ q, (l ++ (d, el, false) :: (t.kids.take j).flatMap (nodesN n (d + 1))).length = q := ⟨_, rfl⟩
      rw [hq] at hrow ⊢
      clear HR
      by_cases hj : j < N
      · obtain ⟨hov0, hm, hel, h, hw, hB, hlen2, ih, hN, ek⟩ := HH.out
        obtain ⟨k, hk⟩ : ∃ k, t.kids[j]? = some k := ⟨_, List.getElem?_eq_getElem (by omega)⟩
        have hkm := List.mem_of_getElem? hk
        have hkw := hw.2 k hkm
        have hkB : ∀ a, tc n a k ≠ 0 → a < B0 := fun a ha => hB a (by
          have h2 := le_sum (tc n a) hkm
          have h3 : tc (n + 1) a t = sc a t + (t.kids.map (tc n a)).sum := rfl
          omega)
        have hkl : Live n wr k := (h.2.2 k hkm).keep fun a ha => hbR.block a (hkB a ha)
        obtain ⟨B', kc', ek', -, -, -, ck, -⟩ := h.1.kidv hk
        obtain ⟨rfl, -⟩ : B' = B ∧ True := by
          rw [ek] at ek'
          simp only [Value.slice.injEq, Option.some.injEq, Addr.mk.injEq, true_and, and_true] at ek'
          exact ⟨ek'.1.symm, trivial⟩
        have ckr := (hbR.cell (p := ⟨B', j, none⟩) hBB).trans ck
        have hLj : (l ++ (d, el, false) :: (t.kids.take j).flatMap (nodesN n (d + 1))).length + (nodesN n (d + 1) k).length ≤ 1000000 := by
          have h1 := take_le n (d + 1) t.kids (j + 1)
          rw [nodes_flat n (d + 1) t.kids j k hk, List.length_append] at h1
          rw [List.length_append, List.length_cons, hm]
          omega
        have hcall := ih k (d + 1) _ wr _ hkl hkw.1 (by omega) hkB (Nat.le_trans hBw hbR.size) (by rw [hq]; exact hrow) hLj (by omega)
        have zj : (j : Int) < (N : Int) := by omega
        have e2 : l ++ (d, el, false) :: (t.kids.take (j + 1)).flatMap (nodesN n (d + 1)) = l ++ (d, el, false) :: (t.kids.take j).flatMap (nodesN n (d + 1)) ++ nodesN n (d + 1) k := by
          rw [nodes_flat n (d + 1) t.kids j k hk]; simp
        have HE := (show Hid _ from And.intro e2 hbR)
        rw [show ((d + 1 : Nat) : Int) = (d : Int) + 1 by omega] at hcall
        clear hov0 hm hel h hw hB hlen2 ih hN ek hk hkm hkw hkB hkl ek' ck hLj e2 hrow hbR hq
        have HC := (show Hid _ from hcall)
        have HG := (show Hid _ from And.intro hgg (And.intro hjN (And.intro hj hN2)))
        clear hcall hd hll hN1 hN2 hBw htb hBB hkc1 hkc2 hgg hjN hj
        have zw := HZ.out
        go_wp2_with fail
        refine Calls.mono HC.out ?_
        rintro e w3 ⟨v3, rfl, hr3, hb3⟩
        have G3 := (show Hid _ from And.intro hr3 hb3)
        clear hr3 hb3 ckr HC
        go_wp2
        go_roundg (N - (j + 1))
        case measure => have := HG.out; omega
        case rel =>
          obtain ⟨hg3, hg4, hg5, hg6⟩ := HG.out
          have hw1 : wrap64 ((j : Int) + 1) = ((j + 1 : Nat) : Int) := by unfold wrap64; omega
          refine ⟨j + 1, by omega, by omega, by rw [hw1], ?_, HE.out.2.trans G3.out.2⟩
          rw [HE.out.1]
          exact G3.out.1
      · obtain rfl : N = j := by omega
        have hN := HH.out.2.2.2.2.2.2.2.2.1
        have e2 : t.kids.take N = t.kids := List.take_of_length_le (by omega)
        rw [e2, hX] at hrow hq
        obtain rfl : q = XL := hq.symm.trans hXL
        have HE := (show Hid _ from And.intro hrow hbR)
        have zj : ¬ (N : Int) < (N : Int) := by omega
        clear hrow hbR e2 hq
        go_wp2
        go_ret
        exact ⟨_, rfl, HE.out.1, HE.out.2⟩
end Go.Proofs.Ytgnhillnikjnfaa

namespace Go.Proofs.Ytgnhillnikjnfaa
open Go.RowKit

/-- what is there behind rise, and sink. -/
def RiseV (W : World) (T n : Nat) (t : Nd) (c : Int) (W' : World) : Prop :=
  ∃ n' t', W'.heap[T]? = some (.cells #[.pointer (some ⟨t'.b, 0, none⟩), .int .i64 c] 58 (0, 0)) ∧ Own n' W' t' ∧ TopN n' t' ∧ flatN n' t' = flatN n t ∧ tc n' T t' = 0 ∧ (∀ a, a < W.heap.size → tc n' a t' ≤ tc n a t) ∧ Chg (fun a => (if a = T then 1 else 0) + tc n a t) W W'
section
variable {n i : Nat} {w : World} {t c : Nd}
theorem split5N_any (h : Own (n + 1) w t) (hx : WfX n t (fun j => j = i)) (hc : t.kids[i]? = some c) (h5 : c.es.length = 5) (ht : t.es.length ≤ 4) :
    Calls Try.prog 42 #[.pointer (some ⟨t.b, 0, none⟩), .int .i64 i] w fun e w' => e = .returned (.tuple #[]) ∧ Again n w t w' (t.es.length + 1) (t.es.length + 1) := by
  have hi := (List.getElem?_eq_some_iff.1 hc).1
  have hx1 := hx.1
  have hk : t.kids = t.kids.take i ++ [c] ++ t.kids.drop (i + 1) := by
    conv => lhs; rw [split_at hc]
    simp
  have hS : St w [t, c] := own_st h hk
  cases n with
  | zero =>
    refine (split_leaf t c i w hS hc h5 (hx.2 i c hc).1 (by omega) (by omega) (by omega)).mono ?_
    rintro e w' ⟨rfl, hv⟩
    exact ⟨rfl, lift_split h hx hc h5 hv⟩
  | succ n =>
    refine (split_deep t c i w hS hc h5 (by have := (hx.2 i c hc).1.1; omega) (by omega) (by omega) (by omega)).mono ?_
    rintro e w' ⟨rfl, hv⟩
    exact ⟨rfl, lift_split h hx hc h5 hv⟩
end

set_option maxRecDepth 100000 in
set_option maxHeartbeats 2000000 in
theorem rise_any (T n : Nat) (t : Nd) (c : Int) (W : World) (hT : W.heap[T]? = some (.cells #[.pointer (some ⟨t.b, 0, none⟩), .int .i64 c] 58 (0, 0))) (h : Own n W t) (hw : WfN n t) (hl5 : t.es.length ≤ 5) (hl1 : n = 0 ∨ 1 ≤ t.es.length) (hap : tc n T t = 0) :
    Calls Try.prog 28 #[.pointer (some ⟨T, 0, none⟩)] W fun e w' => e = .returned (.tuple #[]) ∧ RiseV W T n t c w' := by
  obtain ⟨sa, sc0, -, -, -, -, t0, -, -⟩ := h.1.sh.view
  have c0 : W.cell? ⟨T, 0, none⟩ = some (.pointer (some ⟨t.b, 0, none⟩)) := by simp [World.cell?, hT]
  have cf : ∀ j, W.frozen? ⟨T, j, none⟩ = false := fun j => by simp [World.frozen?, hT]
  have hTl := lt_of_heap hT
  by_cases h4 : t.es.length ≤ 4
  · have hfin : RiseV W T n t c W := ⟨n, t, hT, h, ⟨hw, h4, hl1⟩, rfl, hap, fun _ _ => Nat.le_refl _, Chg.refl _ _⟩
    have z4 : ¬ (4 : Int) < (t.es.length : Int) := by omega
    generalize t.es.length = m at *
    clear hT h hw hap
    go_enter Try.func28, Try.ntmps28
    go_wp2
    exact bodyPost_end (v := .tuple #[]) (by simp [results, Try.results28, go_sem]) rfl ⟨rfl, hfin⟩
  · have h5 : t.es.length = 5 := by omega
    obtain ⟨W1, hW1⟩ : ∃ W1, W.alloc (.cells #[.pointer (some ⟨t.b, 0, none⟩)] 53) = W1 := ⟨_, rfl⟩
    obtain ⟨W2, hW2⟩ : ∃ W2, W1.alloc (.cells #[.slice none 0 0, .slice (some ⟨W.heap.size, 0, none⟩) 1 1] 56) = W2 := ⟨_, rfl⟩
    obtain ⟨W3, hW3⟩ : ∃ W3, W2.setCell ⟨T, 0, none⟩ (.pointer (some ⟨W1.heap.size, 0, none⟩)) = W3 := ⟨_, rfl⟩
    have hs1 : W1.heap.size = W.heap.size + 1 := by rw [← hW1]; simp
    have hs2 : W2.heap.size = W.heap.size + 2 := by rw [← hW2]; simp [hs1]
    have hs3 : W3.heap.size = W.heap.size + 2 := by rw [← hW3]; simp [World.setCell, hs2]
    have hb1 : Below W.heap.size W W1 := by rw [← hW1]; exact (Below.refl _ _).alloc (Nat.le_refl _) _
    have hb2 : Below W1.heap.size W1 W2 := by rw [← hW2]; exact (Below.refl _ _).alloc (Nat.le_refl _) _
    have hbb : Below W.heap.size W W2 := hb1.trans (hb2.mono hb1.size)
    have hset : ∀ a, a ≠ T → W3.heap[a]? = W2.heap[a]? := fun a ha => by rw [← hW3]; exact Below.heap_setCell _ _ _ _ ha
    have hT2 : W2.heap[T]? = some (.cells #[.pointer (some ⟨t.b, 0, none⟩), .int .i64 c] 58 (0, 0)) := (hbb.block T hTl).trans hT
    have hT3 : W3.heap[T]? = some (.cells #[.pointer (some ⟨W1.heap.size, 0, none⟩), .int .i64 c] 58 (0, 0)) := by rw [← hW3, heap_setCell_at hT2]; rfl
    have hrow : W1.heap[W.heap.size]? = some (.cells #[.pointer (some ⟨t.b, 0, none⟩)] 53 (0, 0)) := by rw [← hW1]; exact heap_alloc_new _ _
    have hnode : W2.heap[W1.heap.size]? = some (.cells #[.slice none 0 0, .slice (some ⟨W.heap.size, 0, none⟩) 1 1] 56 (0, 0)) := by rw [← hW2]; exact heap_alloc_new _ _
    obtain ⟨t2, ht2⟩ : ∃ t2 : Nd, t2 = ⟨W1.heap.size, .slice none 0 0, .slice (some ⟨W.heap.size, 0, none⟩) 1 1, [], [t]⟩ := ⟨_, rfl⟩
    have hsc : ∀ a, sc a t2 = (if a = W1.heap.size then 1 else 0) + (if a = W.heap.size then 1 else 0) := fun a => by
      rw [ht2]; unfold sc; rw [vc_at, vc_nil]; rfl
    have htot : ∀ a, tc (n + 1) a t2 = sc a t2 + tc n a t := fun a => by
      rw [ht2]; show sc a _ + ([t].map (tc n a)).sum = _; simp
    have hold : ∀ a, W.heap.size ≤ a → tc n a t = 0 := fun a ha => Classical.byContradiction fun hc => by have := h.1.lt hc; omega
    have hO2 : Own (n + 1) W3 t2 := by
      refine ⟨⟨⟨?_, ?_, ?_, fun hc => by rw [ht2] at hc; cases hc⟩, by rw [ht2]; rfl, fun k hk => ?_⟩, fun a => ?_⟩
      · rw [ht2]; exact (hset _ (show W1.heap.size ≠ T by omega)).trans hnode
      · rw [ht2]; exact World.ownsRow_nil _ _ _ _
      · rw [ht2]
        refine ⟨rfl, .inr ⟨W.heap.size, 1, _, rfl, Nat.zero_le _, (hset _ (show W.heap.size ≠ T by omega)).trans ((hb2.block _ (by omega)).trans hrow), Nat.le_refl _, by unfold maxLen; omega, rfl, rfl⟩⟩
      · rw [ht2] at hk
        rw [List.mem_singleton.1 hk]
        exact h.1.keep fun a ha => by
          have := h.1.lt ha
          rw [hset a (fun hc => ha (by rw [hc]; exact hap)), hbb.block a this]
      · rw [htot, hsc]
        have h7 := h.2 a
        by_cases ha : a < W.heap.size
        · rw [if_neg (by omega), if_neg (by omega)]; omega
        · rw [hold a (by omega)]
          by_cases e1 : a = W1.heap.size
          · rw [if_pos e1, if_neg (by omega)]; omega
          · rw [if_neg e1]; split <;> omega
    have hx2 : WfX n t2 (fun j => j = 0) := by
      rw [ht2]
      refine ⟨rfl, fun j k hk => ?_⟩
      cases j with
      | zero =>
        have hk : some t = some k := hk
        cases hk
        exact ⟨hw, fun hc => absurd rfl hc⟩
      | succ j => simp at hk
    have hc2 : t2.kids[0]? = some t := by rw [ht2]; rfl
    have hsp := split5N_any (i := 0) hO2 hx2 hc2 h5 (by rw [ht2]; simp)
    have h2b : t2.b = W1.heap.size := by rw [ht2]
    have h2e : t2.es = [] := by rw [ht2]
    rw [h2b, h2e] at hsp
    have hapT : tc (n + 1) T t2 = 0 := by rw [htot, hsc, if_neg (by omega), if_neg (by omega)]; omega
    have hflt : flatN (n + 1) t2 = flatN n t := by rw [ht2]; show inter [] [flatN n t] = _; exact inter_one _
    have hTl3 : T < W3.heap.size := by omega
    have hchg : Chg (fun a => (if a = T then 1 else 0) + tc n a t) W W3 := ⟨by rw [← hW3]; exact hbb.os, by rw [← hW3]; exact hbb.tape, by rw [← hW3]; exact hbb.output, by omega, fun a ha hf => by
      have hne : a ≠ T := fun hc => by simp [hc] at hf
      rw [hset a hne, hbb.block a ha]⟩
    have d0 : W2.cell? ⟨T, 0, none⟩ = some (.pointer (some ⟨t.b, 0, none⟩)) := by simp [World.cell?, hT2]
    have df : ∀ j, W2.frozen? ⟨T, j, none⟩ = false := fun j => by simp [World.frozen?, hT2]
    have e0 : W3.cell? ⟨T, 0, none⟩ = some (.pointer (some ⟨W1.heap.size, 0, none⟩)) := by simp [World.cell?, hT3]
    have HH := (show Hid _ from And.intro hs1 (And.intro hs3 (And.intro hT3 (And.intro hsc (And.intro htot (And.intro hapT (And.intro hflt (And.intro hTl3 (And.intro hchg h2b)))))))))
    rw [h5] at t0
    clear hT h hw hl5 hl1 hap h4 h5 hs1 hs2 hs3 hb1 hb2 hbb hset hT2 hT3 hrow hnode ht2 hsc htot hold hO2 hx2 hc2 h2b h2e hapT hflt hchg
    go_enter Try.func28, Try.ntmps28
    go_wp2_with fail
    refine hsp.mono ?_
    rintro e w5 ⟨rfl, hag⟩
    have G := (show Hid _ from hag)
    clear hag hsp hW1 hW2 hW3
    go_wp2
    obtain ⟨hs1, hs3, hT3, hsc, htot, hapT, hflt, hTl3, hchg, h2e⟩ := HH.out
    obtain ⟨t3, a1, a2, a3, a4, a5⟩ := G.out
    have hne : t3.b = W1.heap.size := a1.b.trans h2e
    have hfin : RiseV W T n t c w5 := by
      refine ⟨n + 1, t3, ?_, a1.own, ⟨a2, by simp at a5; omega, .inr (by simpa using a4)⟩, a3.trans hflt, ?_, fun a ha => ?_, hchg.trans a1.chg fun a ha hf => ?_⟩
      · rw [a1.chg.block T hTl3 hapT, hne]; exact hT3
      · have := a1.cnt T hTl3; omega
      · have h1 := a1.cnt a (by omega)
        rw [htot, hsc, if_neg (by omega), if_neg (by omega)] at h1
        omega
      · have hf : (if a = T then 1 else 0) + tc n a t = 0 := hf
        show tc (n + 1) a t2 = 0
        rw [htot, hsc, if_neg (by omega), if_neg (by omega)]
        omega
    exact bodyPost_end (v := .tuple #[]) (by simp [results, Try.results28, go_sem]) rfl ⟨rfl, hfin⟩
end Go.Proofs.Ytgnhillnikjnfaa

namespace Go.Proofs.Ytgnhillnikjnfaa
open Go.RowKit

set_option maxRecDepth 100000 in
set_option maxHeartbeats 2000000 in
theorem sink_any (T n : Nat) (t : Nd) (c : Int) (W : World) (hT : W.heap[T]? = some (.cells #[.pointer (some ⟨t.b, 0, none⟩), .int .i64 c] 58 (0, 0))) (h : Own n W t) (hw : WfN n t) (hl4 : t.es.length ≤ 4) (hap : tc n T t = 0) :
    Calls Try.prog 30 #[.pointer (some ⟨T, 0, none⟩)] W fun e w' => e = .returned (.tuple #[]) ∧ RiseV W T n t c w' := by
  obtain ⟨sa, sc0, -, -, -, -, t0, -, -⟩ := h.1.sh.view
  have c0 : W.cell? ⟨T, 0, none⟩ = some (.pointer (some ⟨t.b, 0, none⟩)) := by simp [World.cell?, hT]
  have cf : ∀ j, W.frozen? ⟨T, j, none⟩ = false := fun j => by simp [World.frozen?, hT]
  have hTl := lt_of_heap hT
  have hfin : (n = 0 ∨ 1 ≤ t.es.length) → RiseV W T n t c W := fun hn => ⟨n, t, hT, h, ⟨hw, hl4, hn⟩, rfl, hap, fun _ _ => Nat.le_refl _, Chg.refl _ _⟩
  have hlf := leaf_any W h.1.sh
  by_cases h1 : 1 ≤ t.es.length
  · have hr := hfin (.inr h1)
    clear hfin
    have z0 : ¬ (t.es.length : Int) = 0 := by omega
    have z1 : ¬ t.es.length = 0 := by omega
    generalize t.es.length = m at *
    clear hT h hw hap hlf
    go_enter Try.func30, Try.ntmps30
    go_wp2
    exact bodyPost_end (v := .tuple #[]) (by simp [results, Try.results30, go_sem]) rfl ⟨rfl, hr⟩
  · have h0 : t.es.length = 0 := by omega
    rw [h0] at t0
    cases n with
    | zero =>
      have hr := hfin (.inl rfl)
      clear hfin
      rw [show t.kids.length = 0 by rw [h.1.2]; rfl] at hlf
      clear hT h hw hap h1 h0
      go_enter Try.func30, Try.ntmps30
      go_wp2_with fail
      refine hlf.mono ?_
      rintro e w2 ⟨rfl, rfl⟩
      go_wp2
      exact bodyPost_end (v := .tuple #[]) (by simp [results, Try.results30, go_sem]) rfl ⟨rfl, hr⟩
    | succ n =>
      have hkl : t.kids.length = 1 := by have := hw.1; omega
      obtain ⟨k, hk⟩ : ∃ k, t.kids[0]? = some k := ⟨_, List.getElem?_eq_getElem (by omega)⟩
      have hkk : t.kids = [k] := by
        match hq : t.kids, hkl, hk with
        | [x], _, hk => simp at hk; rw [hk]
      obtain ⟨B, d, -, hd1, hd2, c1, ck, -⟩ := h.1.1.kidv hk
      rw [hkl] at c1 hd1 hlf
      have hkw := hw.2 k (List.mem_of_getElem? hk)
      obtain ⟨W3, hW3⟩ : ∃ W3, W.setCell ⟨T, 0, none⟩ (.pointer (some ⟨k.b, 0, none⟩)) = W3 := ⟨_, rfl⟩
      have hset : ∀ a, a ≠ T → W3.heap[a]? = W.heap[a]? := fun a ha => by rw [← hW3]; exact Below.heap_setCell _ _ _ _ ha
      have htot : ∀ a, tc (n + 1) a t = sc a t + tc n a k := fun a => by
        show sc a t + (t.kids.map (tc n a)).sum = _
        rw [hkk]; simp
      have hOk := own_kid h hk
      have hr : RiseV W T (n + 1) t c W3 := by
        refine ⟨n, k, ?_, ⟨hOk.1.keep fun a ha => hset a (fun hc => ?_), hOk.2⟩, ⟨hkw.1, hkw.2.2, .inr (by omega)⟩, ?_, ?_, fun a ha => ?_, ⟨by rw [← hW3]; rfl, by rw [← hW3]; rfl, by rw [← hW3]; rfl, by rw [← hW3]; simp [World.setCell], fun a ha hf => hset a fun hc => by simp [hc] at hf⟩⟩
        · rw [← hW3, heap_setCell_at hT]; rfl
        · have := htot T
          rw [hc] at ha
          omega
        · show flatN n k = inter t.es (t.kids.map (flatN n))
          rw [hkk, List.length_eq_zero_iff.1 h0]
          exact (inter_one _).symm
        · have := htot T; omega
        · have := htot a; omega
      clear hT h hw hap h1 h0 hk hkk hkw hOk htot hset hfin hkl
      go_enter Try.func30, Try.ntmps30
      go_wp2_with fail
      refine hlf.mono ?_
      rintro e w2 ⟨rfl, rfl⟩
      go_wp2
      exact bodyPost_end (v := .tuple #[]) (by simp [results, Try.results30, go_sem]) rfl ⟨rfl, hr⟩
end Go.Proofs.Ytgnhillnikjnfaa
