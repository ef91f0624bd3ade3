/-
  Add and Del of a tree by their contracts. Conditions: as stated.
  Nodes of a tree by its contract; how many there are. Conditions: as stated.
  The law's shape by its contract: how many entries stand below a node that is told of, how deep, what comes behind. Conditions: as stated.
  The law's right by its contract: a tree's nodes are as they should. Conditions: as stated.
-/
import Derived.Test.YtgnhillnikjnfaaU23
import Derived.OwnWalk
namespace Go.Proofs.Ytgnhillnikjnfaa
open Go.RowKit

section
variable {F : Nat → Prop} {T : Nat} {l : List En}
/-- a deed's end, put together. -/
theorem tr_end {n n1 n2 : Nat} {w W0 w3 W4 w5 : World} {t t1 : Nd} {c : Int} {l' : List En} (h : Tr w T n t) (hF : F T) (hFa : ∀ a, tc n a t ≠ 0 → F a) (hb0 : Below w.heap.size w W0) (hE : Evo n W0 t w3 t1) (hw4 : W4 = w3.setCell ⟨T, 1, none⟩ (.int .i64 c)) (hR : RiseV W4 T n t1 c w5) (hfl : flatN n t1 = l') (hc : c = l'.length) (hs : SortE l') (_hn : n1 = n2) :
    TrF (fun a => F a ∨ w.heap.size ≤ a) w5 T l' ∧ Far F w w5 := by
  obtain ⟨n', t', r1, r2, r3, r4, r5, r6, r7⟩ := hR
  have hTl := lt_of_heap h.cell
  have hs4 : W4.heap.size = w3.heap.size := by rw [hw4]; simp [World.setCell]
  have hset : ∀ a, a ≠ T → W4.heap[a]? = w3.heap[a]? := fun a ha => by rw [hw4]; exact Below.heap_setCell _ _ _ _ ha
  have hsz := hE.chg.size
  have hsz0 := hb0.size
  have hcnt : ∀ a, a < w.heap.size → tc n a t1 ≤ tc n a t := fun a ha => hE.cnt a (by omega)
  refine ⟨⟨n', t', ⟨by rw [r1, r4, hfl, hc], r2, r3, by rw [r4, hfl]; exact hs, r5⟩, r4.trans hfl, .inl hF, fun a ha => ?_⟩, ?_, ?_, ?_, ?_, fun a ha hf => ?_⟩
  · by_cases hlt : a < w.heap.size
    · left
      have h1 := r6 a (by omega)
      have h2 := hcnt a hlt
      exact hFa a (by omega)
    · right; omega
  · rw [r7.os, hw4]; exact hE.chg.os.trans hb0.os
  · rw [r7.tape, hw4]; exact hE.chg.tape.trans hb0.tape
  · rw [r7.output, hw4]; exact hE.chg.output.trans hb0.output
  · have := r7.size; omega
  · have hne : a ≠ T := fun hc => hf (by rw [hc]; exact hF)
    have h0 : tc n a t = 0 := Classical.byContradiction fun hc => hf (hFa a hc)
    have h1 : tc n a t1 = 0 := by have := hcnt a ha; omega
    rw [r7.block a (by omega) (by rw [if_neg hne, h1]), hset a hne, hE.chg.block a (by omega) h0, hb0.block a ha]
set_option maxRecDepth 100000 in
set_option maxHeartbeats 2000000 in
theorem AddT_any (e : En) (w : World) (h : TrF F w T l) (hn : l.length ≤ 1000000) : Calls Try.prog 14 #[.pointer (some ⟨T, 0, none⟩), .agg #[.string e.1, .int .i64 e.2]] w
    fun r w' => r = .returned (.bool (!hasE e l)) ∧ TrF (fun a => F a ∨ w.heap.size ≤ a) w' T (insE e l) ∧ Far F w w' := by
  obtain ⟨n, t, h1, hl, hF, hFa⟩ := h
  obtain ⟨ek, ei⟩ := e
  obtain ⟨W0, hW0, hwW, hs0, k0, k1⟩ := box_any w ek ei
  have h2 := h1.below hwW
  obtain ⟨c0, c1, cf, hTl⟩ := h2.view
  rw [hl] at c1
  have hO : Own n W0.drew t := h2.own.below (Below.refl _ _).drew
  have hcall := add_any n t (ek, ei) W0.drew hO h1.top.1 h1.top.2.1 h1.sort
  rw [hl] at hcall
  have P0 := fun (w' : World) (h : w'.heap[T]? = W0.heap[T]? ∧ w'.heap[w.heap.size]? = W0.heap[w.heap.size]?) => (World.cell?_of_block (a := ⟨T, 0, none⟩) h.1).trans c0
  have P1 := fun (w' : World) (h : w'.heap[T]? = W0.heap[T]? ∧ w'.heap[w.heap.size]? = W0.heap[w.heap.size]?) => (World.cell?_of_block (a := ⟨w.heap.size, 0, none⟩) h.2).trans k0
  have P2 := fun (w' : World) (h : w'.heap[T]? = W0.heap[T]? ∧ w'.heap[w.heap.size]? = W0.heap[w.heap.size]?) => (World.cell?_of_block (a := ⟨w.heap.size, 1, none⟩) h.2).trans k1
  have hTw := lt_of_heap h1.cell
  have hap0 : tc n w.heap.size t = 0 := Classical.byContradiction fun hc => by have := h1.own.1.lt hc; omega
  obtain ⟨p, hp⟩ : ∃ p, hasE (ek, ei) l = p := ⟨_, rfl⟩
  rw [hp] at hcall ⊢
  have HZ : Hid (wrap64 ((l.length : Int) + 1) = (l.length : Int) + 1) := by unfold Hid wrap64; omega
  obtain ⟨m, hm⟩ : ∃ m, l.length = m := ⟨_, rfl⟩
  rw [hm] at HZ c1
  have HH := (show Hid _ from And.intro h1 (And.intro hl (And.intro hF (And.intro hFa (And.intro hO (And.intro hp (And.intro hm h2)))))))
  clear h1 h2 hl hF hFa hO hp hm c0 k0 k1 hn
  have h0 : (fun w' : World => w'.heap[T]? = W0.heap[T]? ∧ w'.heap[w.heap.size]? = W0.heap[w.heap.size]?) W0.drew := ⟨rfl, rfl⟩
  go_enter Try.func14, Try.ntmps14
  go_wp2_with fail
  refine wp_region_held (S := fun w' => w'.heap[T]? = W0.heap[T]? ∧ w'.heap[w.heap.size]? = W0.heap[w.heap.size]?) mixed ?_
  refine wpAnyH_take (i := 0) (oi := ⟨_, _, _, _, _, _⟩) (v := ?v1) rfl (by kernel_rfl) (by kernel_rfl) (by kernel_rfl) (fun _ _ _ h => h) (Or.inl ⟨by rfl, ?hy1⟩) h0 ?rest1
  case hy1 => (intro w hSw; (try dsimp only at hSw); go_simp; try with_reducible rfl)
  simp only [Act.put, List.setIfInBounds_toArray, List.set_cons_zero, List.set_cons_succ]
  refine wpAnyH_take (i := 1) (oi := ⟨_, _, _, _, _, _⟩) (v := ?v2) rfl (by kernel_rfl) (by kernel_rfl) (by kernel_rfl) (fun _ _ _ h => h) (Or.inl ⟨by rfl, ?hy2⟩) h0 ?rest2
  case hy2 => (intro w hSw; (try dsimp only at hSw); go_simp; try with_reducible rfl)
  simp only [Act.put, List.setIfInBounds_toArray, List.set_cons_zero, List.set_cons_succ]
  refine wpAnyH_take (i := 2) (oi := ⟨_, _, _, _, _, _⟩) (v := ?v3) rfl (by kernel_rfl) (by kernel_rfl) (by kernel_rfl) (fun _ _ _ h => h) (Or.inl ⟨by rfl, ?hy3⟩) h0 ?rest3
  case hy3 => (intro w hSw; (try dsimp only at hSw); go_simp; try with_reducible rfl)
  simp only [Act.put, List.setIfInBounds_toArray, List.set_cons_zero, List.set_cons_succ]
  refine wpAnyH_take (i := 3) (oi := ⟨_, _, _, _, _, _⟩) (v := ?v4) rfl (by kernel_rfl) (by kernel_rfl) (by kernel_rfl) (fun _ _ _ h => h) (Or.inl ⟨by rfl, ?hy4⟩) h0 ?rest4
  case hy4 => (intro w hSw; (try dsimp only at hSw); go_simp; try with_reducible rfl)
  simp only [Act.put, List.setIfInBounds_toArray, List.set_cons_zero, List.set_cons_succ]
  refine wpAnyH_take (i := 4) (oi := ⟨_, _, _, _, _, _⟩) (v := ?v5) rfl (by kernel_rfl) (by kernel_rfl) (by kernel_rfl) (fun _ _ _ h => h) (Or.inl ⟨by rfl, ?hy5⟩) h0 ?rest5
  case hy5 => (intro w hSw; (try dsimp only at hSw); go_simp; try with_reducible rfl)
  simp only [Act.put, List.setIfInBounds_toArray, List.set_cons_zero, List.set_cons_succ]
  refine wpAnyH_ready (rs := [5]) (by kernel_rfl) (by simp) ?_
  refine AllReadyH.cons (o := ⟨_, _, _, _, _, _⟩) rfl (fun K hK => ?_) AllReadyH.nil
  go_simp
  refine hcall.mono ?_
  rintro e w3 ⟨rfl, hv⟩
  have h3 : w3.heap[T]? = W0.heap[T]? ∧ w3.heap[w.heap.size]? = W0.heap[w.heap.size]? := by
    obtain ⟨t1, hE, -⟩ := hv
    exact ⟨hE.chg.block T hTl HH.out.1.apart, hE.chg.block w.heap.size (show w.heap.size < W0.heap.size by omega) hap0⟩
  have G1 := (show Hid _ from hv)
  clear hv hcall
  refine hK.out _ _ h3 (fun hHeld => ?_)
  clear hK K hHeld
  try simp only [Act.put, List.setIfInBounds_toArray, List.set_cons_zero, List.set_cons_succ]
  refine wpAnyH_take (i := 6) (oi := ⟨_, _, _, _, _, _⟩) (v := ?v6) rfl (by kernel_rfl) (by kernel_rfl) (by kernel_rfl) (fun _ _ _ h => h) (Or.inl ⟨by rfl, ?hy6⟩) h3 ?rest6
  case hy6 => (intro w hSw; (try dsimp only at hSw); go_simp; try with_reducible rfl)
  simp only [Act.put, List.setIfInBounds_toArray, List.set_cons_zero, List.set_cons_succ]
  refine wpAnyH_done (by kernel_rfl) ?_ _
  have d1 := (World.cell?_of_block (a := ⟨T, 1, none⟩) h3.1).trans c1
  have df : ∀ j, w3.frozen? ⟨T, j, none⟩ = false := fun j => (World.frozen?_of_block (a := ⟨T, j, none⟩) h3.1).trans (cf j)
  have h3T := h3.1
  clear P0 P1 P2 h0 h3 c1 cf hW0
  obtain ⟨h1, hl, hF, hFa, hO, hp, hm, h2⟩ := HH.out
  obtain ⟨t1, hE, hw1, hfl, hs1, hs2, hs3⟩ := G1.out
  have hb0 : Below w.heap.size w W0.drew := hwW.drew
  cases p with
  | true =>
    have ht1 := hs3 (by rw [hl]; exact hp)
    have hfin : TrF (fun a => F a ∨ w.heap.size ≤ a) w3 T (insE (ek, ei) l) ∧ Far F w w3 := by
      rw [ht1] at hE
      refine ⟨⟨n, t, ⟨h3T.trans h2.cell, hE.own, h1.top, h1.sort, h1.apart⟩, ?_, .inl hF, fun a ha => .inl (hFa a ha)⟩, hE.chg.os.trans hb0.os, hE.chg.tape.trans hb0.tape, hE.chg.output.trans hb0.output, Nat.le_trans hb0.size hE.chg.size, fun a ha hf => ?_⟩
      · rw [ins_there (by rw [← hl]; exact h1.sort) (hasE_iff.1 hp)]; exact hl
      · have h0 : tc n a t = 0 := Classical.byContradiction fun hc => hf (hFa a hc)
        rw [hE.chg.block a (Nat.lt_of_lt_of_le ha hb0.size) h0, hb0.block a ha]
    clear h1 hl hF hFa hO hp hm h2 hE hw1 hfl hs1 hs2 hs3 ht1
    go_wp2
    go_ret
    exact ⟨rfl, hfin⟩
  | false =>
    have hTl3 : T < w3.heap.size := Nat.lt_of_lt_of_le hTl hE.chg.size
    have hapT : tc n T t1 = 0 := by have := hE.cnt T hTl; have := h1.apart; omega
    obtain ⟨W4, hW4⟩ : ∃ W4, w3.setCell ⟨T, 1, none⟩ (.int .i64 ((m : Int) + 1)) = W4 := ⟨_, rfl⟩
    have hset : ∀ a, a ≠ T → W4.heap[a]? = w3.heap[a]? := fun a ha => by rw [← hW4]; exact Below.heap_setCell _ _ _ _ ha
    have hT4 : W4.heap[T]? = some (.cells #[.pointer (some ⟨t.b, 0, none⟩), .int .i64 ((m : Int) + 1)] 58 (0, 0)) := by
      rw [← hW4, heap_setCell_at (h3T.trans h2.cell)]; rfl
    have hO4 : Own n W4 t1 := ⟨hE.own.1.keep fun a ha => hset a fun hc => ha (by rw [hc]; exact hapT), hE.own.2⟩
    have hl1 : n = 0 ∨ 1 ≤ t1.es.length := by
      rcases h1.top.2.2 with h5 | h5
      · exact .inl h5
      · exact .inr (by omega)
    have hrise := rise_any T n t1 ((m : Int) + 1) W4 (by rw [hE.b]; exact hT4) hO4 hw1 (by have := h1.top.2.1; omega) hl1 hapT
    have G2 := (show Hid _ from And.intro hE hfl)
    clear h1 hl hF hFa hO hp hm h2 hE hw1 hfl hs1 hs2 hs3 hset hT4 hO4 hl1 hapT h3T
    have zw := HZ.out
    go_wp2_with fail
    refine hrise.mono ?_
    rintro e w5 ⟨rfl, hr⟩
    have G3 := (show Hid _ from And.intro hr hW4)
    clear hr hrise zw hW4
    go_wp2
    go_ret
    obtain ⟨h1, hl, hF, hFa, hO, hp, hm, h2⟩ := HH.out
    obtain ⟨hE, hfl⟩ := G2.out
    obtain ⟨hr, hW4⟩ := G3.out
    have hsl : SortE l := by rw [← hl]; exact h1.sort
    exact ⟨rfl, tr_end h1 hF hFa hb0 hE hW4.symm hr hfl (by rw [hl, len_insE hsl (hasE_not.1 hp), hm]; rfl) (by rw [hl]; exact sort_ins hsl) (rfl : n = n) |>.imp (fun h => by rw [← hl]; exact h) id⟩
set_option maxRecDepth 100000 in
set_option maxHeartbeats 2000000 in
theorem DelT_any (e : En) (w : World) (h : TrF F w T l) (hn : l.length ≤ 1000000) : Calls Try.prog 15 #[.pointer (some ⟨T, 0, none⟩), .agg #[.string e.1, .int .i64 e.2]] w
    fun r w' => r = .returned (.bool (hasE e l)) ∧ TrF (fun a => F a ∨ w.heap.size ≤ a) w' T (delE e l) ∧ Far F w w' := by
  obtain ⟨n, t, h1, hl, hF, hFa⟩ := h
  obtain ⟨ek, ei⟩ := e
  obtain ⟨W0, hW0, hwW, hs0, k0, k1⟩ := box_any w ek ei
  have h2 := h1.below hwW
  obtain ⟨c0, c1, cf, hTl⟩ := h2.view
  rw [hl] at c1
  have hO : Own n W0.drew t := h2.own.below (Below.refl _ _).drew
  have hcall := del_any n t (ek, ei) W0.drew hO h1.top.1 h1.top.2.2 h1.top.2.1 h1.sort
  rw [hl] at hcall
  have P0 := fun (w' : World) (h : w'.heap[T]? = W0.heap[T]? ∧ w'.heap[w.heap.size]? = W0.heap[w.heap.size]?) => (World.cell?_of_block (a := ⟨T, 0, none⟩) h.1).trans c0
  have P1 := fun (w' : World) (h : w'.heap[T]? = W0.heap[T]? ∧ w'.heap[w.heap.size]? = W0.heap[w.heap.size]?) => (World.cell?_of_block (a := ⟨w.heap.size, 0, none⟩) h.2).trans k0
  have P2 := fun (w' : World) (h : w'.heap[T]? = W0.heap[T]? ∧ w'.heap[w.heap.size]? = W0.heap[w.heap.size]?) => (World.cell?_of_block (a := ⟨w.heap.size, 1, none⟩) h.2).trans k1
  have hTw := lt_of_heap h1.cell
  have hap0 : tc n w.heap.size t = 0 := Classical.byContradiction fun hc => by have := h1.own.1.lt hc; omega
  obtain ⟨p, hp⟩ : ∃ p, hasE (ek, ei) l = p := ⟨_, rfl⟩
  rw [hp] at hcall ⊢
  obtain ⟨m, hm⟩ : ∃ m, l.length = m := ⟨_, rfl⟩
  have HZ : Hid (wrap64 ((m : Int) - 1) = (m : Int) - 1) := by unfold Hid wrap64; omega
  rw [hm] at c1
  have HH := (show Hid _ from And.intro h1 (And.intro hl (And.intro hF (And.intro hFa (And.intro hO (And.intro hp (And.intro hm h2)))))))
  clear h1 h2 hl hF hFa hO hp hm c0 k0 k1 hn
  have h0 : (fun w' : World => w'.heap[T]? = W0.heap[T]? ∧ w'.heap[w.heap.size]? = W0.heap[w.heap.size]?) W0.drew := ⟨rfl, rfl⟩
  go_enter Try.func15, Try.ntmps15
  go_wp2_with fail
  refine wp_region_held (S := fun w' => w'.heap[T]? = W0.heap[T]? ∧ w'.heap[w.heap.size]? = W0.heap[w.heap.size]?) mixed ?_
  refine wpAnyH_take (i := 0) (oi := ⟨_, _, _, _, _, _⟩) (v := ?v7) rfl (by kernel_rfl) (by kernel_rfl) (by kernel_rfl) (fun _ _ _ h => h) (Or.inl ⟨by rfl, ?hy7⟩) h0 ?rest7
  case hy7 => (intro w hSw; (try dsimp only at hSw); go_simp; try with_reducible rfl)
  simp only [Act.put, List.setIfInBounds_toArray, List.set_cons_zero, List.set_cons_succ]
  refine wpAnyH_take (i := 1) (oi := ⟨_, _, _, _, _, _⟩) (v := ?v8) rfl (by kernel_rfl) (by kernel_rfl) (by kernel_rfl) (fun _ _ _ h => h) (Or.inl ⟨by rfl, ?hy8⟩) h0 ?rest8
  case hy8 => (intro w hSw; (try dsimp only at hSw); go_simp; try with_reducible rfl)
  simp only [Act.put, List.setIfInBounds_toArray, List.set_cons_zero, List.set_cons_succ]
  refine wpAnyH_take (i := 2) (oi := ⟨_, _, _, _, _, _⟩) (v := ?v9) rfl (by kernel_rfl) (by kernel_rfl) (by kernel_rfl) (fun _ _ _ h => h) (Or.inl ⟨by rfl, ?hy9⟩) h0 ?rest9
  case hy9 => (intro w hSw; (try dsimp only at hSw); go_simp; try with_reducible rfl)
  simp only [Act.put, List.setIfInBounds_toArray, List.set_cons_zero, List.set_cons_succ]
  refine wpAnyH_take (i := 3) (oi := ⟨_, _, _, _, _, _⟩) (v := ?v10) rfl (by kernel_rfl) (by kernel_rfl) (by kernel_rfl) (fun _ _ _ h => h) (Or.inl ⟨by rfl, ?hy10⟩) h0 ?rest10
  case hy10 => (intro w hSw; (try dsimp only at hSw); go_simp; try with_reducible rfl)
  simp only [Act.put, List.setIfInBounds_toArray, List.set_cons_zero, List.set_cons_succ]
  refine wpAnyH_take (i := 4) (oi := ⟨_, _, _, _, _, _⟩) (v := ?v11) rfl (by kernel_rfl) (by kernel_rfl) (by kernel_rfl) (fun _ _ _ h => h) (Or.inl ⟨by rfl, ?hy11⟩) h0 ?rest11
  case hy11 => (intro w hSw; (try dsimp only at hSw); go_simp; try with_reducible rfl)
  simp only [Act.put, List.setIfInBounds_toArray, List.set_cons_zero, List.set_cons_succ]
  refine wpAnyH_ready (rs := [5]) (by kernel_rfl) (by simp) ?_
  refine AllReadyH.cons (o := ⟨_, _, _, _, _, _⟩) rfl (fun K hK => ?_) AllReadyH.nil
  go_simp
  refine hcall.mono ?_
  rintro e w3 ⟨rfl, hv⟩
  have h3 : w3.heap[T]? = W0.heap[T]? ∧ w3.heap[w.heap.size]? = W0.heap[w.heap.size]? := by
    obtain ⟨t1, hE, -⟩ := hv
    exact ⟨hE.chg.block T hTl HH.out.1.apart, hE.chg.block w.heap.size (show w.heap.size < W0.heap.size by omega) hap0⟩
  have G1 := (show Hid _ from hv)
  clear hv hcall
  refine hK.out _ _ h3 (fun hHeld => ?_)
  clear hK K hHeld
  try simp only [Act.put, List.setIfInBounds_toArray, List.set_cons_zero, List.set_cons_succ]
  refine wpAnyH_take (i := 6) (oi := ⟨_, _, _, _, _, _⟩) (v := ?v12) rfl (by kernel_rfl) (by kernel_rfl) (by kernel_rfl) (fun _ _ _ h => h) (Or.inl ⟨by rfl, ?hy12⟩) h3 ?rest12
  case hy12 => (intro w hSw; (try dsimp only at hSw); go_simp; try with_reducible rfl)
  simp only [Act.put, List.setIfInBounds_toArray, List.set_cons_zero, List.set_cons_succ]
  refine wpAnyH_done (by kernel_rfl) ?_ _
  have d1 := (World.cell?_of_block (a := ⟨T, 1, none⟩) h3.1).trans c1
  have df : ∀ j, w3.frozen? ⟨T, j, none⟩ = false := fun j => (World.frozen?_of_block (a := ⟨T, j, none⟩) h3.1).trans (cf j)
  have h3T := h3.1
  clear P0 P1 P2 h0 h3 c1 cf hW0
  obtain ⟨h1, hl, hF, hFa, hO, hp, hm, h2⟩ := HH.out
  obtain ⟨t1, hE, hw1, hfl, hs1, hs2, hs3⟩ := G1.out
  have hb0 : Below w.heap.size w W0.drew := hwW.drew
  cases p with
  | false =>
    have ht1 := hs3 (by rw [hl]; exact hp)
    have hfin : TrF (fun a => F a ∨ w.heap.size ≤ a) w3 T (delE (ek, ei) l) ∧ Far F w w3 := by
      rw [ht1] at hE
      refine ⟨⟨n, t, ⟨h3T.trans h2.cell, hE.own, h1.top, h1.sort, h1.apart⟩, ?_, .inl hF, fun a ha => .inl (hFa a ha)⟩, hE.chg.os.trans hb0.os, hE.chg.tape.trans hb0.tape, hE.chg.output.trans hb0.output, Nat.le_trans hb0.size hE.chg.size, fun a ha hf => ?_⟩
      · rw [del_gone (by rw [← hl]; exact h1.sort) (hasE_not.1 hp)]; exact hl
      · have h0 : tc n a t = 0 := Classical.byContradiction fun hc => hf (hFa a hc)
        rw [hE.chg.block a (Nat.lt_of_lt_of_le ha hb0.size) h0, hb0.block a ha]
    clear h1 hl hF hFa hO hp hm h2 hE hw1 hfl hs1 hs2 hs3 ht1
    go_wp2
    go_ret
    exact ⟨rfl, hfin⟩
  | true =>
    have hTl3 : T < w3.heap.size := Nat.lt_of_lt_of_le hTl hE.chg.size
    have hapT : tc n T t1 = 0 := by have := hE.cnt T hTl; have := h1.apart; omega
    obtain ⟨W4, hW4⟩ : ∃ W4, w3.setCell ⟨T, 1, none⟩ (.int .i64 ((m : Int) - 1)) = W4 := ⟨_, rfl⟩
    have hset : ∀ a, a ≠ T → W4.heap[a]? = w3.heap[a]? := fun a ha => by rw [← hW4]; exact Below.heap_setCell _ _ _ _ ha
    have hT4 : W4.heap[T]? = some (.cells #[.pointer (some ⟨t.b, 0, none⟩), .int .i64 ((m : Int) - 1)] 58 (0, 0)) := by
      rw [← hW4, heap_setCell_at (h3T.trans h2.cell)]; rfl
    have hO4 : Own n W4 t1 := ⟨hE.own.1.keep fun a ha => hset a fun hc => ha (by rw [hc]; exact hapT), hE.own.2⟩
    have hsink := sink_any T n t1 ((m : Int) - 1) W4 (by rw [hE.b]; exact hT4) hO4 hw1 (by have := h1.top.2.1; omega) hapT
    have G2 := (show Hid _ from And.intro hE hfl)
    clear h1 hl hF hFa hO hp hm h2 hE hw1 hfl hs1 hs2 hs3 hset hT4 hO4 hapT h3T
    have zw := HZ.out
    go_wp2_with fail
    refine hsink.mono ?_
    rintro e w5 ⟨rfl, hr⟩
    have G3 := (show Hid _ from And.intro hr hW4)
    clear hr hsink zw hW4
    go_wp2
    go_ret
    obtain ⟨h1, hl, hF, hFa, hO, hp, hm, h2⟩ := HH.out
    obtain ⟨hE, hfl⟩ := G2.out
    obtain ⟨hr, hW4⟩ := G3.out
    have hsl : SortE l := by rw [← hl]; exact h1.sort
    have hlen := len_delE hsl (hasE_iff.1 hp)
    exact ⟨rfl, tr_end h1 hF hFa hb0 hE hW4.symm hr hfl (by rw [hl]; omega) (by rw [hl]; exact sort_del hsl) (rfl : n = n) |>.imp (fun h => by rw [← hl]; exact h) id⟩
end
end Go.Proofs.Ytgnhillnikjnfaa

namespace Go.Proofs.Ytgnhillnikjnfaa
open Go.RowKit

theorem sum_mono {f g : Nd → Nat} : ∀ {l : List Nd}, (∀ k ∈ l, f k ≤ g k) → (l.map f).sum ≤ (l.map g).sum
  | [], _ => Nat.le_refl _
  | k :: l, h => by
    have h1 := h k (by simp)
    have h2 := sum_mono (l := l) fun x hx => h x (List.mem_cons_of_mem _ hx)
    simp only [List.map_cons, List.sum_cons]
    omega
theorem nodes_le : ∀ (n d : Nat) (t : Nd), WfN n t → 1 ≤ t.es.length → (nodesN n d t).length ≤ (flatN n t).length
  | 0, _, t, _, h => by simpa [nodesN, flatN] using h
  | n + 1, d, t, hw, h => by
    rw [len_flat hw]
    have h1 := sum_mono (l := t.kids) (f := fun k => (nodesN n (d + 1) k).length) (g := fun k => (flatN n k).length) fun k hk => nodes_le n (d + 1) k (hw.2 k hk).1 (by have := (hw.2 k hk).2.1; omega)
    have h2 : (nodesN (n + 1) d t).length = (t.kids.map fun k => (nodesN n (d + 1) k).length).sum + 1 := by
      simp only [nodesN, List.length_cons, List.length_flatMap]
    omega
theorem height_le : ∀ (n d : Nat) (t : Nd), WfN n t → n + 1 ≤ (nodesN n d t).length
  | 0, _, t, _ => by simp [nodesN]
  | n + 1, d, t, hw => by
    have hne : t.kids ≠ [] := fun h => by have := hw.1; rw [h] at this; simp at this
    obtain ⟨k, hk⟩ := List.exists_mem_of_ne_nil _ hne
    have h1 := height_le n (d + 1) k (hw.2 k hk).1
    have h2 : (nodesN n (d + 1) k).length ≤ (t.kids.map fun k => (nodesN n (d + 1) k).length).sum := le_sum (fun k => (nodesN n (d + 1) k).length) hk
    simp only [nodesN, List.length_cons, List.length_flatMap]
    omega
theorem top_nodes {n : Nat} {t : Nd} (h : TopN n t) : (nodesN n 1 t).length ≤ (flatN n t).length + 1 := by
  rcases h.2.2 with rfl | h1
  · simp [nodesN]
  · have := nodes_le n 1 t h.1 h1
    omega
section
variable {F : Nat → Prop} {T : Nat} {l : List En}
set_option maxRecDepth 100000 in
theorem NodesT_any (w : World) (h : TrF F w T l) (hl : l.length ≤ 100000) : ∃ n t, TopN n t ∧ flatN n t = l ∧ Calls Try.prog 26 #[.pointer (some ⟨T, 0, none⟩)] w fun r w' => ∃ v', r = .returned v' ∧ w'.ownsRow w.heap.size 50 3 v' (nodesN n 1 t).length (encNts (nodesN n 1 t)) ∧ Below w.heap.size w w' := by
  obtain ⟨n, t, h1, hf, -⟩ := h
  refine ⟨n, t, h1.top, hf, ?_⟩
  have hc := top_nodes h1.top
  have hh := height_le n 1 t h1.top.1
  have hcall := tell_any w.heap.size n t 1 [] w (.slice none 0 0) h1.own.1 h1.top.1 h1.top.2.1 (fun a ha => h1.own.1.lt ha) (Nat.le_refl _) (World.ownsRow_nil _ _ _ _) (by rw [hf] at hc; simp only [List.length_nil]; omega) (by rw [hf] at hc; omega)
  obtain ⟨c0, -, -, -⟩ := h1.view
  rw [List.nil_append] at hcall
  rw [show ((1 : Nat) : Int) = 1 from rfl] at hcall
  have HC := (show Hid _ from hcall)
  clear h1 hf hc hh hcall
  go_enter Try.func26, Try.ntmps26
  go_wp2_with fail
  refine Calls.mono HC.out ?_
  rintro e w1 ⟨v1, rfl, hr1, hb1⟩
  have G1 := (show Hid _ from And.intro hr1 hb1)
  clear hr1 hb1 HC
  go_wp2
  go_ret
  exact ⟨_, rfl, G1.out.1, G1.out.2⟩
end
end Go.Proofs.Ytgnhillnikjnfaa

namespace Go.Proofs.Ytgnhillnikjnfaa
open Go.RowKit

/-- a node that is told of in a row. -/
theorem row_node {base : Nat} {w : World} {v : Value} {l : List Nt} {j : Nat} {x : Nt} (h : w.ownsRow base 50 3 v l.length (encNts l)) (hx : l[j]? = some x) :
    ∃ B c, v = .slice (some ⟨B, 0, none⟩) l.length c ∧ l.length ≤ c ∧ c ≤ 9223372036854775807 ∧ w.cell? ⟨B, j * 3, none⟩ = some (.int .i64 (x.1 : Int)) ∧ w.cell? ⟨B, j * 3 + 1, none⟩ = some (.int .i64 (x.2.1 : Int)) ∧ w.cell? ⟨B, j * 3 + 2, none⟩ = some (.bool x.2.2) ∧ ∀ j, w.frozen? ⟨B, j, none⟩ = false := by
  have hj := (List.getElem?_eq_some_iff.1 hx).1
  obtain ⟨B, c, hv, h1, h2, h3, h4⟩ := own_cells0 h (by omega)
  exact ⟨B, c, hv, h1, h2, h3 _ _ (by have := flat_at encNt_len l j 0 x (.int .i64 (x.1 : Int)) hx rfl; rwa [Nat.add_zero] at this), h3 _ _ (flat_at encNt_len l j 1 x (.int .i64 (x.2.1 : Int)) hx rfl), h3 _ _ (flat_at encNt_len l j 2 x (.bool x.2.2) hx rfl), h4⟩
/-- these stand in a row from a place on. -/
def From (l : List Nt) (p : Nat) (m : List Nt) : Prop := ∃ r, l.drop p = m ++ r
theorem From.get {l m : List Nt} {p j : Nat} {x : Nt} (h : From l p m) (hx : m[j]? = some x) : l[p + j]? = some x := by
  obtain ⟨r, hr⟩ := h
  have : (l.drop p)[j]? = some x := by
    rw [hr, List.getElem?_append_left (List.getElem?_eq_some_iff.1 hx).1]; exact hx
  rwa [List.getElem?_drop] at this
theorem From.le {l m : List Nt} {p : Nat} (h : From l p m) (hm : m ≠ []) : p + m.length ≤ l.length := by
  obtain ⟨r, hr⟩ := h
  have h1 := congrArg List.length hr
  rw [List.length_drop, List.length_append] at h1
  have := List.length_pos_iff.2 hm
  omega
theorem From.mid {l a b c : List Nt} {p : Nat} (h : From l p (a ++ b ++ c)) : From l (p + a.length) b := by
  obtain ⟨r, hr⟩ := h
  refine ⟨c ++ r, ?_⟩
  have h1 : l.drop (p + a.length) = (l.drop p).drop a.length := by rw [List.drop_drop]
  rw [h1, hr]
  simp
theorem sum_take (f : Nd → Nat) {l : List Nd} {j : Nat} {x : Nd} (h : l[j]? = some x) : ((l.take (j + 1)).map f).sum = ((l.take j).map f).sum + f x := by
  rw [List.take_add_one, h]
  simp
theorem sum_take_le (f : Nd → Nat) (l : List Nd) (j : Nat) : ((l.take j).map f).sum ≤ (l.map f).sum := by
  conv => rhs; rw [← List.take_append_drop j l]
  rw [List.map_append, List.sum_append]
  omega
set_option maxRecDepth 100000 in
set_option maxHeartbeats 4000000 in
theorem shape_any (Nl : List Nt) (base : Nat) (v : Value) (w : World) (hrow : w.ownsRow base 50 3 v Nl.length (encNts Nl)) (hNl : Nl.length ≤ 1000000) : ∀ (n : Nat) (t : Nd) (d p : Nat), WfN n t → t.es.length ≤ 4 → (n = 0 ∨ 1 ≤ t.es.length) → (1 < d → 2 ≤ t.es.length) → From Nl p (nodesN n d t) → (flatN n t).length ≤ 1000000 → d + n ≤ 1000000 → 1 ≤ d →
    Calls Try.prog 37 #[v, .int .i64 p, .int .i64 d] w fun r w' => r = .returned (.tuple #[.int .i64 ((flatN n t).length : Nat), .int .i64 ((d + n : Nat) : Int), .int .i64 ((p + (nodesN n d t).length : Nat) : Int)]) ∧ w' = w := by
  intro n
  induction n with
  | zero =>
    intro t d p hw h4 h1 h2 hfr hfl hd hd1
    have hx := hfr.get (nodes_head 0 d t)
    rw [Nat.add_zero] at hx
    obtain ⟨B, c, rfl, hc1, hc2, e0, e1, e2, -⟩ := row_node hrow hx
    have hle := hfr.le (List.ne_nil_of_length_pos (nodes_pos 0 d t))
    have hnl : (nodesN 0 d t).length = 1 := rfl
    rw [hnl] at hle ⊢
    rw [len_flat0]
    dsimp only at e0 e1 e2
    rw [show ((0 : Nat) == 0) = true from rfl] at e2
    obtain ⟨el, hel⟩ : ∃ el, t.es.length = el := ⟨_, rfl⟩
    obtain ⟨M, hM⟩ : ∃ M, Nl.length = M := ⟨_, rfl⟩
    rw [hel] at h4 h1 h2 e1 ⊢
    rw [hM] at hle hc1 hNl hrow ⊢
    clear hw hfr hfl hx hnl hrow hel hM
    have z1 : ¬ (M : Int) ≤ (p : Int) := by omega
    have z2 : ¬ (4 : Int) < (el : Int) := by omega
    rcases Nat.lt_or_ge 1 d with hdd | hdd
    · have h22 := h2 hdd
      have z3 : (1 : Int) < (d : Int) := by omega
      have z4 : ¬ (el : Int) < 2 := by omega
      go_enter Try.func37, Try.ntmps37
      go_wp2
      go_ret3
      exact ⟨rfl, rfl⟩
    · have z3 : ¬ (1 : Int) < (d : Int) := by omega
      go_enter Try.func37, Try.ntmps37
      go_wp2
      go_ret3
      exact ⟨rfl, rfl⟩
  | succ n ih =>
    intro t d p hw h4 h1 h2 hfr hfl hd hd1
    have hx := hfr.get (nodes_head (n + 1) d t)
    rw [Nat.add_zero] at hx
    obtain ⟨B, c, rfl, hc1, hc2, e0, e1, e2, -⟩ := row_node hrow hx
    have hle := hfr.le (List.ne_nil_of_length_pos (nodes_pos (n + 1) d t))
    dsimp only at e0 e1 e2
    rw [show (n + 1 == 0) = false from rfl] at e2
    obtain ⟨el, hel⟩ : ∃ el, t.es.length = el := ⟨_, rfl⟩
    obtain ⟨M, hM⟩ : ∃ M, Nl.length = M := ⟨_, rfl⟩
    obtain ⟨FL, hFL⟩ : ∃ FL, (flatN (n + 1) t).length = FL := ⟨_, rfl⟩
    obtain ⟨NL, hNL⟩ : ∃ NL, (nodesN (n + 1) d t).length = NL := ⟨_, rfl⟩
    obtain ⟨D, hD⟩ : ∃ D, d + (n + 1) = D := ⟨_, rfl⟩
    have hF1 := len_flat hw
    have hN1 : (nodesN (n + 1) d t).length = (t.kids.map fun k => (nodesN n (d + 1) k).length).sum + 1 := by simp only [nodesN, List.length_cons, List.length_flatMap]
    rw [hel] at h4 h1 h2 e1 hF1
    rw [hM] at hle hc1 hNl ih ⊢
    rw [hFL] at hfl hF1 ⊢
    rw [hNL] at hle hN1 ⊢
    rw [hD] at hd ⊢
    have h11 : 1 ≤ el := by omega
    have hNp : 1 ≤ NL := by omega
    have HH := (show Hid _ from And.intro hw (And.intro hfr (And.intro hel (And.intro hF1 (And.intro hN1 (And.intro hM ih))))))
    clear hw hfr hel hFL hNL hx hF1 hN1 hM ih hrow h1
    have z1 : ¬ (M : Int) ≤ (p : Int) := by omega
    have z2 : ¬ (4 : Int) < (el : Int) := by omega
    have z5 : ¬ (el : Int) < 1 := by omega
    have hpre : ∃ q : Bool, decide ((1 : Int) < (d : Int)) = q ∧ (q = true → ¬ (el : Int) < 2) := ⟨_, rfl, fun h => by have := of_decide_eq_true h; have := h2 (by omega); omega⟩
    clear h2
    rcases Nat.lt_or_ge 1 d with hdd | hdd
    · obtain ⟨q, hq, hq2⟩ := hpre
      have z3 : (1 : Int) < (d : Int) := by omega
      have z4 : ¬ (el : Int) < 2 := hq2 (by rw [← hq]; exact decide_eq_true z3)
      clear hq hq2
      go_enter Try.func37, Try.ntmps37
      go_wp2
      go_loopg [9, 10, 11, 12, 13, 14, 15] (el + 1) (fun gg sv xv lv iv _ _ _ wr => ∃ (i s x y : Nat), i ≤ el + 1 ∧ el + 1 - i ≤ gg ∧ iv = .int .i64 i ∧ sv = .int .i64 s ∧ xv = .int .i64 x ∧ lv = .int .i64 y ∧ Aside (s = el + ((t.kids.take i).map fun k => (flatN n k).length).sum ∧ x = p + 1 + ((t.kids.take i).map fun k => (nodesN n (d + 1) k).length).sum ∧ (i = 0 ∧ y = 0 ∨ y = D) ∧ wr = w))
      case atStart => exact ⟨0, el, p + 1, 0, by omega, by omega, rfl, rfl, by simp, rfl, by simp, by simp, .inl ⟨rfl, rfl⟩, rfl⟩
      case round =>
        obtain ⟨i, s, x, y, hi, hgg, rfl, rfl, rfl, rfl, HR⟩ := hrel
        obtain ⟨hs, hx, hy, rfl⟩ := HR.out
        clear HR
        obtain ⟨hw, hfr, hel, hF1, hN1, hM, ih⟩ := HH.out
        by_cases hj : i < el + 1
        · obtain ⟨k, hk⟩ : ∃ k, t.kids[i]? = some k := ⟨_, List.getElem?_eq_getElem (by have := hw.1; omega)⟩
          have hkw := hw.2 k (List.mem_of_getElem? hk)
          have hsN := sum_take (fun k => (flatN n k).length) hk
          have hxN := sum_take (fun k => (nodesN n (d + 1) k).length) hk
          have hsle := sum_take_le (fun k => (flatN n k).length) t.kids (i + 1)
          have hxle := sum_take_le (fun k => (nodesN n (d + 1) k).length) t.kids (i + 1)
          rw [hsN] at hsle
          rw [hxN] at hxle
          have hfk : From Nl x (nodesN n (d + 1) k) := by
            have h3 : nodesN (n + 1) d t = ((d, t.es.length, false) :: (t.kids.take i).flatMap (nodesN n (d + 1))) ++ nodesN n (d + 1) k ++ (t.kids.drop (i + 1)).flatMap (nodesN n (d + 1)) := by
              have h4 : t.kids = t.kids.take i ++ k :: t.kids.drop (i + 1) := by
                have h5 := List.drop_eq_getElem_cons (List.getElem?_eq_some_iff.1 hk).1
                rw [(List.getElem?_eq_some_iff.1 hk).2] at h5
                rw [← h5, List.take_append_drop]
              conv => lhs; unfold nodesN; rw [h4]
              simp
            rw [h3] at hfr
            have h5 := hfr.mid
            rw [List.length_cons, List.length_flatMap] at h5
            rwa [show p + (((t.kids.take i).map fun k => (nodesN n (d + 1) k).length).sum + 1) = x by omega] at h5
          have hcall := ih k (d + 1) x hkw.1 hkw.2.2 (.inr (by omega)) (fun _ => hkw.2.1) hfk (by omega) (by omega) (by omega)
          obtain ⟨fk, hfk0⟩ : ∃ fk, (flatN n k).length = fk := ⟨_, rfl⟩
          obtain ⟨nk, hnk0⟩ : ∃ nk, (nodesN n (d + 1) k).length = nk := ⟨_, rfl⟩
          rw [show d + 1 + n = D by omega, hfk0, hnk0, show ((d + 1 : Nat) : Int) = (d : Int) + 1 by omega] at hcall
          rw [hfk0] at hsN hsle
          rw [hnk0] at hxN hxle
          have HC := (show Hid _ from hcall)
          have HE := (show Hid _ from And.intro hs (And.intro hx (And.intro hsN (And.intro hxN hgg))))
          have b1 : s + fk ≤ 1000000 := by omega
          have b2 : x + nk ≤ 1000000 := by omega
          have zi : (i : Int) ≤ (el : Int) := by omega
          have zf : ¬ (fk : Int) < 0 := by omega
          have hD1 : 1 ≤ D := by omega
          have hD2 : (0 : Int) < (D : Int) := by omega
          clear hw hfr hel hF1 hN1 hM ih hk hkw hsN hxN hsle hxle hfk hcall hfk0 hnk0 hs hx hgg
          rcases hy with ⟨rfl, rfl⟩ | rfl
          · go_wp2_with fail
            refine Calls.mono HC.out ?_
            rintro e w3 ⟨rfl, hw3⟩
            subst hw3
            go_wp2
            go_roundg (el + 1 - (0 + 1))
            case measure => (have := HE.out.2.2.2.2; clear HE; omega)
            case rel =>
              obtain ⟨g1, g2, g3, g4, -⟩ := HE.out
              exact ⟨1, s + fk, x + nk, D, by omega, by omega, by simp, by simp, by simp, rfl, by rw [g3]; omega, by rw [g4]; omega, .inr rfl, rfl⟩
          · go_wp2_with fail
            refine Calls.mono HC.out ?_
            rintro e w3 ⟨rfl, hw3⟩
            subst hw3
            go_wp2
            go_roundg (el + 1 - (i + 1))
            case measure => (have := HE.out.2.2.2.2; clear HE; omega)
            case rel =>
              obtain ⟨g1, g2, g3, g4, -⟩ := HE.out
              exact ⟨i + 1, s + fk, x + nk, y, by omega, by omega, by simp, by simp, by simp, rfl, by rw [g3]; omega, by rw [g4]; omega, .inr rfl, rfl⟩
        · obtain rfl : i = el + 1 := by omega
          have hkl := hw.1
          rw [List.take_of_length_le (by omega)] at hs hx
          have hs2 : s = FL := by omega
          have hx2 : x = p + NL := by omega
          have hy2 : y = D := by omega
          clear hw hfr hel hF1 hN1 hM ih hs hx hkl hy hj hi hgg HH
          subst hs2
          subst hx2
          subst hy2
          have zi : ¬ ((el + 1 : Nat) : Int) ≤ (el : Int) := by omega
          go_wp2
          go_ret3
          exact ⟨rfl, rfl⟩
    · have z3 : ¬ (1 : Int) < (d : Int) := by omega
      clear hpre
      go_enter Try.func37, Try.ntmps37
      go_wp2
      go_loopg [9, 10, 11, 12, 13, 14, 15] (el + 1) (fun gg sv xv lv iv _ _ _ wr => ∃ (i s x y : Nat), i ≤ el + 1 ∧ el + 1 - i ≤ gg ∧ iv = .int .i64 i ∧ sv = .int .i64 s ∧ xv = .int .i64 x ∧ lv = .int .i64 y ∧ Aside (s = el + ((t.kids.take i).map fun k => (flatN n k).length).sum ∧ x = p + 1 + ((t.kids.take i).map fun k => (nodesN n (d + 1) k).length).sum ∧ (i = 0 ∧ y = 0 ∨ y = D) ∧ wr = w))
      case atStart => exact ⟨0, el, p + 1, 0, by omega, by omega, rfl, rfl, by simp, rfl, by simp, by simp, .inl ⟨rfl, rfl⟩, rfl⟩
      case round =>
        obtain ⟨i, s, x, y, hi, hgg, rfl, rfl, rfl, rfl, HR⟩ := hrel
        obtain ⟨hs, hx, hy, rfl⟩ := HR.out
        clear HR
        obtain ⟨hw, hfr, hel, hF1, hN1, hM, ih⟩ := HH.out
        by_cases hj : i < el + 1
        · obtain ⟨k, hk⟩ : ∃ k, t.kids[i]? = some k := ⟨_, List.getElem?_eq_getElem (by have := hw.1; omega)⟩
          have hkw := hw.2 k (List.mem_of_getElem? hk)
          have hsN := sum_take (fun k => (flatN n k).length) hk
          have hxN := sum_take (fun k => (nodesN n (d + 1) k).length) hk
          have hsle := sum_take_le (fun k => (flatN n k).length) t.kids (i + 1)
          have hxle := sum_take_le (fun k => (nodesN n (d + 1) k).length) t.kids (i + 1)
          rw [hsN] at hsle
          rw [hxN] at hxle
          have hfk : From Nl x (nodesN n (d + 1) k) := by
            have h3 : nodesN (n + 1) d t = ((d, t.es.length, false) :: (t.kids.take i).flatMap (nodesN n (d + 1))) ++ nodesN n (d + 1) k ++ (t.kids.drop (i + 1)).flatMap (nodesN n (d + 1)) := by
              have h4 : t.kids = t.kids.take i ++ k :: t.kids.drop (i + 1) := by
                have h5 := List.drop_eq_getElem_cons (List.getElem?_eq_some_iff.1 hk).1
                rw [(List.getElem?_eq_some_iff.1 hk).2] at h5
                rw [← h5, List.take_append_drop]
              conv => lhs; unfold nodesN; rw [h4]
              simp
            rw [h3] at hfr
            have h5 := hfr.mid
            rw [List.length_cons, List.length_flatMap] at h5
            rwa [show p + (((t.kids.take i).map fun k => (nodesN n (d + 1) k).length).sum + 1) = x by omega] at h5
          have hcall := ih k (d + 1) x hkw.1 hkw.2.2 (.inr (by omega)) (fun _ => hkw.2.1) hfk (by omega) (by omega) (by omega)
          obtain ⟨fk, hfk0⟩ : ∃ fk, (flatN n k).length = fk := ⟨_, rfl⟩
          obtain ⟨nk, hnk0⟩ : ∃ nk, (nodesN n (d + 1) k).length = nk := ⟨_, rfl⟩
          rw [show d + 1 + n = D by omega, hfk0, hnk0, show ((d + 1 : Nat) : Int) = (d : Int) + 1 by omega] at hcall
          rw [hfk0] at hsN hsle
          rw [hnk0] at hxN hxle
          have HC := (show Hid _ from hcall)
          have HE := (show Hid _ from And.intro hs (And.intro hx (And.intro hsN (And.intro hxN hgg))))
          have b1 : s + fk ≤ 1000000 := by omega
          have b2 : x + nk ≤ 1000000 := by omega
          have zi : (i : Int) ≤ (el : Int) := by omega
          have zf : ¬ (fk : Int) < 0 := by omega
          have hD1 : 1 ≤ D := by omega
          have hD2 : (0 : Int) < (D : Int) := by omega
          clear hw hfr hel hF1 hN1 hM ih hk hkw hsN hxN hsle hxle hfk hcall hfk0 hnk0 hs hx hgg
          rcases hy with ⟨rfl, rfl⟩ | rfl
          · go_wp2_with fail
            refine Calls.mono HC.out ?_
            rintro e w3 ⟨rfl, hw3⟩
            subst hw3
            go_wp2
            go_roundg (el + 1 - (0 + 1))
            case measure => (have := HE.out.2.2.2.2; clear HE; omega)
            case rel =>
              obtain ⟨g1, g2, g3, g4, -⟩ := HE.out
              exact ⟨1, s + fk, x + nk, D, by omega, by omega, by simp, by simp, by simp, rfl, by rw [g3]; omega, by rw [g4]; omega, .inr rfl, rfl⟩
          · go_wp2_with fail
            refine Calls.mono HC.out ?_
            rintro e w3 ⟨rfl, hw3⟩
            subst hw3
            go_wp2
            go_roundg (el + 1 - (i + 1))
            case measure => (have := HE.out.2.2.2.2; clear HE; omega)
            case rel =>
              obtain ⟨g1, g2, g3, g4, -⟩ := HE.out
              exact ⟨i + 1, s + fk, x + nk, y, by omega, by omega, by simp, by simp, by simp, rfl, by rw [g3]; omega, by rw [g4]; omega, .inr rfl, rfl⟩
        · obtain rfl : i = el + 1 := by omega
          have hkl := hw.1
          rw [List.take_of_length_le (by omega)] at hs hx
          have hs2 : s = FL := by omega
          have hx2 : x = p + NL := by omega
          have hy2 : y = D := by omega
          clear hw hfr hel hF1 hN1 hM ih hs hx hkl hy hj hi hgg HH
          subst hs2
          subst hx2
          subst hy2
          have zi : ¬ ((el + 1 : Nat) : Int) ≤ (el : Int) := by omega
          go_wp2
          go_ret3
          exact ⟨rfl, rfl⟩
end Go.Proofs.Ytgnhillnikjnfaa

namespace Go.Proofs.Ytgnhillnikjnfaa
open Go.RowKit

section
variable {F : Nat → Prop} {T : Nat} {l : List En}
set_option maxRecDepth 100000 in
set_option maxHeartbeats 4000000 in
theorem right_any (w : World) (h : TrF F w T l) (hl : l.length ≤ 100000) : Calls Try.prog 25 #[.pointer (some ⟨T, 0, none⟩)] w fun r w' => r = .returned (.bool true) ∧ Below w.heap.size w w' := by
  obtain ⟨n, t, ht, hf, hnodes⟩ := NodesT_any w h hl
  have hshape := fun (v : Value) (W : World) (hrow : W.ownsRow w.heap.size 50 3 v (nodesN n 1 t).length (encNts (nodesN n 1 t))) =>
    shape_any (nodesN n 1 t) w.heap.size v W hrow (by have := top_nodes ht; rw [hf] at this; omega) n t 1 0 ht.1 ht.2.1 ht.2.2 (fun h => absurd h (by omega)) ⟨[], by simp⟩ (by rw [hf]; omega) (by have := height_le n 1 t ht.1; have := top_nodes ht; rw [hf] at this; omega) (Nat.le_refl _)
  rw [hf, Nat.zero_add] at hshape
  have hlen := fun (W : World) (hb : Below w.heap.size w W) => LenT_any W (h.below hb)
  obtain ⟨M, hM⟩ : ∃ M, (nodesN n 1 t).length = M := ⟨_, rfl⟩
  obtain ⟨L, hL⟩ : ∃ L, l.length = L := ⟨_, rfl⟩
  rw [hM] at hnodes hshape
  rw [hL] at hshape hlen
  have HN := (show Hid _ from hnodes)
  have HS := (show Hid _ from hshape)
  have HL := (show Hid _ from hlen)
  clear h ht hf hnodes hshape hlen hM hL hl
  go_enter Try.func25, Try.ntmps25
  go_wp2_with fail
  refine Calls.mono HN.out ?_
  rintro e w1 ⟨v1, rfl, hr1, hb1⟩
  obtain ⟨va, vc1, rfl⟩ := slice_of_row hr1
  have G1 := (show Hid _ from And.intro hr1 hb1)
  clear hr1 hb1 HN
  go_wp2_with fail
  refine Calls.mono (HS.out _ w1 G1.out.1) ?_
  rintro e w2 ⟨rfl, hw2⟩
  subst hw2
  go_wp2_with fail
  refine Calls.mono (HL.out _ G1.out.2) ?_
  rintro e w3 ⟨rfl, hw3⟩
  subst hw3
  go_wp2
  go_ret
  exact ⟨rfl, G1.out.2⟩
end
end Go.Proofs.Ytgnhillnikjnfaa
