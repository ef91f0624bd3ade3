/-
  del by its contract: a tree of any height. Conditions: as stated.
  del by its contract: a tree of any height. Conditions: as stated.
  add by its contract: a tree of any height. Conditions: as stated.
  A tree as its package hands it out: New, Len, Has, First, Last, After, Before by their contracts. Conditions: as stated.
-/
import Derived.Test.YtoaekmighinmhaaU19
import Derived.Test.YtoaekmighinmhaaU8
namespace Go.Proofs.Ytoaekmighinmhaa
open Go.RowKit

set_option maxRecDepth 100000 in
set_option maxHeartbeats 4000000 in
theorem delF_any (n : Nat) (t : Nd) (e : En) (w : World) (h : Own (n + 1) w t) (hw : WfN (n + 1) t) (hl1 : 1 ≤ t.es.length) (hl4 : t.es.length ≤ 4) (hs : SortE (flatN (n + 1) t)) (hp : hasE e t.es = true) :
    Calls Try.prog 27 #[.pointer (some ⟨t.b, 0, none⟩), .agg #[.string e.1, .int .i64 e.2]] w fun r w' => r = .returned (.bool true) ∧ DelV (n + 1) w t e w' := by
  obtain ⟨ek, ei⟩ := e
  obtain ⟨W0, hW0, hwW, hs0, k0, k1⟩ := box_any w ek ei
  have hO0 := h.below hwW
  have hes := flat_es hs
  have hpl := place_any (ek, ei) W0 hO0.1.sh hes (by omega)
  obtain ⟨q, hq⟩ : ∃ q, ahE (ek, ei) t.es = q := ⟨_, rfl⟩
  have hx : t.es[q]? = some (ek, ei) := by rw [← hq]; exact (ah_find hes).2 (hasE_iff.1 hp)
  have hqi := (List.getElem?_eq_some_iff.1 hx).1
  obtain ⟨c, hc⟩ : ∃ c, t.kids[q]? = some c := ⟨_, List.getElem?_eq_getElem (by have := hw.1; omega)⟩
  have hcw := hw.2 c (List.mem_of_getElem? hc)
  rw [hp, hq] at hpl
  have hkl := hw.1
  have hlf := fun W (hW : Below W0.heap.size W0 W) => leaf_any W (hO0.1.sh.below hW)
  rw [decide_eq_false (show ¬ t.kids.length = 0 by omega)] at hlf
  obtain ⟨m, hm⟩ : ∃ m, t.kids.length = m := ⟨_, rfl⟩
  obtain ⟨el, hel⟩ : ∃ el, t.es.length = el := ⟨_, rfl⟩
  have zq : (q : Int) < (m : Int) ∧ (q : Int) < (el : Int) := by omega
  obtain ⟨zq1, zq2⟩ := zq
  have HH := (show Hid _ from And.intro h (And.intro hw (And.intro hl1 (And.intro hl4 (And.intro hs (And.intro hp (And.intro hx (And.intro hc (And.intro hcw (And.intro hm hel))))))))))
  clear h hw hl1 hl4 hs hp hx hc hcw hm hel hqi hkl hes hq hO0
  go_enter Try.func27, Try.ntmps27
  go_wp2_with fail
  refine hpl.mono ?_
  rintro e w1 ⟨rfl, hb1⟩
  have hlf1 := hlf w1 hb1
  have hb := hwW.trans (hb1.mono hwW.size)
  clear hpl hlf hb1 hwW hs0 hW0 k0 k1
  go_wp2_with fail
  refine hlf1.mono ?_
  rintro e w2 ⟨rfl, rfl⟩
  clear hlf1
  obtain ⟨h, hw, hl1, hl4, hs, hp, hx, hc, hcw, hm, hel⟩ := HH.out
  have hO2 := h.below hb
  have hO2d : Own (n + 1) w2.drew t := hO2.below (Below.refl _ _).drew
  obtain ⟨fc, y, hfc⟩ : ∃ fc y, flatN n c = fc ++ [y] := by
    have hne := flat_ne hcw.1 (by omega)
    obtain ⟨fc, hfc⟩ := List.getLast?_eq_some_iff.1 (List.getLast?_eq_some_getLast hne)
    exact ⟨fc, _, hfc⟩
  have htl := takeLast_any n c y fc w2.drew (own_kid hO2d hc) hcw.1 (by omega) (by omega) hfc
  obtain ⟨B, d, ekk, hd1, hd2, c1, ck, -⟩ := hO2.1.1.kidv hc
  obtain ⟨D, dc, ess, hdc1, hdc2, t0, tk, ti, tf⟩ := hO2.1.1.entryv hx
  rw [hm] at c1 hd1
  rw [hel] at t0 hdc1
  have tot : ∀ a, sc a t + tc n a c ≤ 1 := fun a => by
    have h1 := h.2 a
    have h2 := le_sum (tc n a) (List.mem_of_getElem? hc)
    have h3 : tc (n + 1) a t = sc a t + (t.kids.map (tc n a)).sum := rfl
    omega
  have hdis : tc n t.b c = 0 ∧ tc n B c = 0 ∧ tc n D c = 0 := by
    refine ⟨by have := tot t.b; have := sc_b t; omega, ?_, ?_⟩
    · have h1 := tot B
      have h2 : vc B t.k = 1 := vc_of (by rw [ekk]; rfl)
      have h3 : vc B t.k ≤ sc B t := by unfold sc; omega
      omega
    · have h1 := tot D
      have h2 : vc D t.s = 1 := vc_of (by rw [ess]; rfl)
      have h3 : vc D t.s ≤ sc D t := by unfold sc; omega
      omega
  have hbs : t.b < w2.heap.size ∧ B < w2.heap.size ∧ D < w2.heap.size := ⟨lt_of_cell c1, lt_of_cell ck, lt_of_cell tk⟩
  obtain ⟨yk, yi⟩ := y
  have P0 := fun (w' : World) (h : w'.heap[t.b]? = w2.heap[t.b]? ∧ w'.heap[B]? = w2.heap[B]?) => (World.cell?_of_block (a := ⟨t.b, 1, none⟩) h.1).trans c1
  have P1 := fun (w' : World) (h : w'.heap[t.b]? = w2.heap[t.b]? ∧ w'.heap[B]? = w2.heap[B]?) => (World.cell?_of_block (a := ⟨B, q, none⟩) h.2).trans ck
  have P2 := fun (w' : World) (h : w'.heap[t.b]? = w2.heap[t.b]? ∧ w'.heap[B]? = w2.heap[B]?) => (World.cell?_of_block (a := ⟨t.b, 0, none⟩) h.1).trans t0
  have G1 := (show Hid _ from And.intro hO2d (And.intro hfc (And.intro ess (And.intro hdis (And.intro tk (And.intro ti tf))))))
  clear h hw hl1 hl4 hs hp hx hc hcw hm hel hO2 hO2d hfc ekk ess c1 ck t0 tk ti tf tot hdis
  have h0 : (fun w' : World => w'.heap[t.b]? = w2.heap[t.b]? ∧ w'.heap[B]? = w2.heap[B]?) w2.drew := ⟨rfl, rfl⟩
  go_wp2_with fail
  refine wp_region_snoc_held2 (S := fun w' => w'.heap[t.b]? = w2.heap[t.b]? ∧ w'.heap[B]? = w2.heap[B]?) (head := #[_, _, _, _, _, _, _, _, _, _, _, _, _, _]) (last := ⟨_, _, _, _, _, _⟩) mixed (by kernel_rfl) rfl ?_
  refine wpAnyH_take (i := 0) (oi := ⟨_, _, _, _, _, _⟩) (v := ?v1) rfl (by kernel_rfl) (by kernel_rfl) (by kernel_rfl) (fun _ _ _ h => h) (Or.inl ⟨by rfl, ?hy1⟩) h0 ?rest1
  case hy1 => (intro w hSw; (try dsimp only at hSw); go_simp; try with_reducible rfl)
  simp only [Act.put, List.setIfInBounds_toArray, List.set_cons_zero, List.set_cons_succ]
  refine wpAnyH_take (i := 1) (oi := ⟨_, _, _, _, _, _⟩) (v := ?v2) rfl (by kernel_rfl) (by kernel_rfl) (by kernel_rfl) (fun _ _ _ h => h) (Or.inl ⟨by rfl, ?hy2⟩) h0 ?rest2
  case hy2 => (intro w hSw; (try dsimp only at hSw); go_simp; try with_reducible rfl)
  simp only [Act.put, List.setIfInBounds_toArray, List.set_cons_zero, List.set_cons_succ]
  refine wpAnyH_take (i := 2) (oi := ⟨_, _, _, _, _, _⟩) (v := ?v3) rfl (by kernel_rfl) (by kernel_rfl) (by kernel_rfl) (fun _ _ _ h => h) (Or.inl ⟨by rfl, ?hy3⟩) h0 ?rest3
  case hy3 => (intro w hSw; (try dsimp only at hSw); go_simp; try with_reducible rfl)
  simp only [Act.put, List.setIfInBounds_toArray, List.set_cons_zero, List.set_cons_succ]
  refine wpAnyH_take (i := 3) (oi := ⟨_, _, _, _, _, _⟩) (v := ?v4) rfl (by kernel_rfl) (by kernel_rfl) (by kernel_rfl) (fun _ _ _ h => h) (Or.inl ⟨by rfl, ?hy4⟩) h0 ?rest4
  case hy4 => (intro w hSw; (try dsimp only at hSw); go_simp; try with_reducible rfl)
  simp only [Act.put, List.setIfInBounds_toArray, List.set_cons_zero, List.set_cons_succ]
  refine wpAnyH_take (i := 4) (oi := ⟨_, _, _, _, _, _⟩) (v := ?v5) rfl (by kernel_rfl) (by kernel_rfl) (by kernel_rfl) (fun _ _ _ h => h) (Or.inl ⟨by rfl, ?hy5⟩) h0 ?rest5
  case hy5 => (intro w hSw; (try dsimp only at hSw); go_simp; try with_reducible rfl)
  simp only [Act.put, List.setIfInBounds_toArray, List.set_cons_zero, List.set_cons_succ]
  refine wpAnyH_take (i := 5) (oi := ⟨_, _, _, _, _, _⟩) (v := ?v6) rfl (by kernel_rfl) (by kernel_rfl) (by kernel_rfl) (fun _ _ _ h => h) (Or.inl ⟨by rfl, ?hy6⟩) h0 ?rest6
  case hy6 => (intro w hSw; (try dsimp only at hSw); go_simp; try with_reducible rfl)
  simp only [Act.put, List.setIfInBounds_toArray, List.set_cons_zero, List.set_cons_succ]
  refine wpAnyH_take (i := 6) (oi := ⟨_, _, _, _, _, _⟩) (v := ?v7) rfl (by kernel_rfl) (by kernel_rfl) (by kernel_rfl) (fun _ _ _ h => h) (Or.inl ⟨by rfl, ?hy7⟩) h0 ?rest7
  case hy7 => (intro w hSw; (try dsimp only at hSw); go_simp; try with_reducible rfl)
  simp only [Act.put, List.setIfInBounds_toArray, List.set_cons_zero, List.set_cons_succ]
  refine wpAnyH_take (i := 7) (oi := ⟨_, _, _, _, _, _⟩) (v := ?v8) rfl (by kernel_rfl) (by kernel_rfl) (by kernel_rfl) (fun _ _ _ h => h) (Or.inl ⟨by rfl, ?hy8⟩) h0 ?rest8
  case hy8 => (intro w hSw; (try dsimp only at hSw); go_simp; try with_reducible rfl)
  simp only [Act.put, List.setIfInBounds_toArray, List.set_cons_zero, List.set_cons_succ]
  refine wpAnyH_take (i := 8) (oi := ⟨_, _, _, _, _, _⟩) (v := ?v9) rfl (by kernel_rfl) (by kernel_rfl) (by kernel_rfl) (fun _ _ _ h => h) (Or.inl ⟨by rfl, ?hy9⟩) h0 ?rest9
  case hy9 => (intro w hSw; (try dsimp only at hSw); go_simp; try with_reducible rfl)
  simp only [Act.put, List.setIfInBounds_toArray, List.set_cons_zero, List.set_cons_succ]
  refine wpAnyH_take (i := 9) (oi := ⟨_, _, _, _, _, _⟩) (v := ?v10) rfl (by kernel_rfl) (by kernel_rfl) (by kernel_rfl) (fun _ _ _ h => h) (Or.inl ⟨by rfl, ?hy10⟩) h0 ?rest10
  case hy10 => (intro w hSw; (try dsimp only at hSw); go_simp; try with_reducible rfl)
  simp only [Act.put, List.setIfInBounds_toArray, List.set_cons_zero, List.set_cons_succ]
  refine wpAnyH_take (i := 10) (oi := ⟨_, _, _, _, _, _⟩) (v := ?v11) rfl (by kernel_rfl) (by kernel_rfl) (by kernel_rfl) (fun _ _ _ h => h) (Or.inl ⟨by rfl, ?hy11⟩) h0 ?rest11
  case hy11 => (intro w hSw; (try dsimp only at hSw); go_simp; try with_reducible rfl)
  simp only [Act.put, List.setIfInBounds_toArray, List.set_cons_zero, List.set_cons_succ]
  refine wpAnyH_take (i := 11) (oi := ⟨_, _, _, _, _, _⟩) (v := ?v12) rfl (by kernel_rfl) (by kernel_rfl) (by kernel_rfl) (fun _ _ _ h => h) (Or.inl ⟨by rfl, ?hy12⟩) h0 ?rest12
  case hy12 => (intro w hSw; (try dsimp only at hSw); go_simp; try with_reducible rfl)
  simp only [Act.put, List.setIfInBounds_toArray, List.set_cons_zero, List.set_cons_succ]
  refine wpAnyH_ready (rs := [12]) (by kernel_rfl) (by simp) ?_
  refine AllReadyH.cons (o := ⟨_, _, _, _, _, _⟩) rfl (fun K hK => ?_) AllReadyH.nil
  go_simp
  refine htl.mono ?_
  rintro e w3 ⟨rfl, hv⟩
  obtain ⟨hO2d, hfc, ess, ⟨hd1', hd2', hd3'⟩, tk, ti, tf⟩ := G1.out
  have h3 : w3.heap[t.b]? = w2.heap[t.b]? ∧ w3.heap[B]? = w2.heap[B]? := by
    obtain ⟨c', hE, -⟩ := hv
    exact ⟨hE.chg.block _ hbs.1 hd1', hE.chg.block _ hbs.2.1 hd2'⟩
  have h3D : w3.heap[D]? = w2.heap[D]? := by
    obtain ⟨c', hE, -⟩ := hv
    exact hE.chg.block _ hbs.2.2 hd3'
  have u0 := (World.cell?_of_block (a := ⟨D, q * 2, none⟩) h3D).trans tk
  have u1 := (World.cell?_of_block (a := ⟨D, q * 2 + 1, none⟩) h3D).trans ti
  have uf : ∀ j, w3.frozen? ⟨D, j, none⟩ = false := fun j => (World.frozen?_of_block (a := ⟨D, j, none⟩) h3D).trans (tf j)
  have G2 := (show Hid _ from hv)
  clear hv hO2d hfc ess hd1' hd2' hd3' tk ti tf htl h3D
  refine hK.out _ _ h3 (fun hHeld => ?_)
  clear hK K hHeld
  try simp only [Act.put, List.setIfInBounds_toArray, List.set_cons_zero, List.set_cons_succ]
  refine wpAnyH_ready (rs := [13]) (by kernel_rfl) (by simp) ?_
  refine AllReadyH.cons (o := ⟨_, _, _, _, _, _⟩) rfl (fun K hK => ?_) AllReadyH.nil
  go_simp
  refine hK.out _ _ h3 (fun hHeld => ?_)
  clear hK K hHeld
  try simp only [Act.put, List.setIfInBounds_toArray, List.set_cons_zero, List.set_cons_succ]
  refine wpAnyH_done (by kernel_rfl) ?_ _
  clear P0 P1 P2 h0 h3
  show Oper.wp _ _ _ _ _ _
  go_simp
  obtain ⟨h, hw, hl1, hl4, hs, hp, hx, hc, hcw, hm, hel⟩ := HH.out
  obtain ⟨hO2d, hfc, ess, -⟩ := G1.out
  obtain ⟨c', hEc, hcw', hcf, hc1, hc2⟩ := G2.out
  have hE1 := evo_kid hO2d hc hEc
  have hE0 := Evo.later h (hb.trans ((Below.refl _ _).drew)) hE1
  have hilt := (List.getElem?_eq_some_iff.1 hc).1
  obtain ⟨t1, ht1⟩ : ∃ t1 : Nd, t1 = { t with kids := t.kids.set q c' } := ⟨_, rfl⟩
  rw [← ht1] at hE0 hE1
  have h1e : t1.es = t.es := by rw [ht1]
  have h1s : t1.s = t.s := by rw [ht1]
  have h1b : t1.b = t.b := by rw [ht1]
  have hset := ev1_set (x := (yk, yi)) (t := t1) (B := D) (c := dc) (i := q) (y := (ek, ei)) hE1.own.1.1 (fun a => by have h5 := hE1.own.2 a; have := tc_sc (n + 1) a t1; omega) (by rw [h1s, h1e]; exact ess) (by rw [h1e]; exact hx)
  obtain ⟨W4, hW4⟩ : ∃ W4, (w3.setCell ⟨D, q * 2, none⟩ (.string yk)).setCell ⟨D, q * 2 + 1, none⟩ (.int .i64 yi) = W4 := ⟨_, rfl⟩
  rw [hW4] at hset
  have hE2 := evo_es hE1.own hset (by rw [List.length_set])
  obtain ⟨t2, ht2⟩ : ∃ t2 : Nd, t2 = { t1 with es := t1.es.set q (yk, yi) } := ⟨_, rfl⟩
  rw [← ht2] at hE2
  have h2b : t2.b = t.b := by rw [ht2]; exact h1b
  have h2e : t2.es.length = t.es.length := by rw [ht2]; show (t1.es.set q _).length = _; rw [List.length_set, h1e]
  have h2k : t2.kids = t.kids.set q c' := by rw [ht2]; show t1.kids = _; rw [ht1]
  have hfl : flatN (n + 1) t2 = delE (ek, ei) (flatN (n + 1) t) := by
    have e1 : t2 = { t with es := t.es.set q (yk, yi), kids := t.kids.set q c' } := by rw [ht2, ht1]
    rw [e1]
    exact flat_swap hw.1 hc hx hfc hcf hs
  have hx2 : WfX n t2 (fun j => j = q) := by
    have h5 := set_wfX (k' := c') hw hilt hcw'
    refine ⟨by rw [h2k, h2e]; exact h5.1, fun j k hk => ?_⟩
    rw [h2k] at hk
    exact h5.2 j k hk
  have hget : t2.kids[q]? = some c' := by rw [h2k]; exact set_get (t := t) hilt
  have hmend := mend_any W4 hE2.own hx2 hget (by omega) (by rw [h2e]; omega)
  rw [h2b, h2e] at hmend
  have G3 := (show Hid _ from And.intro (hE0.trans hE2) hfl)
  clear h hw hl1 hl4 hs hp hx hc hcw hm hel hO2d hfc ess hEc hcw' hcf hc1 hc2 hE1 hE0 hilt ht1 h1e h1s h1b hset hE2 ht2 h2b h2e h2k hfl hx2 hget
  go_wp2_with fail
  refine hmend.mono ?_
  rintro e w5 ⟨rfl, hag⟩
  have G4 := (show Hid _ from hag)
  clear hag hmend
  go_wp2
  go_ret
  obtain ⟨t3, a1, a2, a3, a4, a5⟩ := G4.out
  obtain ⟨hE0, hfl⟩ := G3.out
  obtain ⟨h, hw, hl1, hl4, hs, hp, -⟩ := HH.out
  exact ⟨rfl, t3, hE0.trans a1, a2, a3.trans hfl, a4, a5, fun hc => by rw [hasE_iff.2 (flat_mem (hasE_iff.1 hp))] at hc; cases hc⟩
end Go.Proofs.Ytoaekmighinmhaa

namespace Go.Proofs.Ytoaekmighinmhaa
open Go.RowKit

set_option maxRecDepth 100000 in
set_option maxHeartbeats 4000000 in
theorem del_any : ∀ (n : Nat) (t : Nd) (e : En) (w : World), Own n w t → WfN n t → (n = 0 ∨ 1 ≤ t.es.length) → t.es.length ≤ 4 → SortE (flatN n t) →
    Calls Try.prog 27 #[.pointer (some ⟨t.b, 0, none⟩), .agg #[.string e.1, .int .i64 e.2]] w fun r w' => r = .returned (.bool (hasE e (flatN n t))) ∧ DelV n w t e w' := by
  intro n
  induction n with
  | zero => exact fun t e w h _ _ hl hs => del0_any t e w h hl hs
  | succ n ih =>
    intro t e w h hw hl1 hl hs
    have hl1 : 1 ≤ t.es.length := by omega
    obtain ⟨ek, ei⟩ := e
    obtain ⟨W0, hW0, hwW, hs0, k0, k1⟩ := box_any w ek ei
    have hO0 := h.below hwW
    have hes := flat_es hs
    have hpl := place_any (ek, ei) W0 hO0.1.sh hes (by omega)
    cases hp : hasE (ek, ei) t.es with
    | true =>
      have hg : hasE (ek, ei) (flatN (n + 1) t) = true := hasE_iff.2 (flat_mem (hasE_iff.1 hp))
      rw [hg]
      exact delF_any n t (ek, ei) w h hw hl1 hl hs hp
    | false =>
      have hle := ah_le (ek, ei) t.es
      obtain ⟨q, hq⟩ : ∃ q, ahE (ek, ei) t.es = q := ⟨_, rfl⟩
      obtain ⟨k, hk⟩ : ∃ k, t.kids[ahE (ek, ei) t.es]? = some k := ⟨_, List.getElem?_eq_getElem (by have := hw.1; omega)⟩
      have hkm := List.mem_of_getElem? hk
      have hkw := hw.2 k hkm
      have hbes := beside hw hs hk hp
      have hfk := flat_kid hw hk
      have hks : SortE (flatN n k) := by rw [hfk] at hs; exact (sort_mid hs).1
      have hdesc := has_desc hw hs hk hp
      rw [hq] at hk hbes hfk hle
      rw [hdesc]
      obtain ⟨p, hpd⟩ : ∃ p, hasE (ek, ei) (flatN n k) = p := ⟨_, rfl⟩
      rw [hpd]
      have HP := (show Hid _ from hpd)
      rw [hp, hq] at hpl
      have hlt := (List.getElem?_eq_some_iff.1 hk).1
      have hnz : ¬ t.kids.length = 0 := by omega
      have hlf := fun W (hW : Below W0.heap.size W0 W) => leaf_any W (hO0.1.sh.below hW)
      rw [decide_eq_false hnz] at hlf
      have HH := (show Hid _ from And.intro h (And.intro hw (And.intro (And.intro hl1 hl) (And.intro hs (And.intro hk (And.intro hbes (And.intro hfk (And.intro hks (And.intro hdesc hkw)))))))))
      have IH := (show Hid _ from ih)
      have zq : (q : Int) < (t.kids.length : Int) := by omega
      obtain ⟨m, hm⟩ : ∃ m, t.kids.length = m := ⟨_, rfl⟩
      rw [hm] at zq
      have HM := (show Hid _ from hm)
      clear h hO0 hw hs hes hp hk hkm hkw hbes hfk hks hdesc hlt hnz hq hle ih hm hpd hl1 hl
      go_enter Try.func27, Try.ntmps27
      go_wp2_with fail
      refine hpl.mono ?_
      rintro e w1 ⟨rfl, hb1⟩
      have hlf1 := hlf w1 hb1
      have m0 := (hb1.cell (lt_of_cell k0)).trans k0
      have m1 := (hb1.cell (lt_of_cell k1)).trans k1
      have hb := hwW.trans (hb1.mono hwW.size)
      clear hpl hlf hb1 hwW hs0 hW0 k0 k1
      go_wp2_with fail
      refine hlf1.mono ?_
      rintro e w2 ⟨rfl, rfl⟩
      clear hlf1
      obtain ⟨h, hw, ⟨hl1, hl⟩, hs, hk, hbes, hfk, hks, hdesc, hkw⟩ := HH.out
      have hO2 := h.below hb
      have hO2d : Own (n + 1) w2.drew t := hO2.below (Below.refl _ _).drew
      obtain ⟨B, d, ek2, hd1, hd2, c1, ck, -⟩ := hO2.1.1.kidv hk
      rw [HM.out] at c1 hd1
      have hrec := IH.out k (ek, ei) w2.drew (own_kid hO2d hk) hkw.1 (.inr (by omega)) (by omega) hks
      rw [HP.out] at hrec
      have hdis : tc n t.b k = 0 ∧ tc n B k = 0 ∧ tc n w.heap.size k = 0 := by
        have tot : ∀ a, sc a t + tc n a k ≤ 1 := fun a => by
          have h1 := h.2 a
          have h2 := le_sum (tc n a) (List.mem_of_getElem? hk)
          have h3 : tc (n + 1) a t = sc a t + (t.kids.map (tc n a)).sum := rfl
          omega
        refine ⟨by have := tot t.b; have := sc_b t; omega, ?_, ?_⟩
        · have h1 := tot B
          have h2 : vc B t.k = 1 := vc_of (by rw [ek2]; rfl)
          have h3 : vc B t.k ≤ sc B t := by unfold sc; omega
          omega
        · refine Classical.byContradiction fun hc => ?_
          have := (h.1.2.2 k (List.mem_of_getElem? hk)).lt hc
          omega
      have hbs : t.b < w2.heap.size ∧ B < w2.heap.size ∧ w.heap.size < w2.heap.size := ⟨lt_of_cell c1, lt_of_cell ck, lt_of_cell m0⟩
      have P0 := fun (w' : World) (h : w'.heap[t.b]? = w2.heap[t.b]? ∧ w'.heap[B]? = w2.heap[B]? ∧ w'.heap[w.heap.size]? = w2.heap[w.heap.size]?) => (World.cell?_of_block (a := ⟨t.b, 1, none⟩) h.1).trans c1
      have P1 := fun (w' : World) (h : w'.heap[t.b]? = w2.heap[t.b]? ∧ w'.heap[B]? = w2.heap[B]? ∧ w'.heap[w.heap.size]? = w2.heap[w.heap.size]?) => (World.cell?_of_block (a := ⟨B, q, none⟩) h.2.1).trans ck
      have P2 := fun (w' : World) (h : w'.heap[t.b]? = w2.heap[t.b]? ∧ w'.heap[B]? = w2.heap[B]? ∧ w'.heap[w.heap.size]? = w2.heap[w.heap.size]?) => (World.cell?_of_block (a := ⟨w.heap.size, 0, none⟩) h.2.2).trans m0
      have P3 := fun (w' : World) (h : w'.heap[t.b]? = w2.heap[t.b]? ∧ w'.heap[B]? = w2.heap[B]? ∧ w'.heap[w.heap.size]? = w2.heap[w.heap.size]?) => (World.cell?_of_block (a := ⟨w.heap.size, 1, none⟩) h.2.2).trans m1
      have G1 := (show Hid _ from And.intro hO2d hdis)
      clear h hw hl1 hl hs hk hbes hfk hks hdesc hkw hO2 hO2d m0 m1 c1 ck hdis ek2
      have h0 : (fun w' : World => w'.heap[t.b]? = w2.heap[t.b]? ∧ w'.heap[B]? = w2.heap[B]? ∧ w'.heap[w.heap.size]? = w2.heap[w.heap.size]?) w2.drew := ⟨rfl, rfl, rfl⟩
      go_wp2_with fail
      refine wp_region_held (S := fun w' => w'.heap[t.b]? = w2.heap[t.b]? ∧ w'.heap[B]? = w2.heap[B]? ∧ w'.heap[w.heap.size]? = w2.heap[w.heap.size]?) mixed ?_
      refine wpAnyH_take (i := 0) (oi := ⟨_, _, _, _, _, _⟩) (v := ?v1) rfl (by kernel_rfl) (by kernel_rfl) (by kernel_rfl) (fun _ _ _ h => h) (Or.inl ⟨by rfl, ?hy1⟩) h0 ?rest1
      case hy1 => (intro w hSw; (try dsimp only at hSw); go_simp; try with_reducible rfl)
      simp only [Act.put, List.setIfInBounds_toArray, List.set_cons_zero, List.set_cons_succ]
      refine wpAnyH_take (i := 1) (oi := ⟨_, _, _, _, _, _⟩) (v := ?v2) rfl (by kernel_rfl) (by kernel_rfl) (by kernel_rfl) (fun _ _ _ h => h) (Or.inl ⟨by rfl, ?hy2⟩) h0 ?rest2
      case hy2 => (intro w hSw; (try dsimp only at hSw); go_simp; try with_reducible rfl)
      simp only [Act.put, List.setIfInBounds_toArray, List.set_cons_zero, List.set_cons_succ]
      refine wpAnyH_take (i := 2) (oi := ⟨_, _, _, _, _, _⟩) (v := ?v3) rfl (by kernel_rfl) (by kernel_rfl) (by kernel_rfl) (fun _ _ _ h => h) (Or.inl ⟨by rfl, ?hy3⟩) h0 ?rest3
      case hy3 => (intro w hSw; (try dsimp only at hSw); go_simp; try with_reducible rfl)
      simp only [Act.put, List.setIfInBounds_toArray, List.set_cons_zero, List.set_cons_succ]
      refine wpAnyH_take (i := 3) (oi := ⟨_, _, _, _, _, _⟩) (v := ?v4) rfl (by kernel_rfl) (by kernel_rfl) (by kernel_rfl) (fun _ _ _ h => h) (Or.inl ⟨by rfl, ?hy4⟩) h0 ?rest4
      case hy4 => (intro w hSw; (try dsimp only at hSw); go_simp; try with_reducible rfl)
      simp only [Act.put, List.setIfInBounds_toArray, List.set_cons_zero, List.set_cons_succ]
      refine wpAnyH_take (i := 4) (oi := ⟨_, _, _, _, _, _⟩) (v := ?v5) rfl (by kernel_rfl) (by kernel_rfl) (by kernel_rfl) (fun _ _ _ h => h) (Or.inl ⟨by rfl, ?hy5⟩) h0 ?rest5
      case hy5 => (intro w hSw; (try dsimp only at hSw); go_simp; try with_reducible rfl)
      simp only [Act.put, List.setIfInBounds_toArray, List.set_cons_zero, List.set_cons_succ]
      refine wpAnyH_take (i := 5) (oi := ⟨_, _, _, _, _, _⟩) (v := ?v6) rfl (by kernel_rfl) (by kernel_rfl) (by kernel_rfl) (fun _ _ _ h => h) (Or.inl ⟨by rfl, ?hy6⟩) h0 ?rest6
      case hy6 => (intro w hSw; (try dsimp only at hSw); go_simp; try with_reducible rfl)
      simp only [Act.put, List.setIfInBounds_toArray, List.set_cons_zero, List.set_cons_succ]
      refine wpAnyH_take (i := 6) (oi := ⟨_, _, _, _, _, _⟩) (v := ?v7) rfl (by kernel_rfl) (by kernel_rfl) (by kernel_rfl) (fun _ _ _ h => h) (Or.inl ⟨by rfl, ?hy7⟩) h0 ?rest7
      case hy7 => (intro w hSw; (try dsimp only at hSw); go_simp; try with_reducible rfl)
      simp only [Act.put, List.setIfInBounds_toArray, List.set_cons_zero, List.set_cons_succ]
      refine wpAnyH_take (i := 7) (oi := ⟨_, _, _, _, _, _⟩) (v := ?v8) rfl (by kernel_rfl) (by kernel_rfl) (by kernel_rfl) (fun _ _ _ h => h) (Or.inl ⟨by rfl, ?hy8⟩) h0 ?rest8
      case hy8 => (intro w hSw; (try dsimp only at hSw); go_simp; try with_reducible rfl)
      simp only [Act.put, List.setIfInBounds_toArray, List.set_cons_zero, List.set_cons_succ]
      refine wpAnyH_ready (rs := [8]) (by kernel_rfl) (by simp) ?_
      refine AllReadyH.cons (o := ⟨_, _, _, _, _, _⟩) rfl (fun K hK => ?_) AllReadyH.nil
      go_simp
      refine hrec.mono ?_
      rintro e w3 ⟨rfl, hv⟩
      obtain ⟨hO2d, hd1', hd2', hd3'⟩ := G1.out
      have h3 : w3.heap[t.b]? = w2.heap[t.b]? ∧ w3.heap[B]? = w2.heap[B]? ∧ w3.heap[w.heap.size]? = w2.heap[w.heap.size]? := by
        obtain ⟨k', hE, -⟩ := hv
        exact ⟨hE.chg.block _ hbs.1 hd1', hE.chg.block _ hbs.2.1 hd2', hE.chg.block _ hbs.2.2 hd3'⟩
      have G2 := (show Hid _ from hv)
      clear hv hO2d hd1' hd2' hd3' hrec
      refine hK.out _ _ h3 (fun hHeld => ?_)
      clear hK K hHeld
      try simp only [Act.put, List.setIfInBounds_toArray, List.set_cons_zero, List.set_cons_succ]
      refine wpAnyH_take (i := 9) (oi := ⟨_, _, _, _, _, _⟩) (v := ?v9) rfl (by kernel_rfl) (by kernel_rfl) (by kernel_rfl) (fun _ _ _ h => h) (Or.inl ⟨by rfl, ?hy9⟩) h3 ?rest9
      case hy9 => (intro w hSw; (try dsimp only at hSw); go_simp; try with_reducible rfl)
      simp only [Act.put, List.setIfInBounds_toArray, List.set_cons_zero, List.set_cons_succ]
      refine wpAnyH_done (by kernel_rfl) ?_ _
      clear P0 P1 P2 P3 h0 h3
      obtain ⟨h, hw, ⟨hl1, hl⟩, hs, hk, hbes, hfk, hks, hdesc, hkw⟩ := HH.out
      obtain ⟨k', hEk, hkw', hkf, hk1, hk2, hk3⟩ := G2.out
      obtain ⟨hO2d, -⟩ := G1.out
      have hE1 := evo_kid hO2d hk hEk
      have hE0 := Evo.later h (hb.trans ((Below.refl _ _).drew)) hE1
      have hilt := (List.getElem?_eq_some_iff.1 hk).1
      cases p with
      | true =>
        obtain ⟨t1, ht1⟩ : ∃ t1 : Nd, t1 = { t with kids := t.kids.set q k' } := ⟨_, rfl⟩
        rw [← ht1] at hE0 hE1
        have hx1 : WfX n t1 (fun j => j = q) := by rw [ht1]; exact set_wfX hw hilt hkw'
        have hget : t1.kids[q]? = some k' := by rw [ht1]; exact set_get hilt
        have h1b : t1.b = t.b := by rw [ht1]
        have h1e : t1.es = t.es := by rw [ht1]
        have hsp := mend_any w3 hE1.own hx1 hget (by omega) (by rw [h1e]; omega)
        rw [h1b, h1e] at hsp
        have hfl : flatN (n + 1) t1 = delE (ek, ei) (flatN (n + 1) t) := by
          rw [ht1, set_flat hw.1 hk, hkf, hfk, del_mid (by rw [← hfk]; exact hs) hbes.1 hbes.2]
        have G3 := (show Hid _ from And.intro hE0 hfl)
        clear h hw hl1 hl hs hk hbes hfk hks hdesc hkw hEk hkw' hkf hk1 hk2 hk3 hO2d hE1 hE0 hilt ht1 hx1 hget h1b h1e hfl
        go_wp2_with fail
        refine hsp.mono ?_
        rintro e w5 ⟨rfl, hag⟩
        have G4 := (show Hid _ from hag)
        clear hag hsp
        go_wp2
        go_ret
        obtain ⟨t2, a1, a2, a3, a4, a5⟩ := G4.out
        obtain ⟨hE0, hfl⟩ := G3.out
        obtain ⟨h, hw, ⟨hl1, hl⟩, hs, hk, hbes, hfk, hks, hdesc, hkw⟩ := HH.out
        exact ⟨rfl, t2, hE0.trans a1, a2, a3.trans hfl, a4, a5, fun hc => by rw [hdesc, HP.out] at hc; cases hc⟩
      | false =>
        have hkk := hk3 HP.out
        rw [hkk, set_same hk] at hE0
        have hfin : DelV (n + 1) w t (ek, ei) w3 := ⟨t, hE0, hw, (del_gone hs (hasE_not.1 (hdesc.trans HP.out))).symm, Nat.sub_le _ _, Nat.le_refl _, fun _ => rfl⟩
        clear h hw hl1 hl hs hk hbes hfk hks hdesc hkw hEk hkw' hkf hk1 hk2 hk3 hO2d hE1 hE0 hilt hkk
        go_wp2
        go_ret
        exact ⟨rfl, hfin⟩
end Go.Proofs.Ytoaekmighinmhaa

namespace Go.Proofs.Ytoaekmighinmhaa
open Go.RowKit

set_option maxRecDepth 100000 in
set_option maxHeartbeats 4000000 in
theorem add_any : ∀ (n : Nat) (t : Nd) (e : En) (w : World), Own n w t → WfN n t → t.es.length ≤ 4 → SortE (flatN n t) →
    Calls Try.prog 25 #[.pointer (some ⟨t.b, 0, none⟩), .agg #[.string e.1, .int .i64 e.2]] w fun r w' => r = .returned (.bool (!hasE e (flatN n t))) ∧ AddV n w t e w' := by
  intro n
  induction n with
  | zero => exact fun t e w h _ hl hs => add0_any t e w h hl hs
  | succ n ih =>
    intro t e w h hw hl hs
    obtain ⟨ek, ei⟩ := e
    obtain ⟨W0, hW0, hwW, hs0, k0, k1⟩ := box_any w ek ei
    have hO0 := h.below hwW
    have hes := flat_es hs
    have hpl := place_any (ek, ei) W0 hO0.1.sh hes (by omega)
    cases hp : hasE (ek, ei) t.es with
    | true =>
      have hg : hasE (ek, ei) (flatN (n + 1) t) = true := hasE_iff.2 (flat_mem (hasE_iff.1 hp))
      rw [hg]
      rw [hp] at hpl
      have hfin := fun w' hb => AddV.same (e := (ek, ei)) (w' := w') h hw hs hg hb
      generalize ahE (ek, ei) t.es = q at *
      clear h hO0 hs hw hes hp hg ih
      go_enter Try.func25, Try.ntmps25
      go_wp2_with fail
      refine hpl.mono ?_
      rintro e w1 ⟨rfl, hb1⟩
      have hb := hwW.trans (hb1.mono hwW.size)
      go_wp2
      go_ret
      exact ⟨rfl, hfin _ hb⟩
    | false =>
      have hle := ah_le (ek, ei) t.es
      obtain ⟨q, hq⟩ : ∃ q, ahE (ek, ei) t.es = q := ⟨_, rfl⟩
      obtain ⟨k, hk⟩ : ∃ k, t.kids[ahE (ek, ei) t.es]? = some k := ⟨_, List.getElem?_eq_getElem (by have := hw.1; omega)⟩
      have hkm := List.mem_of_getElem? hk
      have hkw := hw.2 k hkm
      have hbes := beside hw hs hk hp
      have hfk := flat_kid hw hk
      have hks : SortE (flatN n k) := by rw [hfk] at hs; exact (sort_mid hs).1
      have hdesc := has_desc hw hs hk hp
      rw [hq] at hk hbes hfk hle
      rw [hdesc]
      obtain ⟨p, hpd⟩ : ∃ p, hasE (ek, ei) (flatN n k) = p := ⟨_, rfl⟩
      rw [hpd]
      have HP := (show Hid _ from hpd)
      rw [hp, hq] at hpl
      have hlt := (List.getElem?_eq_some_iff.1 hk).1
      have hnz : ¬ t.kids.length = 0 := by omega
      have hlf := fun W (hW : Below W0.heap.size W0 W) => leaf_any W (hO0.1.sh.below hW)
      rw [decide_eq_false hnz] at hlf
      have HH := (show Hid _ from And.intro h (And.intro hw (And.intro hl (And.intro hs (And.intro hk (And.intro hbes (And.intro hfk (And.intro hks (And.intro hdesc hkw)))))))))
      have IH := (show Hid _ from ih)
      have zq : (q : Int) < (t.kids.length : Int) := by omega
      obtain ⟨m, hm⟩ : ∃ m, t.kids.length = m := ⟨_, rfl⟩
      rw [hm] at zq
      have HM := (show Hid _ from hm)
      clear h hO0 hw hs hes hp hk hkm hkw hbes hfk hks hdesc hlt hnz hq hle ih hm hpd
      go_enter Try.func25, Try.ntmps25
      go_wp2_with fail
      refine hpl.mono ?_
      rintro e w1 ⟨rfl, hb1⟩
      have hlf1 := hlf w1 hb1
      have m0 := (hb1.cell (lt_of_cell k0)).trans k0
      have m1 := (hb1.cell (lt_of_cell k1)).trans k1
      have hb := hwW.trans (hb1.mono hwW.size)
      clear hpl hlf hb1 hwW hs0 hW0 k0 k1
      go_wp2_with fail
      refine hlf1.mono ?_
      rintro e w2 ⟨rfl, rfl⟩
      clear hlf1
      obtain ⟨h, hw, hl, hs, hk, hbes, hfk, hks, hdesc, hkw⟩ := HH.out
      have hO2 := h.below hb
      have hO2d : Own (n + 1) w2.drew t := hO2.below (Below.refl _ _).drew
      obtain ⟨B, d, ek2, hd1, hd2, c1, ck, -⟩ := hO2.1.1.kidv hk
      rw [HM.out] at c1 hd1
      have hrec := IH.out k (ek, ei) w2.drew (own_kid hO2d hk) hkw.1 (by omega) hks
      rw [HP.out] at hrec
      have hdis : tc n t.b k = 0 ∧ tc n B k = 0 ∧ tc n w.heap.size k = 0 := by
        have tot : ∀ a, sc a t + tc n a k ≤ 1 := fun a => by
          have h1 := h.2 a
          have h2 := le_sum (tc n a) (List.mem_of_getElem? hk)
          have h3 : tc (n + 1) a t = sc a t + (t.kids.map (tc n a)).sum := rfl
          omega
        refine ⟨by have := tot t.b; have := sc_b t; omega, ?_, ?_⟩
        · have h1 := tot B
          have h2 : vc B t.k = 1 := vc_of (by rw [ek2]; rfl)
          have h3 : vc B t.k ≤ sc B t := by unfold sc; omega
          omega
        · refine Classical.byContradiction fun hc => ?_
          have := (h.1.2.2 k (List.mem_of_getElem? hk)).lt hc
          omega
      have hbs : t.b < w2.heap.size ∧ B < w2.heap.size ∧ w.heap.size < w2.heap.size := ⟨lt_of_cell c1, lt_of_cell ck, lt_of_cell m0⟩
      have P0 := fun (w' : World) (h : w'.heap[t.b]? = w2.heap[t.b]? ∧ w'.heap[B]? = w2.heap[B]? ∧ w'.heap[w.heap.size]? = w2.heap[w.heap.size]?) => (World.cell?_of_block (a := ⟨t.b, 1, none⟩) h.1).trans c1
      have P1 := fun (w' : World) (h : w'.heap[t.b]? = w2.heap[t.b]? ∧ w'.heap[B]? = w2.heap[B]? ∧ w'.heap[w.heap.size]? = w2.heap[w.heap.size]?) => (World.cell?_of_block (a := ⟨B, q, none⟩) h.2.1).trans ck
      have P2 := fun (w' : World) (h : w'.heap[t.b]? = w2.heap[t.b]? ∧ w'.heap[B]? = w2.heap[B]? ∧ w'.heap[w.heap.size]? = w2.heap[w.heap.size]?) => (World.cell?_of_block (a := ⟨w.heap.size, 0, none⟩) h.2.2).trans m0
      have P3 := fun (w' : World) (h : w'.heap[t.b]? = w2.heap[t.b]? ∧ w'.heap[B]? = w2.heap[B]? ∧ w'.heap[w.heap.size]? = w2.heap[w.heap.size]?) => (World.cell?_of_block (a := ⟨w.heap.size, 1, none⟩) h.2.2).trans m1
      have G1 := (show Hid _ from And.intro hO2d hdis)
      clear h hw hs hk hbes hfk hks hdesc hkw hO2 hO2d m0 m1 c1 ck hdis ek2
      have h0 : (fun w' : World => w'.heap[t.b]? = w2.heap[t.b]? ∧ w'.heap[B]? = w2.heap[B]? ∧ w'.heap[w.heap.size]? = w2.heap[w.heap.size]?) w2.drew := ⟨rfl, rfl, rfl⟩
      go_wp2_with fail
      refine wp_region_held (S := fun w' => w'.heap[t.b]? = w2.heap[t.b]? ∧ w'.heap[B]? = w2.heap[B]? ∧ w'.heap[w.heap.size]? = w2.heap[w.heap.size]?) mixed ?_
      refine wpAnyH_take (i := 0) (oi := ⟨_, _, _, _, _, _⟩) (v := ?v1) rfl (by kernel_rfl) (by kernel_rfl) (by kernel_rfl) (fun _ _ _ h => h) (Or.inl ⟨by rfl, ?hy1⟩) h0 ?rest1
      case hy1 => (intro w hSw; (try dsimp only at hSw); go_simp; try with_reducible rfl)
      simp only [Act.put, List.setIfInBounds_toArray, List.set_cons_zero, List.set_cons_succ]
      refine wpAnyH_take (i := 1) (oi := ⟨_, _, _, _, _, _⟩) (v := ?v2) rfl (by kernel_rfl) (by kernel_rfl) (by kernel_rfl) (fun _ _ _ h => h) (Or.inl ⟨by rfl, ?hy2⟩) h0 ?rest2
      case hy2 => (intro w hSw; (try dsimp only at hSw); go_simp; try with_reducible rfl)
      simp only [Act.put, List.setIfInBounds_toArray, List.set_cons_zero, List.set_cons_succ]
      refine wpAnyH_take (i := 2) (oi := ⟨_, _, _, _, _, _⟩) (v := ?v3) rfl (by kernel_rfl) (by kernel_rfl) (by kernel_rfl) (fun _ _ _ h => h) (Or.inl ⟨by rfl, ?hy3⟩) h0 ?rest3
      case hy3 => (intro w hSw; (try dsimp only at hSw); go_simp; try with_reducible rfl)
      simp only [Act.put, List.setIfInBounds_toArray, List.set_cons_zero, List.set_cons_succ]
      refine wpAnyH_take (i := 3) (oi := ⟨_, _, _, _, _, _⟩) (v := ?v4) rfl (by kernel_rfl) (by kernel_rfl) (by kernel_rfl) (fun _ _ _ h => h) (Or.inl ⟨by rfl, ?hy4⟩) h0 ?rest4
      case hy4 => (intro w hSw; (try dsimp only at hSw); go_simp; try with_reducible rfl)
      simp only [Act.put, List.setIfInBounds_toArray, List.set_cons_zero, List.set_cons_succ]
      refine wpAnyH_take (i := 4) (oi := ⟨_, _, _, _, _, _⟩) (v := ?v5) rfl (by kernel_rfl) (by kernel_rfl) (by kernel_rfl) (fun _ _ _ h => h) (Or.inl ⟨by rfl, ?hy5⟩) h0 ?rest5
      case hy5 => (intro w hSw; (try dsimp only at hSw); go_simp; try with_reducible rfl)
      simp only [Act.put, List.setIfInBounds_toArray, List.set_cons_zero, List.set_cons_succ]
      refine wpAnyH_take (i := 5) (oi := ⟨_, _, _, _, _, _⟩) (v := ?v6) rfl (by kernel_rfl) (by kernel_rfl) (by kernel_rfl) (fun _ _ _ h => h) (Or.inl ⟨by rfl, ?hy6⟩) h0 ?rest6
      case hy6 => (intro w hSw; (try dsimp only at hSw); go_simp; try with_reducible rfl)
      simp only [Act.put, List.setIfInBounds_toArray, List.set_cons_zero, List.set_cons_succ]
      refine wpAnyH_take (i := 6) (oi := ⟨_, _, _, _, _, _⟩) (v := ?v7) rfl (by kernel_rfl) (by kernel_rfl) (by kernel_rfl) (fun _ _ _ h => h) (Or.inl ⟨by rfl, ?hy7⟩) h0 ?rest7
      case hy7 => (intro w hSw; (try dsimp only at hSw); go_simp; try with_reducible rfl)
      simp only [Act.put, List.setIfInBounds_toArray, List.set_cons_zero, List.set_cons_succ]
      refine wpAnyH_take (i := 7) (oi := ⟨_, _, _, _, _, _⟩) (v := ?v8) rfl (by kernel_rfl) (by kernel_rfl) (by kernel_rfl) (fun _ _ _ h => h) (Or.inl ⟨by rfl, ?hy8⟩) h0 ?rest8
      case hy8 => (intro w hSw; (try dsimp only at hSw); go_simp; try with_reducible rfl)
      simp only [Act.put, List.setIfInBounds_toArray, List.set_cons_zero, List.set_cons_succ]
      refine wpAnyH_ready (rs := [8]) (by kernel_rfl) (by simp) ?_
      refine AllReadyH.cons (o := ⟨_, _, _, _, _, _⟩) rfl (fun K hK => ?_) AllReadyH.nil
      go_simp
      refine hrec.mono ?_
      rintro e w3 ⟨rfl, hv⟩
      obtain ⟨hO2d, hd1', hd2', hd3'⟩ := G1.out
      have h3 : w3.heap[t.b]? = w2.heap[t.b]? ∧ w3.heap[B]? = w2.heap[B]? ∧ w3.heap[w.heap.size]? = w2.heap[w.heap.size]? := by
        obtain ⟨k', hE, -⟩ := hv
        exact ⟨hE.chg.block _ hbs.1 hd1', hE.chg.block _ hbs.2.1 hd2', hE.chg.block _ hbs.2.2 hd3'⟩
      have G2 := (show Hid _ from hv)
      clear hv hO2d hd1' hd2' hd3' hrec
      refine hK.out _ _ h3 (fun hHeld => ?_)
      clear hK K hHeld
      try simp only [Act.put, List.setIfInBounds_toArray, List.set_cons_zero, List.set_cons_succ]
      refine wpAnyH_take (i := 9) (oi := ⟨_, _, _, _, _, _⟩) (v := ?v9) rfl (by kernel_rfl) (by kernel_rfl) (by kernel_rfl) (fun _ _ _ h => h) (Or.inl ⟨by rfl, ?hy9⟩) h3 ?rest9
      case hy9 => (intro w hSw; (try dsimp only at hSw); go_simp; try with_reducible rfl)
      simp only [Act.put, List.setIfInBounds_toArray, List.set_cons_zero, List.set_cons_succ]
      refine wpAnyH_done (by kernel_rfl) ?_ _
      clear P0 P1 P2 P3 h0 h3
      obtain ⟨h, hw, hl, hs, hk, hbes, hfk, hks, hdesc, hkw⟩ := HH.out
      obtain ⟨k', hEk, hkw', hkf, hk1, hk2, hk3⟩ := G2.out
      obtain ⟨hO2d, -⟩ := G1.out
      have hE1 := evo_kid hO2d hk hEk
      have hE0 := Evo.later h (hb.trans ((Below.refl _ _).drew)) hE1
      have hilt := (List.getElem?_eq_some_iff.1 hk).1
      cases p with
      | false =>
        obtain ⟨t1, ht1⟩ : ∃ t1 : Nd, t1 = { t with kids := t.kids.set q k' } := ⟨_, rfl⟩
        rw [← ht1] at hE0 hE1
        have hx1 : WfX n t1 (fun j => j = q) := by rw [ht1]; exact set_wfX hw hilt hkw'
        have hget : t1.kids[q]? = some k' := by rw [ht1]; exact set_get hilt
        have h1b : t1.b = t.b := by rw [ht1]
        have h1e : t1.es = t.es := by rw [ht1]
        have hsp := splitN_any hE1.own hx1 hget (by omega) (by rw [h1e]; exact hl)
        rw [h1b, h1e] at hsp
        have hfl : flatN (n + 1) t1 = insE (ek, ei) (flatN (n + 1) t) := by
          rw [ht1, set_flat hw.1 hk, hkf, hfk, ins_mid (by rw [← hfk]; exact hs) hbes.1 hbes.2]
        have G3 := (show Hid _ from And.intro hE0 hfl)
        clear h hw hs hk hbes hfk hks hdesc hkw hEk hkw' hkf hk1 hk2 hk3 hO2d hE1 hE0 hilt ht1 hx1 hget h1b h1e hfl
        go_wp2_with fail
        refine hsp.mono ?_
        rintro e w5 ⟨rfl, hag⟩
        have G4 := (show Hid _ from hag)
        clear hag hsp
        go_wp2
        go_ret
        obtain ⟨t2, a1, a2, a3, a4, a5⟩ := G4.out
        obtain ⟨hE0, hfl⟩ := G3.out
        obtain ⟨h, hw, hl, hs, hk, hbes, hfk, hks, hdesc, hkw⟩ := HH.out
        exact ⟨rfl, t2, hE0.trans a1, a2, a3.trans hfl, a4, a5, fun hc => by rw [hdesc, HP.out] at hc; cases hc⟩
      | true =>
        have hkk := hk3 HP.out
        rw [hkk, set_same hk] at hE0
        have hfin : AddV (n + 1) w t (ek, ei) w3 := ⟨t, hE0, hw, (ins_there hs (hasE_iff.1 (hdesc.trans HP.out))).symm, Nat.le_refl _, Nat.le_succ _, fun _ => rfl⟩
        clear h hw hs hk hbes hfk hks hdesc hkw hEk hkw' hkf hk1 hk2 hk3 hO2d hE1 hE0 hilt hkk
        go_wp2
        go_ret
        exact ⟨rfl, hfin⟩
end Go.Proofs.Ytoaekmighinmhaa

namespace Go.Proofs.Ytoaekmighinmhaa
open Go.RowKit

/-- a tree: its topmost node, how many entries there are. -/
structure Tr (W : World) (T n : Nat) (t : Nd) : Prop where
  cell : W.heap[T]? = some (.cells #[.pointer (some ⟨t.b, 0, none⟩), .int .i64 (flatN n t).length] 64 (0, 0))
  own : Own n W t
  top : TopN n t
  sort : SortE (flatN n t)
  apart : tc n T t = 0
/-- a tree of these entries, in blocks of which F says that they are its own. -/
def TrF (F : Nat → Prop) (W : World) (T : Nat) (l : List En) : Prop := ∃ n t, Tr W T n t ∧ flatN n t = l ∧ F T ∧ ∀ a, tc n a t ≠ 0 → F a
/-- all but those blocks is as it was. -/
structure Far (F : Nat → Prop) (w w' : World) : Prop where
  os : w'.os = w.os
  tape : w'.tape = w.tape
  output : w'.output = w.output
  size : w.heap.size ≤ w'.heap.size
  block : ∀ a, a < w.heap.size → ¬ F a → w'.heap[a]? = w.heap[a]?
section
variable {F G : Nat → Prop} {W W' : World} {T : Nat} {l : List En}
theorem Tr.keep {n : Nat} {t : Nd} (h : Tr W T n t) (hk : ∀ a, a = T ∨ tc n a t ≠ 0 → W'.heap[a]? = W.heap[a]?) : Tr W' T n t :=
  ⟨(hk T (.inl rfl)).trans h.cell, ⟨h.own.1.keep fun a ha => hk a (.inr ha), h.own.2⟩, h.top, h.sort, h.apart⟩
theorem Tr.below {n : Nat} {t : Nd} (h : Tr W T n t) (hb : Below W.heap.size W W') : Tr W' T n t := h.keep fun a ha => hb.block a (by
  rcases ha with rfl | ha
  · exact lt_of_heap h.cell
  · exact h.own.1.lt ha)
theorem TrF.far (h : TrF F W T l) (hf : Far G W W') (hd : ∀ a, F a → ¬ G a) : TrF F W' T l := by
  obtain ⟨n, t, h1, h2, h3, h4⟩ := h
  refine ⟨n, t, h1.keep fun a ha => ?_, h2, h3, h4⟩
  rcases ha with rfl | ha
  · exact hf.block a (lt_of_heap h1.cell) (hd a h3)
  · exact hf.block a (h1.own.1.lt ha) (hd a (h4 a ha))
theorem TrF.below (h : TrF F W T l) (hb : Below W.heap.size W W') : TrF F W' T l := by
  obtain ⟨n, t, h1, h2, h3, h4⟩ := h
  exact ⟨n, t, h1.below hb, h2, h3, h4⟩
/-- all that a tree owns is there. -/
theorem TrF.tight (h : TrF F W T l) : TrF (fun a => F a ∧ a < W.heap.size) W T l := by
  obtain ⟨n, t, h1, h2, h3, h4⟩ := h
  exact ⟨n, t, h1, h2, ⟨h3, lt_of_heap h1.cell⟩, fun a ha => ⟨h4 a ha, h1.own.1.lt ha⟩⟩
theorem TrF.mono (h : TrF F W T l) (hg : ∀ a, F a → G a) : TrF G W T l := by
  obtain ⟨n, t, h1, h2, h3, h4⟩ := h
  exact ⟨n, t, h1, h2, hg T h3, fun a ha => hg a (h4 a ha)⟩
theorem TrF.sort (h : TrF F W T l) : SortE l := by
  obtain ⟨n, t, h1, h2, -⟩ := h
  rw [← h2]; exact h1.sort
theorem TrF.lt (h : TrF F W T l) : T < W.heap.size := by
  obtain ⟨n, t, h1, -⟩ := h
  exact lt_of_heap h1.cell
theorem Far.below {B : Nat} (h : Far F W W') (hB : B ≤ W.heap.size) (hF : ∀ a, F a → B ≤ a) : Below B W W' :=
  ⟨h.os, h.tape, h.output, h.size, fun a ha => h.block a (by omega) fun hc => by have := hF a hc; omega⟩

theorem New_any (w : World) : Calls Try.prog 24 #[] w fun e w' => ∃ T, e = .returned (.pointer (some ⟨T, 0, none⟩)) ∧ TrF (fun a => w.heap.size ≤ a) w' T [] ∧ Below w.heap.size w w' := by
  obtain ⟨W1, hW1⟩ : ∃ W1, w.alloc (.cells #[.slice none 0 0, .slice none 0 0] 69) = W1 := ⟨_, rfl⟩
  obtain ⟨W2, hW2⟩ : ∃ W2, W1.alloc (.cells #[.pointer (some ⟨w.heap.size, 0, none⟩), .int .i64 0] 64) = W2 := ⟨_, rfl⟩
  have hs1 : W1.heap.size = w.heap.size + 1 := by rw [← hW1]; simp
  have hb1 : Below w.heap.size w W1 := by rw [← hW1]; exact (Below.refl _ _).alloc (Nat.le_refl _) _
  have hb2 : Below W1.heap.size W1 W2 := by rw [← hW2]; exact (Below.refl _ _).alloc (Nat.le_refl _) _
  have hb : Below w.heap.size w W2 := hb1.trans (hb2.mono hb1.size)
  have hn : Sh W1 ⟨w.heap.size, .slice none 0 0, .slice none 0 0, [], []⟩ := by rw [← hW1]; exact new_node (World.ownsRow_nil _ _ _ _)
  have hsc : ∀ a, tc 0 a ⟨w.heap.size, .slice none 0 0, .slice none 0 0, [], []⟩ = if a = w.heap.size then 1 else 0 := fun a => by
    show sc a _ = _
    unfold sc
    rw [vc_nil]
    rfl
  have hT : W2.heap[W1.heap.size]? = some (.cells #[.pointer (some ⟨w.heap.size, 0, none⟩), .int .i64 0] 64 (0, 0)) := by rw [← hW2]; exact heap_alloc_new _ _
  have hfin : TrF (fun a => w.heap.size ≤ a) W2 W1.heap.size [] := by
    refine ⟨0, ⟨w.heap.size, .slice none 0 0, .slice none 0 0, [], []⟩, ⟨hT, ⟨⟨hn.below hb2, rfl⟩, fun a => ?_⟩, ⟨rfl, by simp, .inl rfl⟩, List.Pairwise.nil, ?_⟩, rfl, hb1.size, fun a ha => ?_⟩
    · rw [hsc]; split <;> omega
    · rw [hsc, if_neg (by omega)]
    · rw [hsc] at ha
      split at ha
      · omega
      · exact absurd rfl ha
  clear hs1 hb1 hb2 hn hsc hT
  go_enter Try.func24, Try.ntmps24
  go_wp2
  go_ret
  exact ⟨_, rfl, hfin, hb⟩
theorem Tr.view {n : Nat} {t : Nd} (h : Tr W T n t) : W.cell? ⟨T, 0, none⟩ = some (.pointer (some ⟨t.b, 0, none⟩)) ∧ W.cell? ⟨T, 1, none⟩ = some (.int .i64 (flatN n t).length) ∧ (∀ j, W.frozen? ⟨T, j, none⟩ = false) ∧ T < W.heap.size :=
  ⟨by simp [World.cell?, h.cell], by simp [World.cell?, h.cell], fun j => by simp [World.frozen?, h.cell], lt_of_heap h.cell⟩
set_option maxRecDepth 100000 in
theorem HasT_any (e : En) (w : World) (h : TrF F w T l) : Calls Try.prog 58 #[.pointer (some ⟨T, 0, none⟩), .agg #[.string e.1, .int .i64 e.2]] w fun r w' => r = .returned (.bool (hasE e l)) ∧ Below w.heap.size w w' := by
  obtain ⟨n, t, h1, rfl, -⟩ := h
  obtain ⟨ek, ei⟩ := e
  obtain ⟨W0, hW0, hwW, hs0, k0, k1⟩ := box_any w ek ei
  have h2 := h1.below hwW
  obtain ⟨c0, -, -, -⟩ := h2.view
  have hhas := fun (d : Nat) (os : Array Obj) => Calls.regrown_of (has_any n t (ek, ei) (Go.Sort.grow (redrawn W0 d) os) (h2.own.1.below (below_regrown _ d os)) h2.top.1 h2.top.2.1 h2.sort)
  have G0 := cell_regrown c0
  have G1 := cell_regrown k0
  have G2 := cell_regrown k1
  generalize hasE (ek, ei) (flatN n t) = p at *
  clear h1 h2 c0 k0 k1
  go_enter Try.func58, Try.ntmps58
  go_wp2_with fail
  refine wp_region_quiet_below mixed (by kernel_rfl) ?_
  iterate 5 go_big_quiet_step (fail)
  go_big_quiet_step (exact hhas _ _)
  go_big_quiet_step (fail)
  refine wpQuiet_nil ?_
  rintro w' ⟨⟨dq, osq⟩, hw'⟩
  have hb' : Below W0.heap.size W0 w' := by rw [hw']; exact below_regrown _ dq osq
  clear hw' G0 G1 G2 hhas hW0
  go_wp2
  go_ret
  exact ⟨rfl, hwW.trans (hb'.mono hwW.size)⟩
end
end Go.Proofs.Ytoaekmighinmhaa
