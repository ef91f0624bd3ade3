/-
  split by its contract: a node that is no leaf. Conditions: as stated.
  turnRight by its contract: two leaves. Conditions: as stated.
-/
import Derived.Test.YtoaekmighinmhaaU11
namespace Go.Proofs.Ytoaekmighinmhaa
open Go.RowKit

set_option maxRecDepth 100000 in
set_option maxHeartbeats 8000000 in
theorem split_deep (t c : Nd) (i : Nat) (w : World) (hS : St w [t, c]) (hc : t.kids[i]? = some c) (h5 : c.es.length = 5) (hk : c.kids.length = 6) (hi : i ≤ t.es.length) (hn : t.es.length ≤ 1000) (hn2 : t.kids.length ≤ 1000) :
    Calls Try.prog 35 #[.pointer (some ⟨t.b, 0, none⟩), .int .i64 i] w fun e w' => e = .returned (.tuple #[]) ∧ SplitV w t c i w' := by
  have ht0 := hS.sh t (by simp)
  have hc0 := hS.sh c (by simp)
  have h1t := hS.sc_one (t := t) (by simp)
  have h1c := hS.sc_one (t := c) (by simp)
  obtain ⟨B, d, -, hd1, hd2, c1, ck, -⟩ := ht0.kidv hc
  obtain ⟨la, lc, -, -, -, -, l0, -, -⟩ := hc0.view
  rw [h5] at l0
  have hik := (List.getElem?_eq_some_iff.1 hc).1
  obtain ⟨m, hm⟩ : ∃ m, c.es[2]? = some m := ⟨_, List.getElem?_eq_getElem (by omega)⟩
  have hcut := cut_anyE c w hc0 h1c h5
  have zi : (i : Int) < (t.kids.length : Int) := by omega
  obtain ⟨kl, hkl⟩ : ∃ kl, t.kids.length = kl := ⟨_, rfl⟩
  obtain ⟨el, hel⟩ : ∃ el, t.es.length = el := ⟨_, rfl⟩
  have HZ : Hid (wrap64 ((i : Int) + 1) = (i : Int) + 1) := by unfold Hid wrap64; omega
  rw [hkl] at c1 hd1 zi
  have HH := (show Hid _ from And.intro hS (And.intro hc (And.intro h5 (And.intro hk (And.intro hi (And.intro hn (And.intro hn2 (And.intro hkl (And.intro hel (And.intro hik hm))))))))))
  clear hS ht0 hc0 hc h5 hk hi hn hn2 hkl hel hik hm h1t h1c
  go_enter Try.func35, Try.ntmps35
  go_wp2_with fail
  refine hcut.mono ?_
  rintro e w1 ⟨s1, g, cap, rfl, hE1, ho1, hr1, hg1, hg2⟩
  obtain ⟨hS, hc, h5, hk, hi, hn, hn2, hkl, hel, hik, hm⟩ := HH.out
  have hP1 : Stp w [t, c] w1 [t, { c with s := s1, es := c.es.take 3 }] := St.at (A := [t]) (D := []) hS hE1
  obtain ⟨Wb, hWb⟩ : ∃ Wb, w1.alloc (.cells #[.slice (some ⟨g, 0, none⟩) 2 cap, .slice none 0 0] 69) = Wb := ⟨_, rfl⟩
  have hb1 : Below w1.heap.size w1 Wb := by rw [← hWb]; exact (Below.refl _ _).alloc (Nat.le_refl _) _
  have hsb : Wb.heap.size = w1.heap.size + 1 := by rw [← hWb]; simp
  have hd3 : (c.es.drop 3).length = 2 := by rw [List.length_drop]; omega
  have hsz1 := hE1.chg.size
  obtain ⟨R0, hR0⟩ : ∃ R0 : Nd, R0 = ⟨w1.heap.size, .slice (some ⟨g, 0, none⟩) 2 cap, .slice none 0 0, c.es.drop 3, []⟩ := ⟨_, rfl⟩
  have hRs : Sh Wb R0 := by rw [← hWb, hR0]; exact new_node (by rw [hd3]; exact hr1)
  have hRc : ∀ a, sc a R0 = (if a = w1.heap.size then 1 else 0) + (if a = g then 1 else 0) := fun a => by
    rw [hR0]; unfold sc; rw [vc_at, vc_nil]; rfl
  have hold : ∀ a, w.heap.size ≤ a → sc a t = 0 ∧ sc a c = 0 := fun a ha => by
    have h0 : ss a [t, c] = 0 := Classical.byContradiction fun hne => by have := hS.lt hne; omega
    rw [ss_two] at h0
    omega
  have hP2 : Stp w [t, c] Wb [t, { c with s := s1, es := c.es.take 3 }, R0] := hP1.new (fun a ha => by
      rw [ss_two, sc_putS ho1]; have := hold a ha; omega) hRs hb1 (fun a ha => by
      rw [hRc] at ha
      by_cases e1 : a = w1.heap.size
      · omega
      · by_cases e2 : a = g
        · omega
        · rw [if_neg e1, if_neg e2] at ha; exact absurd rfl ha) (fun a => by
      rw [hRc]
      by_cases e1 : a = w1.heap.size
      · rw [if_pos e1, if_neg (by omega)]; omega
      · rw [if_neg e1]; split <;> omega)
  obtain ⟨cE, hcE⟩ : ∃ cE : Nd, cE = { c with s := s1, es := c.es.take 3 } := ⟨_, rfl⟩
  rw [← hcE] at hP2
  have hkids : cE.kids = c.kids := by rw [hcE]
  have hcb : cE.b = c.b := by rw [hcE]
  have hces : cE.es = c.es.take 3 := by rw [hcE]
  have hscE : ∀ a, sc a cE = sc a c := fun a => by rw [hcE]; exact sc_putS ho1
  have hRb : R0.b = w1.heap.size := by rw [hR0]
  have hlf := leaf_any Wb (hP2.st.sh cE (by simp))
  rw [hcb] at hlf
  have G1 := (show Hid _ from And.intro hP2 (And.intro hkids (And.intro hcb (And.intro hces (And.intro hscE (And.intro hRb (And.intro hRc (And.intro hsb (And.intro hold (And.intro hcE (And.intro hR0 (And.intro hg1 (And.intro hg2 hsz1)))))))))))))
  rw [hkids, HH.out.2.2.2.1] at hlf
  clear hS hc h5 hk hi hn hn2 hkl hel hik hm hP1 hb1 hsb hsz1 hRs hRc hold hP2 hkids hcb hces hscE hRb hcE hR0 hE1 ho1 hr1 hg1 hg2 hd3 l0 c1 ck hcut
  go_wp2_with fail
  refine hlf.mono ?_
  rintro e w2 ⟨rfl, rfl⟩
  clear hlf
  go_wp2_with fail
  obtain ⟨hP2, hkids, hcb, hces, hscE, hRb, hRc, hsb, hold, hcE, hR0, hg1, hg2, hsz1⟩ := G1.out
  have hk6 : cE.kids.length = 6 := by rw [hkids]; exact HH.out.2.2.2.1
  have hcutP := cut_anyP cE w2 (hP2.st.sh cE (by simp)) (hP2.st.sc_one (by simp)) hk6
  rw [hcb] at hcutP
  refine hcutP.mono ?_
  rintro e w3 ⟨k3, g2, cap2, rfl, hE3, ho3, hr3, hg3, hg4⟩
  obtain ⟨c3, hc3⟩ : ∃ c3 : Nd, c3 = { b := c.b, s := cE.s, k := k3, es := cE.es, kids := cE.kids.take 3 } := ⟨_, rfl⟩
  rw [← hc3] at hE3
  have hP3 : Stp w [t, c] w3 [t, c3, R0] := hP2.trans (St.at (A := [t]) (D := [R0]) hP2.st hE3)
  obtain ⟨W5, hW5⟩ : ∃ W5, w3.setCell ⟨w1.heap.size, 1, none⟩ (.slice (some ⟨g2, 0, none⟩) 3 cap2) = W5 := ⟨_, rfl⟩
  obtain ⟨R1, hR1⟩ : ∃ R1 : Nd, R1 = { R0 with k := .slice (some ⟨g2, 0, none⟩) 3 cap2, kids := c.kids.drop 3 } := ⟨_, rfl⟩
  have hsc3 : ∀ a, sc a c3 = sc a c := fun a => by
    rw [← hscE a, hc3, ← hcb]; exact sc_putK ho3
  have hR1c : ∀ a, sc a R1 = (if a = w1.heap.size then 1 else 0) + (if a = g then 1 else 0) + (if a = g2 then 1 else 0) := fun a => by
    rw [hR1, hR0]; unfold sc; rw [vc_at, vc_at]
  have hd6 : (c.kids.drop 3).length = 3 := by rw [List.length_drop]; have := HH.out.2.2.2.1; omega
  have hRs := hP3.st.sh R0 (by simp)
  have hRn := hRs.node
  rw [hRb, hR0] at hRn
  have hRs1 : Sh W5 R1 := by
    rw [← hW5, hR1, ← hRb]
    refine put_below hRs (hP3.st.sc_one (by simp)) (by rw [hd6]; rw [hkids] at hr3; exact hr3) (fun hc => by rw [hc] at hd6; cases hd6) ?_
    rw [vc_at, hRb, if_neg (by omega)]
  have hP5 : Stp w [t, c] W5 [t, c3, R1] := Stp.turn (A := [t, c3]) (D := []) hP3 (fun a ha _ => by
      show ss a [t, c3] = 0
      rw [ss_two, hsc3]; have := hold a ha; omega) hRs1 (by rw [← hW5, ← hRb]; exact chg_setCell (by have := sc_b R0; show sc R0.b R0 ≠ 0; omega)) (fun a ha => by
      rw [hR1c, hRc, if_neg (show ¬ a = g2 by omega)]; omega) (fun a => by
      rw [hR1c]
      by_cases e1 : a = w1.heap.size
      · rw [if_pos e1, if_neg (by omega), if_neg (by omega)]; omega
      · rw [if_neg e1]
        by_cases e2 : a = g
        · rw [if_pos e2, if_neg (by omega)]; omega
        · rw [if_neg e2]; split <;> omega)
  have d1 : w3.cell? ⟨w1.heap.size, 1, none⟩ = some (.slice none 0 0) := by simp [World.cell?, hRn]
  have df : ∀ j, w3.frozen? ⟨w1.heap.size, j, none⟩ = false := fun j => by simp [World.frozen?, hRn]
  have G5 := (show Hid _ from And.intro hP5 (And.intro hc3 hR1))
  have hR1b : R1.b = w1.heap.size := by rw [hR1]; exact hRb
  have GB := (show Hid _ from hR1b)
  clear hP2 hkids hcb hces hscE hRb hRc hsb hold hcE hR0 hg1 hg2 hsz1 hk6 hcutP hE3 ho3 hr3 hg3 hg4 hc3 hP3 hR1 hsc3 hR1c hd6 hRs hRn hRs1 hP5 hR1b
  go_wp2_with fail
  obtain ⟨hS, hc, h5, hk, hi, hn, hn2, hkl, hel, hik, hm⟩ := HH.out
  obtain ⟨hP2, hc3, hR1⟩ := G5.out
  have hcb : c3.b = c.b := by rw [hc3]
  have hces : c3.es = c.es.take 3 := by rw [hc3]; exact G1.out.2.2.2.1
  have hP2d : Stp w [t, c] W5.drew [t, c3, R1] := hP2.trans (Stp.below hP2.st (Below.refl _ _).drew)
  obtain ⟨sa, sc0, ka, kd, es0, ek0, t0, t1, tf⟩ := (hP2.st.sh t (by simp)).view
  rw [hel] at es0 t0
  have htb : t.b < W5.heap.size := lt_of_cell t0
  have htake := takeE_any c3 2 m W5.drew (hP2d.st.sh _ (by simp)) (hP2d.st.sc_one (by simp)) (by rw [hces]; rw [List.getElem?_take, if_pos (by omega)]; exact hm) (by rw [hces, List.length_take]; omega)
  obtain ⟨mk, mi⟩ := m
  rw [hcb] at htake
  have P0 := fun (w' : World) (h : w'.heap[t.b]? = W5.heap[t.b]?) => (World.cell?_of_block (a := ⟨t.b, 0, none⟩) h).trans t0
  have htc : sc t.b c3 = 0 := by have h2 := hP2.st.one t.b; rw [ss_three] at h2; have := sc_b t; omega
  have G2 := (show Hid _ from And.intro hP2d (And.intro es0 (And.intro hcb (And.intro hces htc))))
  have hbc : t.b ≠ c.b := fun e => by have := sc_b c3; rw [hcb, ← e] at this; omega
  clear hS hc h5 hk hi hn hn2 hkl hik hm hP2 hP2d es0 ek0 t0 t1 hcb hces htc hc3 hR1
  have h0 : (fun w' : World => w'.heap[t.b]? = W5.heap[t.b]?) W5.drew := rfl
  refine wp_region_snoc_held2 (S := fun w' => w'.heap[t.b]? = W5.heap[t.b]?) (head := #[_, _, _, _, _, _, _, _, _, _, _, _, _, _]) (last := ⟨_, _, _, _, _, _⟩) mixed (by kernel_rfl) rfl ?_
  refine wpAnyH_take (i := 0) (oi := ⟨_, _, _, _, _, _⟩) (v := ?v1) rfl (by kernel_rfl) (by kernel_rfl) (by kernel_rfl) (fun _ _ _ h => h) (Or.inl ⟨by rfl, ?hy1⟩) h0 ?rest1
  case hy1 => (intro w hSw; (try dsimp only at hSw); go_simp; try with_reducible rfl)
  simp only [Act.put, List.setIfInBounds_toArray, List.set_cons_zero, List.set_cons_succ]
  refine wpAnyH_take (i := 1) (oi := ⟨_, _, _, _, _, _⟩) (v := ?v2) rfl (by kernel_rfl) (by kernel_rfl) (by kernel_rfl) (fun _ _ _ h => h) (Or.inl ⟨by rfl, ?hy2⟩) h0 ?rest2
  case hy2 => (intro w hSw; (try dsimp only at hSw); go_simp; try with_reducible rfl)
  simp only [Act.put, List.setIfInBounds_toArray, List.set_cons_zero, List.set_cons_succ]
  refine wpAnyH_take (i := 2) (oi := ⟨_, _, _, _, _, _⟩) (v := ?v3) rfl (by kernel_rfl) (by kernel_rfl) (by kernel_rfl) (fun _ _ _ h => h) (Or.inl ⟨by rfl, ?hy3⟩) h0 ?rest3
  case hy3 => (intro w hSw; (try dsimp only at hSw); go_simp; try with_reducible rfl)
  simp only [Act.put, List.setIfInBounds_toArray, List.set_cons_zero, List.set_cons_succ]
  refine wpAnyH_take (i := 3) (oi := ⟨_, _, _, _, _, _⟩) (v := ?v4) rfl (by kernel_rfl) (by kernel_rfl) (by kernel_rfl) (fun _ _ _ h => h) (Or.inl ⟨by rfl, ?hy4⟩) h0 ?rest4
  case hy4 => (intro w hSw; (try dsimp only at hSw); go_simp; try with_reducible rfl)
  simp only [Act.put, List.setIfInBounds_toArray, List.set_cons_zero, List.set_cons_succ]
  refine wpAnyH_take (i := 4) (oi := ⟨_, _, _, _, _, _⟩) (v := ?v5) rfl (by kernel_rfl) (by kernel_rfl) (by kernel_rfl) (fun _ _ _ h => h) (Or.inl ⟨by rfl, ?hy5⟩) h0 ?rest5
  case hy5 => (intro w hSw; (try dsimp only at hSw); go_simp; try with_reducible rfl)
  simp only [Act.put, List.setIfInBounds_toArray, List.set_cons_zero, List.set_cons_succ]
  refine wpAnyH_take (i := 5) (oi := ⟨_, _, _, _, _, _⟩) (v := ?v6) rfl (by kernel_rfl) (by kernel_rfl) (by kernel_rfl) (fun _ _ _ h => h) (Or.inl ⟨by rfl, ?hy6⟩) h0 ?rest6
  case hy6 => (intro w hSw; (try dsimp only at hSw); go_simp; try with_reducible rfl)
  simp only [Act.put, List.setIfInBounds_toArray, List.set_cons_zero, List.set_cons_succ]
  refine wpAnyH_take (i := 6) (oi := ⟨_, _, _, _, _, _⟩) (v := ?v7) rfl (by kernel_rfl) (by kernel_rfl) (by kernel_rfl) (fun _ _ _ h => h) (Or.inl ⟨by rfl, ?hy7⟩) h0 ?rest7
  case hy7 => (intro w hSw; (try dsimp only at hSw); go_simp; try with_reducible rfl)
  simp only [Act.put, List.setIfInBounds_toArray, List.set_cons_zero, List.set_cons_succ]
  refine wpAnyH_take (i := 7) (oi := ⟨_, _, _, _, _, _⟩) (v := ?v8) rfl (by kernel_rfl) (by kernel_rfl) (by kernel_rfl) (fun _ _ _ h => h) (Or.inl ⟨by rfl, ?hy8⟩) h0 ?rest8
  case hy8 => (intro w hSw; (try dsimp only at hSw); go_simp; try with_reducible rfl)
  simp only [Act.put, List.setIfInBounds_toArray, List.set_cons_zero, List.set_cons_succ]
  refine wpAnyH_take (i := 8) (oi := ⟨_, _, _, _, _, _⟩) (v := ?v9) rfl (by kernel_rfl) (by kernel_rfl) (by kernel_rfl) (fun _ _ _ h => h) (Or.inl ⟨by rfl, ?hy9⟩) h0 ?rest9
  case hy9 => (intro w hSw; (try dsimp only at hSw); go_simp; try with_reducible rfl)
  simp only [Act.put, List.setIfInBounds_toArray, List.set_cons_zero, List.set_cons_succ]
  refine wpAnyH_ready (rs := [9]) (by kernel_rfl) (by simp) ?_
  refine AllReadyH.cons (o := ⟨_, _, _, _, _, _⟩) rfl (fun K hK => ?_) AllReadyH.nil
  go_simp
  refine htake.mono ?_
  rintro e w4 ⟨rfl, s4, hE4, ho4⟩
  obtain ⟨hP2d, es0, hcb, hces, htc⟩ := G2.out
  have h4 : w4.heap[t.b]? = W5.heap[t.b]? := hE4.chg.block t.b htb htc
  obtain ⟨c4, hc4⟩ : ∃ c4 : Nd, c4 = { b := c.b, s := s4, k := c3.k, es := c3.es.take 2 ++ c3.es.drop (2 + 1), kids := c3.kids } := ⟨_, rfl⟩
  rw [← hc4] at hE4
  have hP4 : Stp w [t, c] w4 [t, c4, R1] := hP2d.trans (St.at (A := [t]) (D := [R1]) hP2d.st hE4)
  have htb4 : t.b < w4.heap.size := Nat.lt_of_lt_of_le htb hE4.chg.size
  have G3 := (show Hid _ from And.intro hP4 hc4)
  clear hP2d hcb hces htc hE4 ho4 hc4 htake
  refine hK.out _ _ h4 (fun hHeld => ?_)
  clear hK K hHeld
  refine wpAnyH_ready (rs := [10]) (by kernel_rfl) (by simp) ?_
  refine AllReadyH.cons (o := ⟨_, _, _, _, _, _⟩) rfl (fun K hK => ?_) AllReadyH.nil
  go_simp
  have hb5 : Below w4.heap.size w4 (w4.alloc (.cells #[.string mk, .int .i64 mi] 34)) := (Below.refl _ _).alloc (Nat.le_refl _) _
  have h5 : (w4.alloc (.cells #[.string mk, .int .i64 mi] 34)).heap[t.b]? = W5.heap[t.b]? := (hb5.block t.b htb4).trans h4
  refine hK.out _ _ h5 (fun hHeld => ?_)
  clear hK K hHeld
  try simp only [Act.put, List.setIfInBounds_toArray, List.set_cons_zero, List.set_cons_succ]
  refine wpAnyH_ready (rs := [11]) (by kernel_rfl) (by simp) ?_
  refine AllReadyH.cons (o := ⟨_, _, _, _, _, _⟩) rfl (fun K hK => ?_) AllReadyH.nil
  go_simp
  have hins := insE_any (w := w4) (t := t) i w4.heap.size (mk, mi) (hP4.st.sh t (by simp)) (hP4.st.sc_one (by simp)) hb5 (Nat.le_refl _) (heap_alloc_new w4 _) HH.out.2.2.2.2.1 (by have := HH.out.2.2.2.2.2.1; omega)
  rw [es0, hel] at hins
  refine hins.mono ?_
  rintro e w6 ⟨a6, c6, rfl, hE6, hb6, hsz6⟩
  have h6 : w6.heap[t.b]? = W5.heap[t.b]? := hb6.trans h4
  clear hins hb5 h5
  refine hK.out _ _ h6 (fun hHeld => ?_)
  clear hK K hHeld
  try simp only [Act.put, List.setIfInBounds_toArray, List.set_cons_zero, List.set_cons_succ]
  refine wpAnyH_ready (rs := [12]) (by kernel_rfl) (by simp) ?_
  refine AllReadyH.cons (o := ⟨_, _, _, _, _, _⟩) rfl (fun K hK => ?_) AllReadyH.nil
  go_simp
  refine hK.out _ _ h6 (fun hHeld => ?_)
  clear hK K hHeld
  try simp only [Act.put, List.setIfInBounds_toArray, List.set_cons_zero, List.set_cons_succ]
  refine wpAnyH_ready (rs := [13]) (by kernel_rfl) (by simp) ?_
  refine AllReadyH.cons (o := ⟨_, _, _, _, _, _⟩) rfl (fun K hK => ?_) AllReadyH.nil
  go_simp
  refine hK.out _ _ h6 (fun hHeld => ?_)
  clear hK K hHeld
  try simp only [Act.put, List.setIfInBounds_toArray, List.set_cons_zero, List.set_cons_succ]
  refine wpAnyH_done (by kernel_rfl) ?_ _
  have e0 := P0 w6 h6
  have ez : ∀ j, w6.frozen? ⟨t.b, j, none⟩ = false := fun j => (World.frozen?_of_block (a := ⟨t.b, j, none⟩) h6).trans (tf j)
  clear P0 h0 h4 h6 hb6 es0
  show Oper.wp _ _ _ _ _ _
  go_simp
  obtain ⟨W7, hW7⟩ : ∃ W7, w6.setCell ⟨t.b, 0, none⟩ (.slice a6 (el + 1) c6) = W7 := ⟨_, rfl⟩
  rw [hW7] at hE6 ⊢
  clear hW7 e0 ez hP4
  obtain ⟨hP4, hc4⟩ := G3.out
  obtain ⟨t7, ht7⟩ : ∃ t7 : Nd, t7 = { t with s := .slice a6 (el + 1) c6, es := t.es.take i ++ (mk, mi) :: t.es.drop i } := ⟨_, rfl⟩
  rw [← ht7] at hE6
  have hP7 : Stp w [t, c] W7 [t7, c4, R1] := hP4.trans (St.at (A := []) (D := [c4, R1]) hP4.st hE6)
  obtain ⟨sa7, sc7, ka7, kd7, es7, ek7, u0, u1, uf⟩ := (hP7.st.sh t7 (by simp)).view
  have hk7 : t7.kids = t.kids := by rw [ht7]
  have hb7 : t7.b = t.b := by rw [ht7]
  have hkl := HH.out.2.2.2.2.2.2.2.1
  rw [hk7, hkl] at ek7 u1
  rw [hb7] at u1 uf
  have hins := fun W1 hb hr => insP_any (w := W7) (W1 := W1) (t := t7) (i + 1) W7.heap.size R1 (hP7.st.sh t7 (by simp)) (hP7.st.sc_one (by simp)) hb (Nat.le_refl _) hr (by rw [hk7]; have := HH.out.2.2.2.2.2.2.2.2.2.1; omega) (by rw [hk7]; have := HH.out.2.2.2.2.2.2.1; omega)
  rw [ek7, hk7, hkl, hb7, GB.out] at hins
  have hu7 := lt_of_cell u1
  have G4 := (show Hid _ from And.intro hP7 (And.intro ht7 (And.intro hc4 (And.intro hk7 hb7))))
  have zi2 := HZ.out
  clear hP4 hP7 ht7 hc4 hk7 hb7 hE6 es7 ek7 u0 htb4 hsz6 hkl
  go_wp2_with fail
  refine (hins _ ((Below.refl _ _).alloc (Nat.le_refl _) _) (heap_alloc_new W7 _)).mono ?_
  rintro e w9 ⟨a9, c9, rfl, hE9, hb9, hsz9⟩
  have e1 := (World.cell?_of_block (a := ⟨t.b, 1, none⟩) hb9).trans u1
  have ez : ∀ j, w9.frozen? ⟨t.b, j, none⟩ = false := fun j => (World.frozen?_of_block (a := ⟨t.b, j, none⟩) hb9).trans (uf j)
  clear hins zi2
  go_wp2
  obtain ⟨hP7, ht7, hc4, hk7, hb7⟩ := G4.out
  obtain ⟨hS, hc, h5, hk, hi, hn, hn2, hkl, hel, hik, hm⟩ := HH.out
  have hfin : SplitV w t c i (w9.setCell ⟨t.b, 1, none⟩ (.slice a9 (kl + 1) c9)) := by
    have hP9 := hP7.trans (St.at (A := []) (D := [c4, R1]) hP7.st hE9)
    obtain ⟨hP2, hc3, hR1⟩ := G5.out
    obtain ⟨-, hkids, hcb, hces, hscE, hRb, hRc, hsb, hold, hcE, hR0, hg1, hg2, hsz1⟩ := G1.out
    refine ⟨.slice a6 (el + 1) c6, .slice a9 (kl + 1) c9, s4, k3, R1, (mk, mi), hm, by rw [hR1, hR0], by rw [hR1], ?_⟩
    have e1 : c4 = { c with s := s4, k := k3, es := c.es.take 2, kids := c.kids.take 3 } := by
      rw [hc4, hc3]
      simp only
      rw [hces, hkids]
      congr 1
      rw [List.take_take, List.drop_of_length_le (by rw [List.length_take]; omega), List.append_nil]
      rfl
    rw [e1, ht7] at hP9
    exact hP9
  exact bodyPost_end (v := .tuple #[]) (by simp [results, Try.results35, go_sem]) rfl ⟨rfl, hfin⟩
end Go.Proofs.Ytoaekmighinmhaa

namespace Go.Proofs.Ytoaekmighinmhaa
open Go.RowKit

set_option maxRecDepth 100000 in
set_option maxHeartbeats 8000000 in
theorem turnRight_leaf (t l r : Nd) (i ln _lk : Nat) (w : World) (hS : St w [t, l, r]) (hl : t.kids[i]? = some l) (hr : t.kids[i + 1]? = some r) (hi : i < t.es.length) (hn : t.es.length ≤ 1000) (hn2 : t.kids.length ≤ 1000) (hxl : l.es.length = ln + 1) (hln : ln ≤ 1000) (hrl : r.es.length ≤ 1000) (hk : l.kids = [] ∧ r.kids = []) :
    Calls Try.prog 52 #[.pointer (some ⟨t.b, 0, none⟩), .int .i64 i] w fun e w' => e = .returned (.tuple #[]) ∧ TurnR w t l r i w' := by
  have ht := hS.sh t (by simp)
  obtain ⟨B, d, hd1, hd2, c1, ck, cr⟩ := ht.kid2 hl hr
  have hik := (List.getElem?_eq_some_iff.1 hr).1
  have zi : (i : Int) < (t.kids.length : Int) := by omega
  have zi1 : (i : Int) + 1 < (t.kids.length : Int) := by omega
  have zi2 : (0 : Int) ≤ (i : Int) + 1 := by omega
  obtain ⟨kl, hkl⟩ : ∃ kl, t.kids.length = kl := ⟨_, rfl⟩
  obtain ⟨el, hel⟩ : ∃ el, t.es.length = el := ⟨_, rfl⟩
  have zel : (i : Int) < (el : Int) := by omega
  have HZ : Hid (wrap64 ((i : Int) + 1) = (i : Int) + 1) := by unfold Hid wrap64; omega
  rw [hkl] at c1 hd1 zi zi1
  have G0 := cell_regrown c1
  have G1 := cell_regrown ck
  have G2 := cell_regrown cr
  have HH := (show Hid _ from And.intro hS (And.intro hl (And.intro hr (And.intro hi (And.intro hn (And.intro hn2 (And.intro hxl (And.intro hln (And.intro hrl (And.intro hk (And.intro hkl hel)))))))))))
  clear ht hS hl hr hi hn hn2 hxl hln hrl hk hkl hel hik c1 ck cr
  have zw := HZ.out
  go_enter Try.func52, Try.ntmps52
  go_wp2_with fail
  refine wp_region_quiet_below mixed (by kernel_rfl) ?_
  iterate 17 go_big_quiet_step (fail)
  refine wpQuiet_nil ?_
  rintro w1 ⟨⟨dq, osq⟩, hw1⟩
  have hb1 : Below w.heap.size w w1 := by rw [hw1]; exact below_regrown _ dq osq
  clear hw1 G0 G1 G2 zw
  obtain ⟨hS, hl, hr, hi, hn, hn2, hxl, hln, hrl, hk, hkl, hel⟩ := HH.out
  have hP1 : Stp w [t, l, r] w1.drew [t, l, r] := Stp.below hS hb1.drew
  obtain ⟨m, hm⟩ : ∃ m, t.es[i]? = some m := ⟨_, List.getElem?_eq_getElem hi⟩
  obtain ⟨x, hx⟩ : ∃ x, l.es[ln]? = some x := ⟨_, List.getElem?_eq_getElem (by omega)⟩
  have hst := hP1.st.sh t (by simp)
  have hsr := hP1.st.sh r (by simp)
  obtain ⟨D, dc, et, hdc1, hdc2, t0, tk, ti, tf⟩ := hst.entryv hm
  rw [hel] at et hdc1 t0
  obtain ⟨ra, rc, -, -, er, -, r0, -, rf⟩ := hsr.view
  have hDt : vc D t.s = 1 := vc_of (by rw [et]; rfl)
  have one := fun a => by have := hP1.st.one a; rw [ss_three] at this; exact this
  have hDr : sc D r = 0 := by have h1 := one D; have h2 : vc D t.s ≤ sc D t := by unfold sc; omega
                              omega
  have htr : sc t.b r = 0 := by have h1 := one t.b; have := sc_b t; omega
  have hv1 : vc t.b r.s = 0 := by unfold sc at htr; omega
  have hv2 : vc D r.s = 0 := by unfold sc at hDr; omega
  have hbs : t.b < w1.heap.size ∧ r.b < w1.heap.size ∧ D < w1.heap.size := ⟨lt_of_cell t0, lt_of_cell r0, lt_of_cell tk⟩
  obtain ⟨mk, mi⟩ := m
  have Q0 := fun (w' : World) (h : w'.heap[r.b]? = w1.heap[r.b]? ∧ w'.heap[t.b]? = w1.heap[t.b]? ∧ w'.heap[D]? = w1.heap[D]?) => (World.cell?_of_block (a := ⟨r.b, 0, none⟩) h.1).trans r0
  have Q1 := fun (w' : World) (h : w'.heap[r.b]? = w1.heap[r.b]? ∧ w'.heap[t.b]? = w1.heap[t.b]? ∧ w'.heap[D]? = w1.heap[D]?) => (World.cell?_of_block (a := ⟨t.b, 0, none⟩) h.2.1).trans t0
  have Q2 := fun (w' : World) (h : w'.heap[r.b]? = w1.heap[r.b]? ∧ w'.heap[t.b]? = w1.heap[t.b]? ∧ w'.heap[D]? = w1.heap[D]?) => (World.cell?_of_block (a := ⟨D, i * 2, none⟩) h.2.2).trans tk
  have Q3 := fun (w' : World) (h : w'.heap[r.b]? = w1.heap[r.b]? ∧ w'.heap[t.b]? = w1.heap[t.b]? ∧ w'.heap[D]? = w1.heap[D]?) => (World.cell?_of_block (a := ⟨D, i * 2 + 1, none⟩) h.2.2).trans ti
  have hins := fun W1 hb hr => insE_any (w := w1.drew) (W1 := W1) (t := r) 0 w1.heap.size (mk, mi) hsr (hP1.st.sc_one (by simp)) hb (Nat.le_refl _) hr (Nat.zero_le _) (by omega)
  rw [er] at hins
  obtain ⟨rl, hrll⟩ : ∃ rl, r.es.length = rl := ⟨_, rfl⟩
  rw [hrll] at hins Q0
  rw [er, hrll] at hv1 hv2
  have G1 := (show Hid _ from And.intro hP1 (And.intro et (And.intro hv2 (And.intro hv1 (And.intro rf (And.intro hm (And.intro hx hrll)))))))
  clear hst hsr et t0 tk ti r0 er tf hDt one hDr htr hv1 hv2 hm hx rf hrll hP1 hb1
  clear hS hl hr hi hn hn2 hxl hln hrl hk hkl hel
  have h0 : (fun w' : World => w'.heap[r.b]? = w1.heap[r.b]? ∧ w'.heap[t.b]? = w1.heap[t.b]? ∧ w'.heap[D]? = w1.heap[D]?) w1.drew := ⟨rfl, rfl, rfl⟩
  go_wp2_with fail
  refine wp_region_snoc_held2 (S := fun w' => w'.heap[r.b]? = w1.heap[r.b]? ∧ w'.heap[t.b]? = w1.heap[t.b]? ∧ w'.heap[D]? = w1.heap[D]?) (head := #[_, _, _, _, _, _, _, _, _, _, _, _, _, _, _, _]) (last := ⟨_, _, _, _, _, _⟩) mixed (by kernel_rfl) rfl ?_
  refine wpAnyH_take (i := 0) (oi := ⟨_, _, _, _, _, _⟩) (v := ?v1) rfl (by kernel_rfl) (by kernel_rfl) (by kernel_rfl) (fun _ _ _ h => h) (Or.inl ⟨by rfl, ?hy1⟩) h0 ?rest1
  case hy1 => (intro w hSw; (try dsimp only at hSw); go_simp; try with_reducible rfl)
  simp only [Act.put, List.setIfInBounds_toArray, List.set_cons_zero, List.set_cons_succ]
  refine wpAnyH_take (i := 1) (oi := ⟨_, _, _, _, _, _⟩) (v := ?v2) rfl (by kernel_rfl) (by kernel_rfl) (by kernel_rfl) (fun _ _ _ h => h) (Or.inl ⟨by rfl, ?hy2⟩) h0 ?rest2
  case hy2 => (intro w hSw; (try dsimp only at hSw); go_simp; try with_reducible rfl)
  simp only [Act.put, List.setIfInBounds_toArray, List.set_cons_zero, List.set_cons_succ]
  refine wpAnyH_take (i := 2) (oi := ⟨_, _, _, _, _, _⟩) (v := ?v3) rfl (by kernel_rfl) (by kernel_rfl) (by kernel_rfl) (fun _ _ _ h => h) (Or.inl ⟨by rfl, ?hy3⟩) h0 ?rest3
  case hy3 => (intro w hSw; (try dsimp only at hSw); go_simp; try with_reducible rfl)
  simp only [Act.put, List.setIfInBounds_toArray, List.set_cons_zero, List.set_cons_succ]
  refine wpAnyH_take (i := 3) (oi := ⟨_, _, _, _, _, _⟩) (v := ?v4) rfl (by kernel_rfl) (by kernel_rfl) (by kernel_rfl) (fun _ _ _ h => h) (Or.inl ⟨by rfl, ?hy4⟩) h0 ?rest4
  case hy4 => (intro w hSw; (try dsimp only at hSw); go_simp; try with_reducible rfl)
  simp only [Act.put, List.setIfInBounds_toArray, List.set_cons_zero, List.set_cons_succ]
  refine wpAnyH_take (i := 4) (oi := ⟨_, _, _, _, _, _⟩) (v := ?v5) rfl (by kernel_rfl) (by kernel_rfl) (by kernel_rfl) (fun _ _ _ h => h) (Or.inl ⟨by rfl, ?hy5⟩) h0 ?rest5
  case hy5 => (intro w hSw; (try dsimp only at hSw); go_simp; try with_reducible rfl)
  simp only [Act.put, List.setIfInBounds_toArray, List.set_cons_zero, List.set_cons_succ]
  refine wpAnyH_take (i := 5) (oi := ⟨_, _, _, _, _, _⟩) (v := ?v6) rfl (by kernel_rfl) (by kernel_rfl) (by kernel_rfl) (fun _ _ _ h => h) (Or.inl ⟨by rfl, ?hy6⟩) h0 ?rest6
  case hy6 => (intro w hSw; (try dsimp only at hSw); go_simp; try with_reducible rfl)
  simp only [Act.put, List.setIfInBounds_toArray, List.set_cons_zero, List.set_cons_succ]
  refine wpAnyH_take (i := 6) (oi := ⟨_, _, _, _, _, _⟩) (v := ?v7) rfl (by kernel_rfl) (by kernel_rfl) (by kernel_rfl) (fun _ _ _ h => h) (Or.inl ⟨by rfl, ?hy7⟩) h0 ?rest7
  case hy7 => (intro w hSw; (try dsimp only at hSw); go_simp; try with_reducible rfl)
  simp only [Act.put, List.setIfInBounds_toArray, List.set_cons_zero, List.set_cons_succ]
  refine wpAnyH_take (i := 7) (oi := ⟨_, _, _, _, _, _⟩) (v := ?v8) rfl (by kernel_rfl) (by kernel_rfl) (by kernel_rfl) (fun _ _ _ h => h) (Or.inl ⟨by rfl, ?hy8⟩) h0 ?rest8
  case hy8 => (intro w hSw; (try dsimp only at hSw); go_simp; try with_reducible rfl)
  simp only [Act.put, List.setIfInBounds_toArray, List.set_cons_zero, List.set_cons_succ]
  refine wpAnyH_take (i := 8) (oi := ⟨_, _, _, _, _, _⟩) (v := ?v9) rfl (by kernel_rfl) (by kernel_rfl) (by kernel_rfl) (fun _ _ _ h => h) (Or.inl ⟨by rfl, ?hy9⟩) h0 ?rest9
  case hy9 => (intro w hSw; (try dsimp only at hSw); go_simp; try with_reducible rfl)
  simp only [Act.put, List.setIfInBounds_toArray, List.set_cons_zero, List.set_cons_succ]
  refine wpAnyH_take (i := 9) (oi := ⟨_, _, _, _, _, _⟩) (v := ?v10) rfl (by kernel_rfl) (by kernel_rfl) (by kernel_rfl) (fun _ _ _ h => h) (Or.inl ⟨by rfl, ?hy10⟩) h0 ?rest10
  case hy10 => (intro w hSw; (try dsimp only at hSw); go_simp; try with_reducible rfl)
  simp only [Act.put, List.setIfInBounds_toArray, List.set_cons_zero, List.set_cons_succ]
  refine wpAnyH_take (i := 10) (oi := ⟨_, _, _, _, _, _⟩) (v := ?v11) rfl (by kernel_rfl) (by kernel_rfl) (by kernel_rfl) (fun _ _ _ h => h) (Or.inl ⟨by rfl, ?hy11⟩) h0 ?rest11
  case hy11 => (intro w hSw; (try dsimp only at hSw); go_simp; try with_reducible rfl)
  simp only [Act.put, List.setIfInBounds_toArray, List.set_cons_zero, List.set_cons_succ]
  refine wpAnyH_take (i := 11) (oi := ⟨_, _, _, _, _, _⟩) (v := ?v12) rfl (by kernel_rfl) (by kernel_rfl) (by kernel_rfl) (fun _ _ _ h => h) (Or.inl ⟨by rfl, ?hy12⟩) h0 ?rest12
  case hy12 => (intro w hSw; (try dsimp only at hSw); go_simp; try with_reducible rfl)
  simp only [Act.put, List.setIfInBounds_toArray, List.set_cons_zero, List.set_cons_succ]
  refine wpAnyH_ready (rs := [12]) (by kernel_rfl) (by simp) ?_
  refine AllReadyH.cons (o := ⟨_, _, _, _, _, _⟩) rfl (fun K hK => ?_) AllReadyH.nil
  go_simp
  have hb2 : Below w1.drew.heap.size w1.drew (w1.alloc (.cells #[.string mk, .int .i64 mi] 34)).drew := ((Below.refl _ _).alloc (Nat.le_refl _) _)
  have h2 : (w1.alloc (.cells #[.string mk, .int .i64 mi] 34)).drew.heap[r.b]? = w1.heap[r.b]? ∧ (w1.alloc (.cells #[.string mk, .int .i64 mi] 34)).drew.heap[t.b]? = w1.heap[t.b]? ∧ (w1.alloc (.cells #[.string mk, .int .i64 mi] 34)).drew.heap[D]? = w1.heap[D]? := ⟨hb2.block _ hbs.2.1, hb2.block _ hbs.1, hb2.block _ hbs.2.2⟩
  refine hK.out _ _ h2 (fun hHeld => ?_)
  clear hK K hHeld
  try simp only [Act.put, List.setIfInBounds_toArray, List.set_cons_zero, List.set_cons_succ]
  refine wpAnyH_ready (rs := [13]) (by kernel_rfl) (by simp) ?_
  refine AllReadyH.cons (o := ⟨_, _, _, _, _, _⟩) rfl (fun K hK => ?_) AllReadyH.nil
  go_simp
  refine (hins _ hb2 (heap_alloc_new w1 _)).mono ?_
  rintro e w3 ⟨a3, c3, rfl, hE3, hb3, hsz3, hk3⟩
  obtain ⟨hP1, et, hDr, htr, rf, -⟩ := G1.out
  have h3 : w3.heap[r.b]? = w1.heap[r.b]? ∧ w3.heap[t.b]? = w1.heap[t.b]? ∧ w3.heap[D]? = w1.heap[D]? := ⟨hb3, hk3 t.b hbs.1 htr, hk3 D hbs.2.2 hDr⟩
  have e0 := Q0 w3 h3
  have ez : ∀ j, w3.frozen? ⟨r.b, j, none⟩ = false := fun j => (World.frozen?_of_block (a := ⟨r.b, j, none⟩) h3.1).trans (rf j)
  have G2 := (show Hid _ from hE3)
  clear hb3 hsz3 hk3 hP1 et hDr htr rf hE3 hins
  refine hK.out _ _ h3 (fun hHeld => ?_)
  clear hK K hHeld
  try simp only [Act.put, List.setIfInBounds_toArray, List.set_cons_zero, List.set_cons_succ]
  refine wpAnyH_ready (rs := [14]) (by kernel_rfl) (by simp) ?_
  refine AllReadyH.cons (o := ⟨_, _, _, _, _, _⟩) rfl (fun K hK => ?_) AllReadyH.nil
  go_simp
  refine hK.out _ _ h3 (fun hHeld => ?_)
  clear hK K hHeld
  try simp only [Act.put, List.setIfInBounds_toArray, List.set_cons_zero, List.set_cons_succ]
  refine wpAnyH_ready (rs := [15]) (by kernel_rfl) (by simp) ?_
  refine AllReadyH.cons (o := ⟨_, _, _, _, _, _⟩) rfl (fun K hK => ?_) AllReadyH.nil
  go_simp
  refine hK.out _ _ h3 (fun hHeld => ?_)
  clear hK K hHeld
  try simp only [Act.put, List.setIfInBounds_toArray, List.set_cons_zero, List.set_cons_succ]
  refine wpAnyH_done (by kernel_rfl) ?_ _
  clear Q0 Q1 Q2 Q3 h0 h2 h3 hb2
  show Oper.wp _ _ _ _ _ _
  go_simp
  obtain ⟨W4, hW4⟩ : ∃ W4, w3.setCell ⟨r.b, 0, none⟩ (.slice a3 (rl + 1) c3) = W4 := ⟨_, rfl⟩
  rw [hW4]
  have hE3 := G2.out
  rw [hW4] at hE3
  clear hW4 e0 ez G2
  obtain ⟨hP1, et, hDr, htr, rf, hm, hx, hrll⟩ := G1.out
  obtain ⟨hS, hl, hr, hi, hn, hn2, hxl, hln, hrl, hk, hkl, hel⟩ := HH.out
  obtain ⟨r4, hr4⟩ : ∃ r4 : Nd, r4 = { r with s := .slice a3 (rl + 1) c3, es := r.es.take 0 ++ (mk, mi) :: r.es.drop 0 } := ⟨_, rfl⟩
  rw [← hr4] at hE3
  have hP4 : Stp w [t, l, r] W4 [t, l, r4] := hP1.trans (St.at (A := [t, l]) (D := []) hP1.st hE3)
  clear hP1 hE3 hDr htr rf hbs et
  obtain ⟨D, dc, et, hdc1, hdc2, t0, tk, ti, tf⟩ := (hP4.st.sh t (by simp)).entryv hm
  rw [hel] at et hdc1 t0
  obtain ⟨la, lc, -, -, ela, -, l0, -, lf⟩ := (hP4.st.sh l (by simp)).view
  rw [hxl] at ela l0
  obtain ⟨xk, xi⟩ := x
  have one := fun a => by have := hP4.st.one a; rw [ss_three] at this; exact this
  have htl : sc t.b l = 0 := by have h1 := one t.b; have := sc_b t; omega
  have hP4d : Stp w [t, l, r] W4.drew [t, l, r4] := hP4.trans (Stp.below hP4.st (Below.refl _ _).drew)
  have htake := takeE_any l ln (xk, xi) W4.drew (hP4d.st.sh l (by simp)) (hP4d.st.sc_one (by simp)) hx (by omega)
  have htb : t.b < W4.heap.size := lt_of_cell t0
  have Q0 := fun (w' : World) (h : w'.heap[t.b]? = W4.heap[t.b]?) => (World.cell?_of_block (a := ⟨t.b, 0, none⟩) h).trans t0
  have HZ2 : Hid (IntKind.i64.wrap (ln : Int) = (ln : Int)) := by unfold Hid; rw [IntKind.wrap_i64]; omega
  have hbl : t.b ≠ l.b := fun e => by have := sc_b l; rw [← e] at this; omega
  have G3 := (show Hid _ from And.intro hP4d (And.intro et (And.intro htl (And.intro hm (And.intro hx (And.intro hrll hr4))))))
  clear hP4 hP4d et t0 tk ti tf ela lf one htl hm hx hrll hr4
  clear hS hl hr hi hn hn2 hxl hln hrl hk hkl hel
  have h0 : (fun w' : World => w'.heap[t.b]? = W4.heap[t.b]?) W4.drew := rfl
  go_wp2_with fail
  refine wp_region_snoc_held2 (S := fun w' => w'.heap[t.b]? = W4.heap[t.b]?) (head := #[_, _, _, _, _, _, _, _, _, _, _, _, _, _, _, _]) (last := ⟨_, _, _, _, _, _⟩) mixed (by kernel_rfl) rfl ?_
  refine wpAnyH_take (i := 0) (oi := ⟨_, _, _, _, _, _⟩) (v := ?v13) rfl (by kernel_rfl) (by kernel_rfl) (by kernel_rfl) (fun _ _ _ h => h) (Or.inl ⟨by rfl, ?hy13⟩) h0 ?rest13
  case hy13 => (intro w hSw; (try dsimp only at hSw); go_simp; try with_reducible rfl)
  simp only [Act.put, List.setIfInBounds_toArray, List.set_cons_zero, List.set_cons_succ]
  refine wpAnyH_take (i := 1) (oi := ⟨_, _, _, _, _, _⟩) (v := ?v14) rfl (by kernel_rfl) (by kernel_rfl) (by kernel_rfl) (fun _ _ _ h => h) (Or.inl ⟨by rfl, ?hy14⟩) h0 ?rest14
  case hy14 => (intro w hSw; (try dsimp only at hSw); go_simp; try with_reducible rfl)
  simp only [Act.put, List.setIfInBounds_toArray, List.set_cons_zero, List.set_cons_succ]
  refine wpAnyH_take (i := 2) (oi := ⟨_, _, _, _, _, _⟩) (v := ?v15) rfl (by kernel_rfl) (by kernel_rfl) (by kernel_rfl) (fun _ _ _ h => h) (Or.inl ⟨by rfl, ?hy15⟩) h0 ?rest15
  case hy15 => (intro w hSw; (try dsimp only at hSw); go_simp; try with_reducible rfl)
  simp only [Act.put, List.setIfInBounds_toArray, List.set_cons_zero, List.set_cons_succ]
  refine wpAnyH_take (i := 3) (oi := ⟨_, _, _, _, _, _⟩) (v := ?v16) rfl (by kernel_rfl) (by kernel_rfl) (by kernel_rfl) (fun _ _ _ h => h) (Or.inl ⟨by rfl, ?hy16⟩) h0 ?rest16
  case hy16 => (intro w hSw; (try dsimp only at hSw); go_simp; try with_reducible rfl)
  simp only [Act.put, List.setIfInBounds_toArray, List.set_cons_zero, List.set_cons_succ]
  refine wpAnyH_take (i := 4) (oi := ⟨_, _, _, _, _, _⟩) (v := ?v17) rfl (by kernel_rfl) (by kernel_rfl) (by kernel_rfl) (fun _ _ _ h => h) (Or.inl ⟨by rfl, ?hy17⟩) h0 ?rest17
  case hy17 => (intro w hSw; (try dsimp only at hSw); go_simp; try with_reducible rfl)
  simp only [Act.put, List.setIfInBounds_toArray, List.set_cons_zero, List.set_cons_succ]
  refine wpAnyH_take (i := 5) (oi := ⟨_, _, _, _, _, _⟩) (v := ?v18) rfl (by kernel_rfl) (by kernel_rfl) (by kernel_rfl) (fun _ _ _ h => h) (Or.inl ⟨by rfl, ?hy18⟩) h0 ?rest18
  case hy18 => (intro w hSw; (try dsimp only at hSw); go_simp; try with_reducible rfl)
  simp only [Act.put, List.setIfInBounds_toArray, List.set_cons_zero, List.set_cons_succ]
  refine wpAnyH_take (i := 6) (oi := ⟨_, _, _, _, _, _⟩) (v := ?v19) rfl (by kernel_rfl) (by kernel_rfl) (by kernel_rfl) (fun _ _ _ h => h) (Or.inl ⟨by rfl, ?hy19⟩) h0 ?rest19
  case hy19 => (intro w hSw; (try dsimp only at hSw); go_simp; try with_reducible rfl)
  simp only [Act.put, List.setIfInBounds_toArray, List.set_cons_zero, List.set_cons_succ]
  refine wpAnyH_take (i := 7) (oi := ⟨_, _, _, _, _, _⟩) (v := ?v20) rfl (by kernel_rfl) (by kernel_rfl) (by kernel_rfl) (fun _ _ _ h => h) (Or.inl ⟨by rfl, ?hy20⟩) h0 ?rest20
  case hy20 => (intro w hSw; (try dsimp only at hSw); go_simp; try with_reducible rfl)
  simp only [Act.put, List.setIfInBounds_toArray, List.set_cons_zero, List.set_cons_succ]
  refine wpAnyH_take (i := 8) (oi := ⟨_, _, _, _, _, _⟩) (v := ?v21) rfl (by kernel_rfl) (by kernel_rfl) (by kernel_rfl) (fun _ _ _ h => h) (Or.inl ⟨by rfl, ?hy21⟩) h0 ?rest21
  case hy21 => (intro w hSw; (try dsimp only at hSw); go_simp; try with_reducible rfl)
  simp only [Act.put, List.setIfInBounds_toArray, List.set_cons_zero, List.set_cons_succ]
  refine wpAnyH_take (i := 9) (oi := ⟨_, _, _, _, _, _⟩) (v := ?v22) rfl (by kernel_rfl) (by kernel_rfl) (by kernel_rfl) (fun _ _ _ h => h) (Or.inl ⟨by rfl, ?hy22⟩) h0 ?rest22
  case hy22 => (intro w hSw; (try dsimp only at hSw); go_simp; try with_reducible rfl)
  simp only [Act.put, List.setIfInBounds_toArray, List.set_cons_zero, List.set_cons_succ]
  refine wpAnyH_take (i := 10) (oi := ⟨_, _, _, _, _, _⟩) (v := ?v23) rfl (by kernel_rfl) (by kernel_rfl) (by kernel_rfl) (fun _ _ _ h => h) (Or.inl ⟨by rfl, ?hy23⟩) h0 ?rest23
  case hy23 => (intro w hSw; (try dsimp only at hSw); go_simp; try with_reducible rfl)
  simp only [Act.put, List.setIfInBounds_toArray, List.set_cons_zero, List.set_cons_succ]
  refine wpAnyH_ready (rs := [11]) (by kernel_rfl) (by simp) ?_
  refine AllReadyH.cons (o := ⟨_, _, _, _, _, _⟩) rfl (fun K hK => ?_) AllReadyH.nil
  go_simp
  refine hK.out _ _ h0 (fun hHeld => ?_)
  clear hK K hHeld
  try simp only [Act.put, List.setIfInBounds_toArray, List.set_cons_zero, List.set_cons_succ]
  refine wpAnyH_ready (rs := [12]) (by kernel_rfl) (by simp) ?_
  refine AllReadyH.cons (o := ⟨_, _, _, _, _, _⟩) rfl (fun K hK => ?_) AllReadyH.nil
  go_simp
  refine hK.out _ _ h0 (fun hHeld => ?_)
  clear hK K hHeld
  try simp only [Act.put, List.setIfInBounds_toArray, List.set_cons_zero, List.set_cons_succ]
  have zln := HZ2.out
  refine wpAnyH_ready (rs := [13]) (by kernel_rfl) (by simp) ?_
  refine AllReadyH.cons (o := ⟨_, _, _, _, _, _⟩) rfl (fun K hK => ?_) AllReadyH.nil
  go_simp
  clear zln
  refine hK.out _ _ h0 (fun hHeld => ?_)
  clear hK K hHeld
  try simp only [Act.put, List.setIfInBounds_toArray, List.set_cons_zero, List.set_cons_succ]
  refine wpAnyH_ready (rs := [14]) (by kernel_rfl) (by simp) ?_
  refine AllReadyH.cons (o := ⟨_, _, _, _, _, _⟩) rfl (fun K hK => ?_) AllReadyH.nil
  go_simp
  refine htake.mono ?_
  rintro e w5 ⟨rfl, s5, hE5, ho5⟩
  obtain ⟨hP4d, et, htl, -⟩ := G3.out
  have h5 : w5.heap[t.b]? = W4.heap[t.b]? := hE5.chg.block t.b htb htl
  have G4 := (show Hid _ from And.intro hE5 ho5)
  clear hE5 ho5 hP4d et htl htake l0
  refine hK.out _ _ h5 (fun hHeld => ?_)
  clear hK K hHeld
  try simp only [Act.put, List.setIfInBounds_toArray, List.set_cons_zero, List.set_cons_succ]
  refine wpAnyH_ready (rs := [15]) (by kernel_rfl) (by simp) ?_
  refine AllReadyH.cons (o := ⟨_, _, _, _, _, _⟩) rfl (fun K hK => ?_) AllReadyH.nil
  go_simp
  refine hK.out _ _ h5 (fun hHeld => ?_)
  clear hK K hHeld
  try simp only [Act.put, List.setIfInBounds_toArray, List.set_cons_zero, List.set_cons_succ]
  refine wpAnyH_done (by kernel_rfl) ?_ _
  clear Q0 h0 h5
  obtain ⟨hP4d, et, htl, hm, hx, hrll, hr4⟩ := G3.out
  obtain ⟨hE5, ho5⟩ := G4.out
  obtain ⟨hS, hl, hr, hi, hn, hn2, hxl, hln, hrl, hk, hkl, hel⟩ := HH.out
  obtain ⟨l6, hl6⟩ : ∃ l6 : Nd, l6 = { l with s := s5, es := l.es.take ln ++ l.es.drop (ln + 1) } := ⟨_, rfl⟩
  rw [← hl6] at hE5
  have hP5 : Stp w [t, l, r] w5 [t, l6, r4] := hP4d.trans (St.at (A := [t]) (D := [r4]) hP4d.st hE5)
  obtain ⟨D2, dc2, et2, -, -, -, tk, ti, tf⟩ := (hP5.st.sh t (by simp)).entryv hm
  obtain ⟨rfl, -⟩ : D2 = D ∧ True := by
    rw [et] at et2
    simp only [Value.slice.injEq, Option.some.injEq, Addr.mk.injEq, and_true] at et2
    exact ⟨et2.1.symm, trivial⟩
  have hset := ev1_set (x := (xk, xi)) (hP5.st.sh t (by simp)) (hP5.st.sc_one (by simp)) (by rw [hel]; exact et) hm
  have G5 := (show Hid _ from And.intro hP5 (And.intro hset (And.intro hm (And.intro hx (And.intro hrll (And.intro hr4 (And.intro hl6 ho5)))))))
  clear hP4d et htl hm hx hrll hr4 hE5 ho5 hl6 hP5 et2 hset
  clear hS hl hr hi hn hn2 hxl hln hrl hk hkl hel
  show Oper.wp _ _ _ _ _ _
  go_simp
  obtain ⟨W7, hW7⟩ : ∃ W7, (w5.setCell ⟨D2, i * 2, none⟩ (.string xk)).setCell ⟨D2, i * 2 + 1, none⟩ (.int .i64 xi) = W7 := ⟨_, rfl⟩
  obtain ⟨hP5, hset, hm, hx, hrll, hr4, hl6, ho5⟩ := G5.out
  rw [hW7] at hset
  obtain ⟨t7, ht7⟩ : ∃ t7 : Nd, t7 = { t with es := t.es.set i (xk, xi) } := ⟨_, rfl⟩
  rw [← ht7] at hset
  have hP7 : Stp w [t, l, r] W7 [t7, l6, r4] := hP5.trans (St.at (A := []) (D := [l6, r4]) hP5.st hset)
  have hlf := leaf_any W7 (hP7.st.sh l6 (by simp))
  have h6k : l6.kids = l.kids := by rw [hl6]
  have h6b : l6.b = l.b := by rw [hl6]
  rw [h6b, h6k, HH.out.2.2.2.2.2.2.2.2.2.1.1, show ([] : List Nd).length = 0 from rfl] at hlf
  have G6 := (show Hid _ from And.intro hP7 (And.intro hm (And.intro hx (And.intro hr4 (And.intro hl6 ht7)))))
  clear hP5 hset hm hx hrll hr4 hl6 ho5 ht7 hP7 h6k h6b tk ti tf
  go_wp2_with fail
  refine hlf.mono ?_
  rintro e w7 ⟨rfl, rfl⟩
  clear hlf
  go_wp2
  obtain ⟨hP7, hm, hx, hr4, hl6, ht7⟩ := G6.out
  obtain ⟨hS, hl, hr, hi, hn, hn2, hxl, hln, hrl, hk, hkl, hel⟩ := HH.out
  have hfin : TurnR w t l r i w7 := by
    refine ⟨s5, l.k, .slice a3 (rl + 1) c3, r.k, (mk, mi), (xk, xi), l.es.take ln, l.kids, r.kids, hm, ?_, .inl ⟨hk.1, hk.2, hk.1, hk.2⟩, ?_⟩
    · conv => lhs; rw [split_at hx]
      rw [List.drop_of_length_le (by omega)]
    · rw [ht7, hl6, hr4, List.drop_of_length_le (show l.es.length ≤ ln + 1 by omega), List.append_nil] at hP7
      exact hP7
  exact bodyPost_end (v := .tuple #[]) (by simp [results, Try.results52, go_sem]) rfl ⟨rfl, hfin⟩
end Go.Proofs.Ytoaekmighinmhaa
