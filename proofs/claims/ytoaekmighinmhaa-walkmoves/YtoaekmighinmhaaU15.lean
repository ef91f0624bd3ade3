/-
  turnLeft by its contract: two leaves. Conditions: as stated.
-/
import Derived.Test.YtoaekmighinmhaaU11
namespace Go.Proofs.Ytoaekmighinmhaa
open Go.RowKit

set_option maxRecDepth 100000 in
set_option maxHeartbeats 8000000 in
theorem turnLeft_leaf (t l r : Nd) (i rn _rk : Nat) (w : World) (hS : St w [t, l, r]) (hl : t.kids[i]? = some l) (hr : t.kids[i + 1]? = some r) (hi : i < t.es.length) (hn : t.es.length ≤ 1000) (hn2 : t.kids.length ≤ 1000) (hxl : r.es.length = rn + 1) (hln : rn ≤ 1000) (hrl : l.es.length ≤ 1000) (hk : l.kids = [] ∧ r.kids = []) :
    Calls Try.prog 53 #[.pointer (some ⟨t.b, 0, none⟩), .int .i64 i] w fun e w' => e = .returned (.tuple #[]) ∧ TurnL w t l r i w' := by
  have ht := hS.sh t (by simp)
  obtain ⟨B, d, hd1, hd2, c1, ck, cr⟩ := ht.kid2 hl hr
  have hik := (List.getElem?_eq_some_iff.1 hr).1
  have zi : (i : Int) < (t.kids.length : Int) := by omega
  have zi1 : (i : Int) + 1 < (t.kids.length : Int) := by omega
  have zi2 : (0 : Int) ≤ (i : Int) + 1 := by omega
  obtain ⟨kl, hkl⟩ : ∃ kl, t.kids.length = kl := ⟨_, rfl⟩
  obtain ⟨el, hel⟩ : ∃ el, t.es.length = el := ⟨_, rfl⟩
  have zel : (i : Int) < (el : Int) := by omega
  have HZ : Hid (wrap64 ((i : Int) + 1) = (i : Int) + 1) := by unfold Hid wrap64; omega
  rw [hkl] at c1 hd1 zi zi1
  have G0 := cell_regrown c1
  have G1 := cell_regrown ck
  have G2 := cell_regrown cr
  have HH := (show Hid _ from And.intro hS (And.intro hl (And.intro hr (And.intro hi (And.intro hn (And.intro hn2 (And.intro hxl (And.intro hln (And.intro hrl (And.intro hk (And.intro hkl hel)))))))))))
  clear ht hS hl hr hi hn hn2 hxl hln hrl hk hkl hel hik c1 ck cr
  have zw := HZ.out
  go_enter Try.func53, Try.ntmps53
  go_wp2_with fail
  refine wp_region_quiet_below mixed (by kernel_rfl) ?_
  iterate 17 go_big_quiet_step (fail)
  refine wpQuiet_nil ?_
  rintro w1 ⟨⟨dq, osq⟩, hw1⟩
  have hb1 : Below w.heap.size w w1 := by rw [hw1]; exact below_regrown _ dq osq
  clear hw1 G0 G1 G2 zw
  obtain ⟨hS, hl, hr, hi, hn, hn2, hxl, hln, hrl, hk, hkl, hel⟩ := HH.out
  have hP1 : Stp w [t, l, r] w1.drew [t, l, r] := Stp.below hS hb1.drew
  obtain ⟨m, hm⟩ : ∃ m, t.es[i]? = some m := ⟨_, List.getElem?_eq_getElem hi⟩
  obtain ⟨x, hx⟩ : ∃ x, r.es[0]? = some x := ⟨_, List.getElem?_eq_getElem (by omega)⟩
  have hst := hP1.st.sh t (by simp)
  have hsl := hP1.st.sh l (by simp)
  obtain ⟨D, dc, et, hdc1, hdc2, t0, tk, ti, tf⟩ := hst.entryv hm
  rw [hel] at et hdc1 t0
  obtain ⟨la, lc, -, -, er, -, r0, -, rf⟩ := hsl.view
  have hDt : vc D t.s = 1 := vc_of (by rw [et]; rfl)
  have one := fun a => by have := hP1.st.one a; rw [ss_three] at this; exact this
  have hDl : sc D l = 0 := by have h1 := one D; have h2 : vc D t.s ≤ sc D t := by unfold sc; omega
                              omega
  have htl : sc t.b l = 0 := by have h1 := one t.b; have := sc_b t; omega
  have hv1 : vc t.b l.s = 0 := by unfold sc at htl; omega
  have hv2 : vc D l.s = 0 := by unfold sc at hDl; omega
  have hbs : t.b < w1.heap.size ∧ l.b < w1.heap.size ∧ D < w1.heap.size := ⟨lt_of_cell t0, lt_of_cell r0, lt_of_cell tk⟩
  obtain ⟨mk, mi⟩ := m
  have Q0 := fun (w' : World) (h : w'.heap[l.b]? = w1.heap[l.b]? ∧ w'.heap[t.b]? = w1.heap[t.b]? ∧ w'.heap[D]? = w1.heap[D]?) => (World.cell?_of_block (a := ⟨l.b, 0, none⟩) h.1).trans r0
  have Q1 := fun (w' : World) (h : w'.heap[l.b]? = w1.heap[l.b]? ∧ w'.heap[t.b]? = w1.heap[t.b]? ∧ w'.heap[D]? = w1.heap[D]?) => (World.cell?_of_block (a := ⟨t.b, 0, none⟩) h.2.1).trans t0
  have Q2 := fun (w' : World) (h : w'.heap[l.b]? = w1.heap[l.b]? ∧ w'.heap[t.b]? = w1.heap[t.b]? ∧ w'.heap[D]? = w1.heap[D]?) => (World.cell?_of_block (a := ⟨D, i * 2, none⟩) h.2.2).trans tk
  have Q3 := fun (w' : World) (h : w'.heap[l.b]? = w1.heap[l.b]? ∧ w'.heap[t.b]? = w1.heap[t.b]? ∧ w'.heap[D]? = w1.heap[D]?) => (World.cell?_of_block (a := ⟨D, i * 2 + 1, none⟩) h.2.2).trans ti
  obtain ⟨ll, hll⟩ : ∃ ll, l.es.length = ll := ⟨_, rfl⟩
  rw [hll] at Q0 er
  have G1 := (show Hid _ from And.intro hP1 (And.intro et (And.intro hv2 (And.intro hv1 (And.intro rf (And.intro er (And.intro hm (And.intro hx hll))))))))
  clear hst hsl et t0 tk ti r0 er tf hDt one hDl htl hv1 hv2 hm hx rf hll hP1 hb1
  clear hS hl hr hi hn hn2 hxl hln hrl hk hkl hel
  have h0 : (fun w' : World => w'.heap[l.b]? = w1.heap[l.b]? ∧ w'.heap[t.b]? = w1.heap[t.b]? ∧ w'.heap[D]? = w1.heap[D]?) w1.drew := ⟨rfl, rfl, rfl⟩
  go_wp2_with fail
  refine wp_region_snoc_held2 (S := fun w' => w'.heap[l.b]? = w1.heap[l.b]? ∧ w'.heap[t.b]? = w1.heap[t.b]? ∧ w'.heap[D]? = w1.heap[D]?) (head := #[_, _, _, _, _, _, _, _, _, _, _, _, _, _, _, _]) (last := ⟨_, _, _, _, _, _⟩) mixed (by kernel_rfl) rfl ?_
  refine wpAnyH_take (i := 0) (oi := ⟨_, _, _, _, _, _⟩) (v := ?v1) rfl (by kernel_rfl) (by kernel_rfl) (by kernel_rfl) (fun _ _ _ h => h) (Or.inl ⟨by rfl, ?hy1⟩) h0 ?rest1
  case hy1 => (intro w hSw; (try dsimp only at hSw); go_simp; try with_reducible rfl)
  simp only [Act.put, List.setIfInBounds_toArray, List.set_cons_zero, List.set_cons_succ]
  refine wpAnyH_take (i := 1) (oi := ⟨_, _, _, _, _, _⟩) (v := ?v2) rfl (by kernel_rfl) (by kernel_rfl) (by kernel_rfl) (fun _ _ _ h => h) (Or.inl ⟨by rfl, ?hy2⟩) h0 ?rest2
  case hy2 => (intro w hSw; (try dsimp only at hSw); go_simp; try with_reducible rfl)
  simp only [Act.put, List.setIfInBounds_toArray, List.set_cons_zero, List.set_cons_succ]
  refine wpAnyH_take (i := 2) (oi := ⟨_, _, _, _, _, _⟩) (v := ?v3) rfl (by kernel_rfl) (by kernel_rfl) (by kernel_rfl) (fun _ _ _ h => h) (Or.inl ⟨by rfl, ?hy3⟩) h0 ?rest3
  case hy3 => (intro w hSw; (try dsimp only at hSw); go_simp; try with_reducible rfl)
  simp only [Act.put, List.setIfInBounds_toArray, List.set_cons_zero, List.set_cons_succ]
  refine wpAnyH_take (i := 3) (oi := ⟨_, _, _, _, _, _⟩) (v := ?v4) rfl (by kernel_rfl) (by kernel_rfl) (by kernel_rfl) (fun _ _ _ h => h) (Or.inl ⟨by rfl, ?hy4⟩) h0 ?rest4
  case hy4 => (intro w hSw; (try dsimp only at hSw); go_simp; try with_reducible rfl)
  simp only [Act.put, List.setIfInBounds_toArray, List.set_cons_zero, List.set_cons_succ]
  refine wpAnyH_take (i := 4) (oi := ⟨_, _, _, _, _, _⟩) (v := ?v5) rfl (by kernel_rfl) (by kernel_rfl) (by kernel_rfl) (fun _ _ _ h => h) (Or.inl ⟨by rfl, ?hy5⟩) h0 ?rest5
  case hy5 => (intro w hSw; (try dsimp only at hSw); go_simp; try with_reducible rfl)
  simp only [Act.put, List.setIfInBounds_toArray, List.set_cons_zero, List.set_cons_succ]
  refine wpAnyH_take (i := 5) (oi := ⟨_, _, _, _, _, _⟩) (v := ?v6) rfl (by kernel_rfl) (by kernel_rfl) (by kernel_rfl) (fun _ _ _ h => h) (Or.inl ⟨by rfl, ?hy6⟩) h0 ?rest6
  case hy6 => (intro w hSw; (try dsimp only at hSw); go_simp; try with_reducible rfl)
  simp only [Act.put, List.setIfInBounds_toArray, List.set_cons_zero, List.set_cons_succ]
  refine wpAnyH_take (i := 6) (oi := ⟨_, _, _, _, _, _⟩) (v := ?v7) rfl (by kernel_rfl) (by kernel_rfl) (by kernel_rfl) (fun _ _ _ h => h) (Or.inl ⟨by rfl, ?hy7⟩) h0 ?rest7
  case hy7 => (intro w hSw; (try dsimp only at hSw); go_simp; try with_reducible rfl)
  simp only [Act.put, List.setIfInBounds_toArray, List.set_cons_zero, List.set_cons_succ]
  refine wpAnyH_take (i := 7) (oi := ⟨_, _, _, _, _, _⟩) (v := ?v8) rfl (by kernel_rfl) (by kernel_rfl) (by kernel_rfl) (fun _ _ _ h => h) (Or.inl ⟨by rfl, ?hy8⟩) h0 ?rest8
  case hy8 => (intro w hSw; (try dsimp only at hSw); go_simp; try with_reducible rfl)
  simp only [Act.put, List.setIfInBounds_toArray, List.set_cons_zero, List.set_cons_succ]
  refine wpAnyH_take (i := 8) (oi := ⟨_, _, _, _, _, _⟩) (v := ?v9) rfl (by kernel_rfl) (by kernel_rfl) (by kernel_rfl) (fun _ _ _ h => h) (Or.inl ⟨by rfl, ?hy9⟩) h0 ?rest9
  case hy9 => (intro w hSw; (try dsimp only at hSw); go_simp; try with_reducible rfl)
  simp only [Act.put, List.setIfInBounds_toArray, List.set_cons_zero, List.set_cons_succ]
  refine wpAnyH_take (i := 9) (oi := ⟨_, _, _, _, _, _⟩) (v := ?v10) rfl (by kernel_rfl) (by kernel_rfl) (by kernel_rfl) (fun _ _ _ h => h) (Or.inl ⟨by rfl, ?hy10⟩) h0 ?rest10
  case hy10 => (intro w hSw; (try dsimp only at hSw); go_simp; try with_reducible rfl)
  simp only [Act.put, List.setIfInBounds_toArray, List.set_cons_zero, List.set_cons_succ]
  refine wpAnyH_take (i := 10) (oi := ⟨_, _, _, _, _, _⟩) (v := ?v11) rfl (by kernel_rfl) (by kernel_rfl) (by kernel_rfl) (fun _ _ _ h => h) (Or.inl ⟨by rfl, ?hy11⟩) h0 ?rest11
  case hy11 => (intro w hSw; (try dsimp only at hSw); go_simp; try with_reducible rfl)
  simp only [Act.put, List.setIfInBounds_toArray, List.set_cons_zero, List.set_cons_succ]
  refine wpAnyH_take (i := 11) (oi := ⟨_, _, _, _, _, _⟩) (v := ?v12) rfl (by kernel_rfl) (by kernel_rfl) (by kernel_rfl) (fun _ _ _ h => h) (Or.inl ⟨by rfl, ?hy12⟩) h0 ?rest12
  case hy12 => (intro w hSw; (try dsimp only at hSw); go_simp; try with_reducible rfl)
  simp only [Act.put, List.setIfInBounds_toArray, List.set_cons_zero, List.set_cons_succ]
  refine wpAnyH_ready (rs := [12]) (by kernel_rfl) (by simp) ?_
  refine AllReadyH.cons (o := ⟨_, _, _, _, _, _⟩) rfl (fun K hK => ?_) AllReadyH.nil
  go_simp
  have hb2 : Below w1.drew.heap.size w1.drew (w1.alloc (.cells #[.string mk, .int .i64 mi] 34)).drew := ((Below.refl _ _).alloc (Nat.le_refl _) _)
  have h2 : (w1.alloc (.cells #[.string mk, .int .i64 mi] 34)).drew.heap[l.b]? = w1.heap[l.b]? ∧ (w1.alloc (.cells #[.string mk, .int .i64 mi] 34)).drew.heap[t.b]? = w1.heap[t.b]? ∧ (w1.alloc (.cells #[.string mk, .int .i64 mi] 34)).drew.heap[D]? = w1.heap[D]? := ⟨hb2.block _ hbs.2.1, hb2.block _ hbs.1, hb2.block _ hbs.2.2⟩
  refine hK.out _ _ h2 (fun hHeld => ?_)
  clear hK K hHeld
  try simp only [Act.put, List.setIfInBounds_toArray, List.set_cons_zero, List.set_cons_succ]
  obtain ⟨w2, hw2⟩ : ∃ w2, (w1.alloc (.cells #[.string mk, .int .i64 mi] 34)).drew = w2 := ⟨_, rfl⟩
  have hn2' : w2.heap[w1.heap.size]? = some (.cells #[.string mk, .int .i64 mi] 34 (0, 0)) := by rw [← hw2]; exact heap_alloc_new w1 _
  have hs2 : w2.heap.size = w1.heap.size + 1 := by rw [← hw2]; show (w1.alloc _).heap.size = _; simp
  rw [hw2] at h2 hb2 ⊢
  obtain ⟨hP1, et, hv2, hv1, rf, er, -⟩ := G1.out
  rw [er] at hv1 hv2
  have hl1 := hP1.st.sh l (by simp)
  have hown2 := own_keep (W' := w2) hl1.es fun a ha => hb2.block a (own_lt hl1.es ha)
  have hll := G1.out.2.2.2.2.2.2.2.2
  rw [er, hll] at hown2
  obtain ⟨i0, hi, hz0, hz1, hz2⟩ := info_parts infoE
  refine wpAnyH_ready (rs := [13]) (by kernel_rfl) (by simp) ?_
  refine AllReadyH.cons (o := ⟨_, _, _, _, _, _⟩) rfl (fun K hK => ?_) AllReadyH.nil
  refine step_append_lies _ rfl (.tmp 25) (.tmp 33) 25 rfl 0 34 i0 _ 2 24 Try.underlying25 hi hz0 hz1 hz2 rfl (by decide) _ ll (encEns l.es) (by simp [Act.eval]) hown2 ⟨w1.heap.size, 0, none⟩ 1 1 [.string mk, .int .i64 mi] (by simp [Act.eval]) rfl (World.news_of_block hn2') (by intro u hu; simp only [List.mem_cons, List.not_mem_nil, or_false] at hu; rcases hu with rfl | rfl <;> rfl) (by omega) (by have := HH.out.2.2.2.2.2.2.2.2.1; unfold maxLen; omega) (by have := HH.out.2.2.2.2.2.2.2.2.1; omega) (Nat.zero_le _) _ rfl ?_
  intro g cap w3 hown3 hgrow3 hlie3 hlt3
  have hEv := appE_ev (w := w1.drew) (W1 := w2) (t := l) (l := [(mk, mi)]) (n := ll + 1) hl1 (hP1.st.sc_one (by simp)) hb2 (by rw [er]; exact hgrow3) (by rw [List.length_append, hll]; rfl) hown3 (by rw [er]; exact hlie3)
  have h3 : w3.heap[l.b]? = w1.heap[l.b]? ∧ w3.heap[t.b]? = w1.heap[t.b]? ∧ w3.heap[D]? = w1.heap[D]? := ⟨hEv.2, (hgrow3.block t.b (by have := hbs.1; omega) (fun e => by have := vc_of e.symm; omega)).trans h2.2.1, (hgrow3.block D (by have := hbs.2.2; omega) (fun e => by have := vc_of e.symm; omega)).trans h2.2.2⟩
  have e0 := Q0 w3 h3
  have ez : ∀ j, w3.frozen? ⟨l.b, j, none⟩ = false := fun j => (World.frozen?_of_block (a := ⟨l.b, j, none⟩) h3.1).trans (rf j)
  have G2 := (show Hid _ from hEv.1)
  clear hP1 et hv2 hv1 rf er hl1 hown2 hll hi hz0 hz1 hz2 hown3 hgrow3 hlie3 hlt3 hEv hw2 hn2' hs2
  refine hK.out _ _ h3 (fun hHeld => ?_)
  clear hK K hHeld
  try simp only [Act.put, List.setIfInBounds_toArray, List.set_cons_zero, List.set_cons_succ]
  refine wpAnyH_ready (rs := [14]) (by kernel_rfl) (by simp) ?_
  refine AllReadyH.cons (o := ⟨_, _, _, _, _, _⟩) rfl (fun K hK => ?_) AllReadyH.nil
  go_simp
  refine hK.out _ _ h3 (fun hHeld => ?_)
  clear hK K hHeld
  try simp only [Act.put, List.setIfInBounds_toArray, List.set_cons_zero, List.set_cons_succ]
  refine wpAnyH_ready (rs := [15]) (by kernel_rfl) (by simp) ?_
  refine AllReadyH.cons (o := ⟨_, _, _, _, _, _⟩) rfl (fun K hK => ?_) AllReadyH.nil
  go_simp
  refine hK.out _ _ h3 (fun hHeld => ?_)
  clear hK K hHeld
  try simp only [Act.put, List.setIfInBounds_toArray, List.set_cons_zero, List.set_cons_succ]
  refine wpAnyH_done (by kernel_rfl) ?_ _
  clear Q0 Q1 Q2 Q3 h0 h2 h3 hb2
  show Oper.wp _ _ _ _ _ _
  go_simp
  obtain ⟨W4, hW4⟩ : ∃ W4, w3.setCell ⟨l.b, 0, none⟩ (.slice (some ⟨g, 0, none⟩) (ll + 1) cap) = W4 := ⟨_, rfl⟩
  rw [hW4]
  have hE3 := G2.out
  rw [hW4] at hE3
  clear hW4 e0 ez G2
  obtain ⟨hP1, et, hv2, hv1, rf, er, hm, hx, hll⟩ := G1.out
  obtain ⟨hS, hl, hr, hi, hn, hn2, hxl, hln, hrl, hk, hkl, hel⟩ := HH.out
  obtain ⟨l4, hl4⟩ : ∃ l4 : Nd, l4 = { l with s := .slice (some ⟨g, 0, none⟩) (ll + 1) cap, es := l.es ++ [(mk, mi)] } := ⟨_, rfl⟩
  rw [← hl4] at hE3
  have hP4 : Stp w [t, l, r] W4 [t, l4, r] := hP1.trans (St.at (A := [t]) (D := [r]) hP1.st hE3)
  clear hP1 hE3 hv1 hv2 hbs et rf er
  obtain ⟨D', dc', et, hdc1', hdc2', t0, tk, ti, tf⟩ := (hP4.st.sh t (by simp)).entryv hm
  rw [hel] at et hdc1' t0
  obtain ⟨xk, xi⟩ := x
  have one := fun a => by have := hP4.st.one a; rw [ss_three] at this; exact this
  have htr : sc t.b r = 0 := by have h1 := one t.b; have := sc_b t; omega
  have hP4d : Stp w [t, l, r] W4.drew [t, l4, r] := hP4.trans (Stp.below hP4.st (Below.refl _ _).drew)
  have htake := takeE_any r 0 (xk, xi) W4.drew (hP4d.st.sh r (by simp)) (hP4d.st.sc_one (by simp)) hx (by omega)
  have htb : t.b < W4.heap.size := lt_of_cell t0
  have Q0 := fun (w' : World) (h : w'.heap[t.b]? = W4.heap[t.b]?) => (World.cell?_of_block (a := ⟨t.b, 0, none⟩) h).trans t0
  have G3 := (show Hid _ from And.intro hP4d (And.intro et (And.intro htr (And.intro hm (And.intro hx (And.intro hll hl4))))))
  clear hP4 hP4d et t0 tk ti tf one htr hm hx hll hl4
  clear hS hl hr hi hn hn2 hxl hln hrl hk hkl hel
  have h0 : (fun w' : World => w'.heap[t.b]? = W4.heap[t.b]?) W4.drew := rfl
  go_wp2_with fail
  refine wp_region_snoc_held2 (S := fun w' => w'.heap[t.b]? = W4.heap[t.b]?) (head := #[_, _, _, _, _, _, _, _, _, _]) (last := ⟨_, _, _, _, _, _⟩) mixed (by kernel_rfl) rfl ?_
  refine wpAnyH_take (i := 0) (oi := ⟨_, _, _, _, _, _⟩) (v := ?v13) rfl (by kernel_rfl) (by kernel_rfl) (by kernel_rfl) (fun _ _ _ h => h) (Or.inl ⟨by rfl, ?hy13⟩) h0 ?rest13
  case hy13 => (intro w hSw; (try dsimp only at hSw); go_simp; try with_reducible rfl)
  simp only [Act.put, List.setIfInBounds_toArray, List.set_cons_zero, List.set_cons_succ]
  refine wpAnyH_take (i := 1) (oi := ⟨_, _, _, _, _, _⟩) (v := ?v14) rfl (by kernel_rfl) (by kernel_rfl) (by kernel_rfl) (fun _ _ _ h => h) (Or.inl ⟨by rfl, ?hy14⟩) h0 ?rest14
  case hy14 => (intro w hSw; (try dsimp only at hSw); go_simp; try with_reducible rfl)
  simp only [Act.put, List.setIfInBounds_toArray, List.set_cons_zero, List.set_cons_succ]
  refine wpAnyH_take (i := 2) (oi := ⟨_, _, _, _, _, _⟩) (v := ?v15) rfl (by kernel_rfl) (by kernel_rfl) (by kernel_rfl) (fun _ _ _ h => h) (Or.inl ⟨by rfl, ?hy15⟩) h0 ?rest15
  case hy15 => (intro w hSw; (try dsimp only at hSw); go_simp; try with_reducible rfl)
  simp only [Act.put, List.setIfInBounds_toArray, List.set_cons_zero, List.set_cons_succ]
  refine wpAnyH_take (i := 3) (oi := ⟨_, _, _, _, _, _⟩) (v := ?v16) rfl (by kernel_rfl) (by kernel_rfl) (by kernel_rfl) (fun _ _ _ h => h) (Or.inl ⟨by rfl, ?hy16⟩) h0 ?rest16
  case hy16 => (intro w hSw; (try dsimp only at hSw); go_simp; try with_reducible rfl)
  simp only [Act.put, List.setIfInBounds_toArray, List.set_cons_zero, List.set_cons_succ]
  refine wpAnyH_take (i := 4) (oi := ⟨_, _, _, _, _, _⟩) (v := ?v17) rfl (by kernel_rfl) (by kernel_rfl) (by kernel_rfl) (fun _ _ _ h => h) (Or.inl ⟨by rfl, ?hy17⟩) h0 ?rest17
  case hy17 => (intro w hSw; (try dsimp only at hSw); go_simp; try with_reducible rfl)
  simp only [Act.put, List.setIfInBounds_toArray, List.set_cons_zero, List.set_cons_succ]
  refine wpAnyH_take (i := 5) (oi := ⟨_, _, _, _, _, _⟩) (v := ?v18) rfl (by kernel_rfl) (by kernel_rfl) (by kernel_rfl) (fun _ _ _ h => h) (Or.inl ⟨by rfl, ?hy18⟩) h0 ?rest18
  case hy18 => (intro w hSw; (try dsimp only at hSw); go_simp; try with_reducible rfl)
  simp only [Act.put, List.setIfInBounds_toArray, List.set_cons_zero, List.set_cons_succ]
  refine wpAnyH_take (i := 6) (oi := ⟨_, _, _, _, _, _⟩) (v := ?v19) rfl (by kernel_rfl) (by kernel_rfl) (by kernel_rfl) (fun _ _ _ h => h) (Or.inl ⟨by rfl, ?hy19⟩) h0 ?rest19
  case hy19 => (intro w hSw; (try dsimp only at hSw); go_simp; try with_reducible rfl)
  simp only [Act.put, List.setIfInBounds_toArray, List.set_cons_zero, List.set_cons_succ]
  refine wpAnyH_take (i := 7) (oi := ⟨_, _, _, _, _, _⟩) (v := ?v20) rfl (by kernel_rfl) (by kernel_rfl) (by kernel_rfl) (fun _ _ _ h => h) (Or.inl ⟨by rfl, ?hy20⟩) h0 ?rest20
  case hy20 => (intro w hSw; (try dsimp only at hSw); go_simp; try with_reducible rfl)
  simp only [Act.put, List.setIfInBounds_toArray, List.set_cons_zero, List.set_cons_succ]
  refine wpAnyH_ready (rs := [8]) (by kernel_rfl) (by simp) ?_
  refine AllReadyH.cons (o := ⟨_, _, _, _, _, _⟩) rfl (fun K hK => ?_) AllReadyH.nil
  go_simp
  refine htake.mono ?_
  rintro e w5 ⟨rfl, s5, hE5, ho5⟩
  obtain ⟨hP4d, et, htr, -⟩ := G3.out
  have h5 : w5.heap[t.b]? = W4.heap[t.b]? := hE5.chg.block t.b htb htr
  have G4 := (show Hid _ from And.intro hE5 ho5)
  clear hE5 ho5 hP4d et htr htake
  refine hK.out _ _ h5 (fun hHeld => ?_)
  clear hK K hHeld
  try simp only [Act.put, List.setIfInBounds_toArray, List.set_cons_zero, List.set_cons_succ]
  refine wpAnyH_ready (rs := [9]) (by kernel_rfl) (by simp) ?_
  refine AllReadyH.cons (o := ⟨_, _, _, _, _, _⟩) rfl (fun K hK => ?_) AllReadyH.nil
  go_simp
  refine hK.out _ _ h5 (fun hHeld => ?_)
  clear hK K hHeld
  try simp only [Act.put, List.setIfInBounds_toArray, List.set_cons_zero, List.set_cons_succ]
  refine wpAnyH_done (by kernel_rfl) ?_ _
  clear Q0 h0 h5
  obtain ⟨hP4d, et, htr, hm, hx, hll, hl4⟩ := G3.out
  obtain ⟨hE5, ho5⟩ := G4.out
  obtain ⟨hS, hl, hr, hi, hn, hn2, hxl, hln, hrl, hk, hkl, hel⟩ := HH.out
  obtain ⟨r6, hr6⟩ : ∃ r6 : Nd, r6 = { r with s := s5, es := r.es.take 0 ++ r.es.drop (0 + 1) } := ⟨_, rfl⟩
  rw [← hr6] at hE5
  have hP5 : Stp w [t, l, r] w5 [t, l4, r6] := hP4d.trans (St.at (A := [t, l4]) (D := []) hP4d.st hE5)
  obtain ⟨D2, dc2, et2, -, -, -, tk, ti, tf⟩ := (hP5.st.sh t (by simp)).entryv hm
  obtain ⟨rfl, -⟩ : D2 = D' ∧ True := by
    rw [et] at et2
    simp only [Value.slice.injEq, Option.some.injEq, Addr.mk.injEq, and_true] at et2
    exact ⟨et2.1.symm, trivial⟩
  have hset := ev1_set (x := (xk, xi)) (hP5.st.sh t (by simp)) (hP5.st.sc_one (by simp)) (by rw [hel]; exact et) hm
  have G5 := (show Hid _ from And.intro hP5 (And.intro hset (And.intro hm (And.intro hx (And.intro hll (And.intro hl4 (And.intro hr6 ho5)))))))
  clear hP4d et htr hm hx hll hl4 hE5 ho5 hr6 hP5 et2 hset
  clear hS hl hr hi hn hn2 hxl hln hrl hk hkl hel
  show Oper.wp _ _ _ _ _ _
  go_simp
  obtain ⟨W7, hW7⟩ : ∃ W7, (w5.setCell ⟨D2, i * 2, none⟩ (.string xk)).setCell ⟨D2, i * 2 + 1, none⟩ (.int .i64 xi) = W7 := ⟨_, rfl⟩
  obtain ⟨hP5, hset, hm, hx, hll, hl4, hr6, ho5⟩ := G5.out
  rw [hW7] at hset
  obtain ⟨t7, ht7⟩ : ∃ t7 : Nd, t7 = { t with es := t.es.set i (xk, xi) } := ⟨_, rfl⟩
  rw [← ht7] at hset
  have hP7 : Stp w [t, l, r] W7 [t7, l4, r6] := hP5.trans (St.at (A := []) (D := [l4, r6]) hP5.st hset)
  have hlf := leaf_any W7 (hP7.st.sh r6 (by simp))
  have h6k : r6.kids = r.kids := by rw [hr6]
  have h6b : r6.b = r.b := by rw [hr6]
  rw [h6b, h6k, HH.out.2.2.2.2.2.2.2.2.2.1.2, show ([] : List Nd).length = 0 from rfl] at hlf
  have G6 := (show Hid _ from And.intro hP7 (And.intro hm (And.intro hx (And.intro hl4 (And.intro hr6 ht7)))))
  clear hP5 hset hm hx hll hl4 hr6 ho5 ht7 hP7 h6k h6b tk ti tf
  go_wp2_with fail
  refine hlf.mono ?_
  rintro e w7 ⟨rfl, rfl⟩
  clear hlf
  go_wp2
  obtain ⟨hP7, hm, hx, hl4, hr6, ht7⟩ := G6.out
  obtain ⟨hS, hl, hr, hi, hn, hn2, hxl, hln, hrl, hk, hkl, hel⟩ := HH.out
  have hfin : TurnL w t l r i w7 := by
    refine ⟨.slice (some ⟨g, 0, none⟩) (ll + 1) cap, l.k, s5, r.k, (mk, mi), (xk, xi), r.es.drop 1, l.kids, r.kids, hm, ?_, .inl ⟨hk.1, hk.2, hk.1, hk.2⟩, ?_⟩
    · conv => lhs; rw [split_at hx]
      rfl
    · rw [ht7, hl4, hr6] at hP7
      exact hP7
  exact bodyPost_end (v := .tuple #[]) (by simp [results, Try.results53, go_sem]) rfl ⟨rfl, hfin⟩
end Go.Proofs.Ytoaekmighinmhaa
