/-
  turnRight by its contract: no leaves. Conditions: as stated.
-/
import Derived.Test.YtoaekmighinmhaaU11
namespace Go.Proofs.Ytoaekmighinmhaa
open Go.RowKit

set_option maxRecDepth 100000 in
set_option maxHeartbeats 8000000 in
theorem turnRight_deep (t l r : Nd) (i ln lk : Nat) (w : World) (hS : St w [t, l, r]) (hl : t.kids[i]? = some l) (hr : t.kids[i + 1]? = some r) (hi : i < t.es.length) (hn : t.es.length ≤ 1000) (hn2 : t.kids.length ≤ 1000) (hxl : l.es.length = ln + 1) (hln : ln ≤ 1000) (hrl : r.es.length ≤ 1000) (hk : l.kids.length = lk + 1 ∧ 1 ≤ lk ∧ lk ≤ 1000 ∧ r.kids.length ≤ 1000) :
    Calls Try.prog 52 #[.pointer (some ⟨t.b, 0, none⟩), .int .i64 i] w fun e w' => e = .returned (.tuple #[]) ∧ TurnR w t l r i w' := by
  have ht := hS.sh t (by simp)
  obtain ⟨B, d, hd1, hd2, c1, ck, cr⟩ := ht.kid2 hl hr
  have hik := (List.getElem?_eq_some_iff.1 hr).1
  have zi : (i : Int) < (t.kids.length : Int) := by omega
  have zi1 : (i : Int) + 1 < (t.kids.length : Int) := by omega
  have zi2 : (0 : Int) ≤ (i : Int) + 1 := by omega
  obtain ⟨kl, hkl⟩ : ∃ kl, t.kids.length = kl := ⟨_, rfl⟩
  obtain ⟨el, hel⟩ : ∃ el, t.es.length = el := ⟨_, rfl⟩
  have zel : (i : Int) < (el : Int) := by omega
  have HZ : Hid (wrap64 ((i : Int) + 1) = (i : Int) + 1) := by unfold Hid wrap64; omega
  rw [hkl] at c1 hd1 zi zi1
  have G0 := cell_regrown c1
  have G1 := cell_regrown ck
  have G2 := cell_regrown cr
  have HH := (show Hid _ from And.intro hS (And.intro hl (And.intro hr (And.intro hi (And.intro hn (And.intro hn2 (And.intro hxl (And.intro hln (And.intro hrl (And.intro hk (And.intro hkl hel)))))))))))
  clear ht hS hl hr hi hn hn2 hxl hln hrl hk hkl hel hik c1 ck cr
  have zw := HZ.out
  go_enter Try.func52, Try.ntmps52
  go_wp2_with fail
  refine wp_region_quiet_below mixed (by kernel_rfl) ?_
  iterate 17 go_big_quiet_step (fail)
  refine wpQuiet_nil ?_
  rintro w1 ⟨⟨dq, osq⟩, hw1⟩
  have hb1 : Below w.heap.size w w1 := by rw [hw1]; exact below_regrown _ dq osq
  clear hw1 G0 G1 G2 zw
  obtain ⟨hS, hl, hr, hi, hn, hn2, hxl, hln, hrl, hk, hkl, hel⟩ := HH.out
  have hP1 : Stp w [t, l, r] w1.drew [t, l, r] := Stp.below hS hb1.drew
  obtain ⟨m, hm⟩ : ∃ m, t.es[i]? = some m := ⟨_, List.getElem?_eq_getElem hi⟩
  obtain ⟨x, hx⟩ : ∃ x, l.es[ln]? = some x := ⟨_, List.getElem?_eq_getElem (by omega)⟩
  have hst := hP1.st.sh t (by simp)
  have hsr := hP1.st.sh r (by simp)
  obtain ⟨D, dc, et, hdc1, hdc2, t0, tk, ti, tf⟩ := hst.entryv hm
  rw [hel] at et hdc1 t0
  obtain ⟨ra, rc, -, -, er, -, r0, -, rf⟩ := hsr.view
  have hDt : vc D t.s = 1 := vc_of (by rw [et]; rfl)
  have one := fun a => by have := hP1.st.one a; rw [ss_three] at this; exact this
  have hDr : sc D r = 0 := by have h1 := one D; have h2 : vc D t.s ≤ sc D t := by unfold sc; omega
                              omega
  have htr : sc t.b r = 0 := by have h1 := one t.b; have := sc_b t; omega
  have hv1 : vc t.b r.s = 0 := by unfold sc at htr; omega
  have hv2 : vc D r.s = 0 := by unfold sc at hDr; omega
  have hbs : t.b < w1.heap.size ∧ r.b < w1.heap.size ∧ D < w1.heap.size := ⟨lt_of_cell t0, lt_of_cell r0, lt_of_cell tk⟩
  obtain ⟨mk, mi⟩ := m
  have Q0 := fun (w' : World) (h : w'.heap[r.b]? = w1.heap[r.b]? ∧ w'.heap[t.b]? = w1.heap[t.b]? ∧ w'.heap[D]? = w1.heap[D]?) => (World.cell?_of_block (a := ⟨r.b, 0, none⟩) h.1).trans r0
  have Q1 := fun (w' : World) (h : w'.heap[r.b]? = w1.heap[r.b]? ∧ w'.heap[t.b]? = w1.heap[t.b]? ∧ w'.heap[D]? = w1.heap[D]?) => (World.cell?_of_block (a := ⟨t.b, 0, none⟩) h.2.1).trans t0
  have Q2 := fun (w' : World) (h : w'.heap[r.b]? = w1.heap[r.b]? ∧ w'.heap[t.b]? = w1.heap[t.b]? ∧ w'.heap[D]? = w1.heap[D]?) => (World.cell?_of_block (a := ⟨D, i * 2, none⟩) h.2.2).trans tk
  have Q3 := fun (w' : World) (h : w'.heap[r.b]? = w1.heap[r.b]? ∧ w'.heap[t.b]? = w1.heap[t.b]? ∧ w'.heap[D]? = w1.heap[D]?) => (World.cell?_of_block (a := ⟨D, i * 2 + 1, none⟩) h.2.2).trans ti
  have hins := fun W1 hb hr => insE_any (w := w1.drew) (W1 := W1) (t := r) 0 w1.heap.size (mk, mi) hsr (hP1.st.sc_one (by simp)) hb (Nat.le_refl _) hr (Nat.zero_le _) (by omega)
  rw [er] at hins
  obtain ⟨rl, hrll⟩ : ∃ rl, r.es.length = rl := ⟨_, rfl⟩
  rw [hrll] at hins Q0
  rw [er, hrll] at hv1 hv2
  have G1 := (show Hid _ from And.intro hP1 (And.intro et (And.intro hv2 (And.intro hv1 (And.intro rf (And.intro hm (And.intro hx hrll)))))))
  clear hst hsr et t0 tk ti r0 er tf hDt one hDr htr hv1 hv2 hm hx rf hrll hP1 hb1
  clear hS hl hr hi hn hn2 hxl hln hrl hk hkl hel
  have h0 : (fun w' : World => w'.heap[r.b]? = w1.heap[r.b]? ∧ w'.heap[t.b]? = w1.heap[t.b]? ∧ w'.heap[D]? = w1.heap[D]?) w1.drew := ⟨rfl, rfl, rfl⟩
  go_wp2_with fail
  refine wp_region_snoc_held2 (S := fun w' => w'.heap[r.b]? = w1.heap[r.b]? ∧ w'.heap[t.b]? = w1.heap[t.b]? ∧ w'.heap[D]? = w1.heap[D]?) (head := #[_, _, _, _, _, _, _, _, _, _, _, _, _, _, _, _]) (last := ⟨_, _, _, _, _, _⟩) mixed (by kernel_rfl) rfl ?_
  refine wpAnyH_take (i := 0) (oi := ⟨_, _, _, _, _, _⟩) (v := ?v1) rfl (by kernel_rfl) (by kernel_rfl) (by kernel_rfl) (fun _ _ _ h => h) (Or.inl ⟨by rfl, ?hy1⟩) h0 ?rest1
  case hy1 => (intro w hSw; (try dsimp only at hSw); go_simp; try with_reducible rfl)
  simp only [Act.put, List.setIfInBounds_toArray, List.set_cons_zero, List.set_cons_succ]
  refine wpAnyH_take (i := 1) (oi := ⟨_, _, _, _, _, _⟩) (v := ?v2) rfl (by kernel_rfl) (by kernel_rfl) (by kernel_rfl) (fun _ _ _ h => h) (Or.inl ⟨by rfl, ?hy2⟩) h0 ?rest2
  case hy2 => (intro w hSw; (try dsimp only at hSw); go_simp; try with_reducible rfl)
  simp only [Act.put, List.setIfInBounds_toArray, List.set_cons_zero, List.set_cons_succ]
  refine wpAnyH_take (i := 2) (oi := ⟨_, _, _, _, _, _⟩) (v := ?v3) rfl (by kernel_rfl) (by kernel_rfl) (by kernel_rfl) (fun _ _ _ h => h) (Or.inl ⟨by rfl, ?hy3⟩) h0 ?rest3
  case hy3 => (intro w hSw; (try dsimp only at hSw); go_simp; try with_reducible rfl)
  simp only [Act.put, List.setIfInBounds_toArray, List.set_cons_zero, List.set_cons_succ]
  refine wpAnyH_take (i := 3) (oi := ⟨_, _, _, _, _, _⟩) (v := ?v4) rfl (by kernel_rfl) (by kernel_rfl) (by kernel_rfl) (fun _ _ _ h => h) (Or.inl ⟨by rfl, ?hy4⟩) h0 ?rest4
  case hy4 => (intro w hSw; (try dsimp only at hSw); go_simp; try with_reducible rfl)
  simp only [Act.put, List.setIfInBounds_toArray, List.set_cons_zero, List.set_cons_succ]
  refine wpAnyH_take (i := 4) (oi := ⟨_, _, _, _, _, _⟩) (v := ?v5) rfl (by kernel_rfl) (by kernel_rfl) (by kernel_rfl) (fun _ _ _ h => h) (Or.inl ⟨by rfl, ?hy5⟩) h0 ?rest5
  case hy5 => (intro w hSw; (try dsimp only at hSw); go_simp; try with_reducible rfl)
  simp only [Act.put, List.setIfInBounds_toArray, List.set_cons_zero, List.set_cons_succ]
  refine wpAnyH_take (i := 5) (oi := ⟨_, _, _, _, _, _⟩) (v := ?v6) rfl (by kernel_rfl) (by kernel_rfl) (by kernel_rfl) (fun _ _ _ h => h) (Or.inl ⟨by rfl, ?hy6⟩) h0 ?rest6
  case hy6 => (intro w hSw; (try dsimp only at hSw); go_simp; try with_reducible rfl)
  simp only [Act.put, List.setIfInBounds_toArray, List.set_cons_zero, List.set_cons_succ]
  refine wpAnyH_take (i := 6) (oi := ⟨_, _, _, _, _, _⟩) (v := ?v7) rfl (by kernel_rfl) (by kernel_rfl) (by kernel_rfl) (fun _ _ _ h => h) (Or.inl ⟨by rfl, ?hy7⟩) h0 ?rest7
  case hy7 => (intro w hSw; (try dsimp only at hSw); go_simp; try with_reducible rfl)
  simp only [Act.put, List.setIfInBounds_toArray, List.set_cons_zero, List.set_cons_succ]
  refine wpAnyH_take (i := 7) (oi := ⟨_, _, _, _, _, _⟩) (v := ?v8) rfl (by kernel_rfl) (by kernel_rfl) (by kernel_rfl) (fun _ _ _ h => h) (Or.inl ⟨by rfl, ?hy8⟩) h0 ?rest8
  case hy8 => (intro w hSw; (try dsimp only at hSw); go_simp; try with_reducible rfl)
  simp only [Act.put, List.setIfInBounds_toArray, List.set_cons_zero, List.set_cons_succ]
  refine wpAnyH_take (i := 8) (oi := ⟨_, _, _, _, _, _⟩) (v := ?v9) rfl (by kernel_rfl) (by kernel_rfl) (by kernel_rfl) (fun _ _ _ h => h) (Or.inl ⟨by rfl, ?hy9⟩) h0 ?rest9
  case hy9 => (intro w hSw; (try dsimp only at hSw); go_simp; try with_reducible rfl)
  simp only [Act.put, List.setIfInBounds_toArray, List.set_cons_zero, List.set_cons_succ]
  refine wpAnyH_take (i := 9) (oi := ⟨_, _, _, _, _, _⟩) (v := ?v10) rfl (by kernel_rfl) (by kernel_rfl) (by kernel_rfl) (fun _ _ _ h => h) (Or.inl ⟨by rfl, ?hy10⟩) h0 ?rest10
  case hy10 => (intro w hSw; (try dsimp only at hSw); go_simp; try with_reducible rfl)
  simp only [Act.put, List.setIfInBounds_toArray, List.set_cons_zero, List.set_cons_succ]
  refine wpAnyH_take (i := 10) (oi := ⟨_, _, _, _, _, _⟩) (v := ?v11) rfl (by kernel_rfl) (by kernel_rfl) (by kernel_rfl) (fun _ _ _ h => h) (Or.inl ⟨by rfl, ?hy11⟩) h0 ?rest11
  case hy11 => (intro w hSw; (try dsimp only at hSw); go_simp; try with_reducible rfl)
  simp only [Act.put, List.setIfInBounds_toArray, List.set_cons_zero, List.set_cons_succ]
  refine wpAnyH_take (i := 11) (oi := ⟨_, _, _, _, _, _⟩) (v := ?v12) rfl (by kernel_rfl) (by kernel_rfl) (by kernel_rfl) (fun _ _ _ h => h) (Or.inl ⟨by rfl, ?hy12⟩) h0 ?rest12
  case hy12 => (intro w hSw; (try dsimp only at hSw); go_simp; try with_reducible rfl)
  simp only [Act.put, List.setIfInBounds_toArray, List.set_cons_zero, List.set_cons_succ]
  refine wpAnyH_ready (rs := [12]) (by kernel_rfl) (by simp) ?_
  refine AllReadyH.cons (o := ⟨_, _, _, _, _, _⟩) rfl (fun K hK => ?_) AllReadyH.nil
  go_simp
  have hb2 : Below w1.drew.heap.size w1.drew (w1.alloc (.cells #[.string mk, .int .i64 mi] 34)).drew := ((Below.refl _ _).alloc (Nat.le_refl _) _)
  have h2 : (w1.alloc (.cells #[.string mk, .int .i64 mi] 34)).drew.heap[r.b]? = w1.heap[r.b]? ∧ (w1.alloc (.cells #[.string mk, .int .i64 mi] 34)).drew.heap[t.b]? = w1.heap[t.b]? ∧ (w1.alloc (.cells #[.string mk, .int .i64 mi] 34)).drew.heap[D]? = w1.heap[D]? := ⟨hb2.block _ hbs.2.1, hb2.block _ hbs.1, hb2.block _ hbs.2.2⟩
  refine hK.out _ _ h2 (fun hHeld => ?_)
  clear hK K hHeld
  try simp only [Act.put, List.setIfInBounds_toArray, List.set_cons_zero, List.set_cons_succ]
  refine wpAnyH_ready (rs := [13]) (by kernel_rfl) (by simp) ?_
  refine AllReadyH.cons (o := ⟨_, _, _, _, _, _⟩) rfl (fun K hK => ?_) AllReadyH.nil
  go_simp
  refine (hins _ hb2 (heap_alloc_new w1 _)).mono ?_
  rintro e w3 ⟨a3, c3, rfl, hE3, hb3, hsz3, hk3⟩
  obtain ⟨hP1, et, hDr, htr, rf, -⟩ := G1.out
  have h3 : w3.heap[r.b]? = w1.heap[r.b]? ∧ w3.heap[t.b]? = w1.heap[t.b]? ∧ w3.heap[D]? = w1.heap[D]? := ⟨hb3, hk3 t.b hbs.1 htr, hk3 D hbs.2.2 hDr⟩
  have e0 := Q0 w3 h3
  have ez : ∀ j, w3.frozen? ⟨r.b, j, none⟩ = false := fun j => (World.frozen?_of_block (a := ⟨r.b, j, none⟩) h3.1).trans (rf j)
  have G2 := (show Hid _ from hE3)
  clear hb3 hsz3 hk3 hP1 et hDr htr rf hE3 hins
  refine hK.out _ _ h3 (fun hHeld => ?_)
  clear hK K hHeld
  try simp only [Act.put, List.setIfInBounds_toArray, List.set_cons_zero, List.set_cons_succ]
  refine wpAnyH_ready (rs := [14]) (by kernel_rfl) (by simp) ?_
  refine AllReadyH.cons (o := ⟨_, _, _, _, _, _⟩) rfl (fun K hK => ?_) AllReadyH.nil
  go_simp
  refine hK.out _ _ h3 (fun hHeld => ?_)
  clear hK K hHeld
  try simp only [Act.put, List.setIfInBounds_toArray, List.set_cons_zero, List.set_cons_succ]
  refine wpAnyH_ready (rs := [15]) (by kernel_rfl) (by simp) ?_
  refine AllReadyH.cons (o := ⟨_, _, _, _, _, _⟩) rfl (fun K hK => ?_) AllReadyH.nil
  go_simp
  refine hK.out _ _ h3 (fun hHeld => ?_)
  clear hK K hHeld
  try simp only [Act.put, List.setIfInBounds_toArray, List.set_cons_zero, List.set_cons_succ]
  refine wpAnyH_done (by kernel_rfl) ?_ _
  clear Q0 Q1 Q2 Q3 h0 h2 h3 hb2
  show Oper.wp _ _ _ _ _ _
  go_simp
  obtain ⟨W4, hW4⟩ : ∃ W4, w3.setCell ⟨r.b, 0, none⟩ (.slice a3 (rl + 1) c3) = W4 := ⟨_, rfl⟩
  rw [hW4]
  have hE3 := G2.out
  rw [hW4] at hE3
  clear hW4 e0 ez G2
  obtain ⟨hP1, et, hDr, htr, rf, hm, hx, hrll⟩ := G1.out
  obtain ⟨hS, hl, hr, hi, hn, hn2, hxl, hln, hrl, hk, hkl, hel⟩ := HH.out
  obtain ⟨r4, hr4⟩ : ∃ r4 : Nd, r4 = { r with s := .slice a3 (rl + 1) c3, es := r.es.take 0 ++ (mk, mi) :: r.es.drop 0 } := ⟨_, rfl⟩
  rw [← hr4] at hE3
  have hP4 : Stp w [t, l, r] W4 [t, l, r4] := hP1.trans (St.at (A := [t, l]) (D := []) hP1.st hE3)
  clear hP1 hE3 hDr htr rf hbs et
  obtain ⟨D, dc, et, hdc1, hdc2, t0, tk, ti, tf⟩ := (hP4.st.sh t (by simp)).entryv hm
  rw [hel] at et hdc1 t0
  obtain ⟨la, lc, -, -, ela, -, l0, -, lf⟩ := (hP4.st.sh l (by simp)).view
  rw [hxl] at ela l0
  obtain ⟨xk, xi⟩ := x
  have one := fun a => by have := hP4.st.one a; rw [ss_three] at this; exact this
  have htl : sc t.b l = 0 := by have h1 := one t.b; have := sc_b t; omega
  have hP4d : Stp w [t, l, r] W4.drew [t, l, r4] := hP4.trans (Stp.below hP4.st (Below.refl _ _).drew)
  have htake := takeE_any l ln (xk, xi) W4.drew (hP4d.st.sh l (by simp)) (hP4d.st.sc_one (by simp)) hx (by omega)
  have htb : t.b < W4.heap.size := lt_of_cell t0
  have Q0 := fun (w' : World) (h : w'.heap[t.b]? = W4.heap[t.b]?) => (World.cell?_of_block (a := ⟨t.b, 0, none⟩) h).trans t0
  have HZ2 : Hid (IntKind.i64.wrap (ln : Int) = (ln : Int)) := by unfold Hid; rw [IntKind.wrap_i64]; omega
  have hbl : t.b ≠ l.b := fun e => by have := sc_b l; rw [← e] at this; omega
  have G3 := (show Hid _ from And.intro hP4d (And.intro et (And.intro htl (And.intro hm (And.intro hx (And.intro hrll hr4))))))
  clear hP4 hP4d et t0 tk ti tf ela lf one htl hm hx hrll hr4
  clear hS hl hr hi hn hn2 hxl hln hrl hk hkl hel
  have h0 : (fun w' : World => w'.heap[t.b]? = W4.heap[t.b]?) W4.drew := rfl
  go_wp2_with fail
  refine wp_region_snoc_held2 (S := fun w' => w'.heap[t.b]? = W4.heap[t.b]?) (head := #[_, _, _, _, _, _, _, _, _, _, _, _, _, _, _, _]) (last := ⟨_, _, _, _, _, _⟩) mixed (by kernel_rfl) rfl ?_
  refine wpAnyH_take (i := 0) (oi := ⟨_, _, _, _, _, _⟩) (v := ?v13) rfl (by kernel_rfl) (by kernel_rfl) (by kernel_rfl) (fun _ _ _ h => h) (Or.inl ⟨by rfl, ?hy13⟩) h0 ?rest13
  case hy13 => (intro w hSw; (try dsimp only at hSw); go_simp; try with_reducible rfl)
  simp only [Act.put, List.setIfInBounds_toArray, List.set_cons_zero, List.set_cons_succ]
  refine wpAnyH_take (i := 1) (oi := ⟨_, _, _, _, _, _⟩) (v := ?v14) rfl (by kernel_rfl) (by kernel_rfl) (by kernel_rfl) (fun _ _ _ h => h) (Or.inl ⟨by rfl, ?hy14⟩) h0 ?rest14
  case hy14 => (intro w hSw; (try dsimp only at hSw); go_simp; try with_reducible rfl)
  simp only [Act.put, List.setIfInBounds_toArray, List.set_cons_zero, List.set_cons_succ]
  refine wpAnyH_take (i := 2) (oi := ⟨_, _, _, _, _, _⟩) (v := ?v15) rfl (by kernel_rfl) (by kernel_rfl) (by kernel_rfl) (fun _ _ _ h => h) (Or.inl ⟨by rfl, ?hy15⟩) h0 ?rest15
  case hy15 => (intro w hSw; (try dsimp only at hSw); go_simp; try with_reducible rfl)
  simp only [Act.put, List.setIfInBounds_toArray, List.set_cons_zero, List.set_cons_succ]
  refine wpAnyH_take (i := 3) (oi := ⟨_, _, _, _, _, _⟩) (v := ?v16) rfl (by kernel_rfl) (by kernel_rfl) (by kernel_rfl) (fun _ _ _ h => h) (Or.inl ⟨by rfl, ?hy16⟩) h0 ?rest16
  case hy16 => (intro w hSw; (try dsimp only at hSw); go_simp; try with_reducible rfl)
  simp only [Act.put, List.setIfInBounds_toArray, List.set_cons_zero, List.set_cons_succ]
  refine wpAnyH_take (i := 4) (oi := ⟨_, _, _, _, _, _⟩) (v := ?v17) rfl (by kernel_rfl) (by kernel_rfl) (by kernel_rfl) (fun _ _ _ h => h) (Or.inl ⟨by rfl, ?hy17⟩) h0 ?rest17
  case hy17 => (intro w hSw; (try dsimp only at hSw); go_simp; try with_reducible rfl)
  simp only [Act.put, List.setIfInBounds_toArray, List.set_cons_zero, List.set_cons_succ]
  refine wpAnyH_take (i := 5) (oi := ⟨_, _, _, _, _, _⟩) (v := ?v18) rfl (by kernel_rfl) (by kernel_rfl) (by kernel_rfl) (fun _ _ _ h => h) (Or.inl ⟨by rfl, ?hy18⟩) h0 ?rest18
  case hy18 => (intro w hSw; (try dsimp only at hSw); go_simp; try with_reducible rfl)
  simp only [Act.put, List.setIfInBounds_toArray, List.set_cons_zero, List.set_cons_succ]
  refine wpAnyH_take (i := 6) (oi := ⟨_, _, _, _, _, _⟩) (v := ?v19) rfl (by kernel_rfl) (by kernel_rfl) (by kernel_rfl) (fun _ _ _ h => h) (Or.inl ⟨by rfl, ?hy19⟩) h0 ?rest19
  case hy19 => (intro w hSw; (try dsimp only at hSw); go_simp; try with_reducible rfl)
  simp only [Act.put, List.setIfInBounds_toArray, List.set_cons_zero, List.set_cons_succ]
  refine wpAnyH_take (i := 7) (oi := ⟨_, _, _, _, _, _⟩) (v := ?v20) rfl (by kernel_rfl) (by kernel_rfl) (by kernel_rfl) (fun _ _ _ h => h) (Or.inl ⟨by rfl, ?hy20⟩) h0 ?rest20
  case hy20 => (intro w hSw; (try dsimp only at hSw); go_simp; try with_reducible rfl)
  simp only [Act.put, List.setIfInBounds_toArray, List.set_cons_zero, List.set_cons_succ]
  refine wpAnyH_take (i := 8) (oi := ⟨_, _, _, _, _, _⟩) (v := ?v21) rfl (by kernel_rfl) (by kernel_rfl) (by kernel_rfl) (fun _ _ _ h => h) (Or.inl ⟨by rfl, ?hy21⟩) h0 ?rest21
  case hy21 => (intro w hSw; (try dsimp only at hSw); go_simp; try with_reducible rfl)
  simp only [Act.put, List.setIfInBounds_toArray, List.set_cons_zero, List.set_cons_succ]
  refine wpAnyH_take (i := 9) (oi := ⟨_, _, _, _, _, _⟩) (v := ?v22) rfl (by kernel_rfl) (by kernel_rfl) (by kernel_rfl) (fun _ _ _ h => h) (Or.inl ⟨by rfl, ?hy22⟩) h0 ?rest22
  case hy22 => (intro w hSw; (try dsimp only at hSw); go_simp; try with_reducible rfl)
  simp only [Act.put, List.setIfInBounds_toArray, List.set_cons_zero, List.set_cons_succ]
  refine wpAnyH_take (i := 10) (oi := ⟨_, _, _, _, _, _⟩) (v := ?v23) rfl (by kernel_rfl) (by kernel_rfl) (by kernel_rfl) (fun _ _ _ h => h) (Or.inl ⟨by rfl, ?hy23⟩) h0 ?rest23
  case hy23 => (intro w hSw; (try dsimp only at hSw); go_simp; try with_reducible rfl)
  simp only [Act.put, List.setIfInBounds_toArray, List.set_cons_zero, List.set_cons_succ]
  refine wpAnyH_ready (rs := [11]) (by kernel_rfl) (by simp) ?_
  refine AllReadyH.cons (o := ⟨_, _, _, _, _, _⟩) rfl (fun K hK => ?_) AllReadyH.nil
  go_simp
  refine hK.out _ _ h0 (fun hHeld => ?_)
  clear hK K hHeld
  try simp only [Act.put, List.setIfInBounds_toArray, List.set_cons_zero, List.set_cons_succ]
  refine wpAnyH_ready (rs := [12]) (by kernel_rfl) (by simp) ?_
  refine AllReadyH.cons (o := ⟨_, _, _, _, _, _⟩) rfl (fun K hK => ?_) AllReadyH.nil
  go_simp
  refine hK.out _ _ h0 (fun hHeld => ?_)
  clear hK K hHeld
  try simp only [Act.put, List.setIfInBounds_toArray, List.set_cons_zero, List.set_cons_succ]
  have zln := HZ2.out
  refine wpAnyH_ready (rs := [13]) (by kernel_rfl) (by simp) ?_
  refine AllReadyH.cons (o := ⟨_, _, _, _, _, _⟩) rfl (fun K hK => ?_) AllReadyH.nil
  go_simp
  clear zln
  refine hK.out _ _ h0 (fun hHeld => ?_)
  clear hK K hHeld
  try simp only [Act.put, List.setIfInBounds_toArray, List.set_cons_zero, List.set_cons_succ]
  refine wpAnyH_ready (rs := [14]) (by kernel_rfl) (by simp) ?_
  refine AllReadyH.cons (o := ⟨_, _, _, _, _, _⟩) rfl (fun K hK => ?_) AllReadyH.nil
  go_simp
  refine htake.mono ?_
  rintro e w5 ⟨rfl, s5, hE5, ho5⟩
  obtain ⟨hP4d, et, htl, -⟩ := G3.out
  have h5 : w5.heap[t.b]? = W4.heap[t.b]? := hE5.chg.block t.b htb htl
  have G4 := (show Hid _ from And.intro hE5 ho5)
  clear hE5 ho5 hP4d et htl htake l0
  refine hK.out _ _ h5 (fun hHeld => ?_)
  clear hK K hHeld
  try simp only [Act.put, List.setIfInBounds_toArray, List.set_cons_zero, List.set_cons_succ]
  refine wpAnyH_ready (rs := [15]) (by kernel_rfl) (by simp) ?_
  refine AllReadyH.cons (o := ⟨_, _, _, _, _, _⟩) rfl (fun K hK => ?_) AllReadyH.nil
  go_simp
  refine hK.out _ _ h5 (fun hHeld => ?_)
  clear hK K hHeld
  try simp only [Act.put, List.setIfInBounds_toArray, List.set_cons_zero, List.set_cons_succ]
  refine wpAnyH_done (by kernel_rfl) ?_ _
  clear Q0 h0 h5
  obtain ⟨hP4d, et, htl, hm, hx, hrll, hr4⟩ := G3.out
  obtain ⟨hE5, ho5⟩ := G4.out
  obtain ⟨hS, hl, hr, hi, hn, hn2, hxl, hln, hrl, hk, hkl, hel⟩ := HH.out
  obtain ⟨l6, hl6⟩ : ∃ l6 : Nd, l6 = { l with s := s5, es := l.es.take ln ++ l.es.drop (ln + 1) } := ⟨_, rfl⟩
  rw [← hl6] at hE5
  have hP5 : Stp w [t, l, r] w5 [t, l6, r4] := hP4d.trans (St.at (A := [t]) (D := [r4]) hP4d.st hE5)
  obtain ⟨D2, dc2, et2, -, -, -, tk, ti, tf⟩ := (hP5.st.sh t (by simp)).entryv hm
  obtain ⟨rfl, -⟩ : D2 = D ∧ True := by
    rw [et] at et2
    simp only [Value.slice.injEq, Option.some.injEq, Addr.mk.injEq, and_true] at et2
    exact ⟨et2.1.symm, trivial⟩
  have hset := ev1_set (x := (xk, xi)) (hP5.st.sh t (by simp)) (hP5.st.sc_one (by simp)) (by rw [hel]; exact et) hm
  have G5 := (show Hid _ from And.intro hP5 (And.intro hset (And.intro hm (And.intro hx (And.intro hrll (And.intro hr4 (And.intro hl6 ho5)))))))
  clear hP4d et htl hm hx hrll hr4 hE5 ho5 hl6 hP5 et2 hset
  clear hS hl hr hi hn hn2 hxl hln hrl hk hkl hel
  show Oper.wp _ _ _ _ _ _
  go_simp
  obtain ⟨W7, hW7⟩ : ∃ W7, (w5.setCell ⟨D2, i * 2, none⟩ (.string xk)).setCell ⟨D2, i * 2 + 1, none⟩ (.int .i64 xi) = W7 := ⟨_, rfl⟩
  obtain ⟨hP5, hset, hm, hx, hrll, hr4, hl6, ho5⟩ := G5.out
  rw [hW7] at hset
  obtain ⟨t7, ht7⟩ : ∃ t7 : Nd, t7 = { t with es := t.es.set i (xk, xi) } := ⟨_, rfl⟩
  rw [← ht7] at hset
  have hP7 : Stp w [t, l, r] W7 [t7, l6, r4] := hP5.trans (St.at (A := []) (D := [l6, r4]) hP5.st hset)
  have hlf := leaf_any W7 (hP7.st.sh l6 (by simp))
  have h6k : l6.kids = l.kids := by rw [hl6]
  have h6b : l6.b = l.b := by rw [hl6]
  rw [h6b, h6k, HH.out.2.2.2.2.2.2.2.2.2.1.1, decide_eq_false (show ¬ lk + 1 = 0 by omega)] at hlf
  have G6 := (show Hid _ from And.intro hP7 (And.intro hm (And.intro hx (And.intro hr4 (And.intro hl6 (And.intro ht7 (And.intro h6k h6b)))))))
  clear hP5 hset hm hx hrll hr4 hl6 ho5 ht7 hP7 h6k h6b tk ti tf
  go_wp2_with fail
  refine hlf.mono ?_
  rintro e w7 ⟨rfl, rfl⟩
  clear hlf
  obtain ⟨hP7, hm, hx, hr4, hl6, ht7, h6k, h6b⟩ := G6.out
  obtain ⟨hS, hl, hr, hi, hn, hn2, hxl, hln, hrl, hk, hkl, hel⟩ := HH.out
  obtain ⟨hk1, hk2, hk3, hk4⟩ := hk
  obtain ⟨y, hy⟩ : ∃ y, l6.kids[lk]? = some y := ⟨_, List.getElem?_eq_getElem (by rw [h6k]; omega)⟩
  have h4k : r4.kids = r.kids := by rw [hr4]
  have h4b : r4.b = r.b := by rw [hr4]
  obtain ⟨-, -, ra4, rc4, -, er4, -, r40, rf4⟩ := (hP7.st.sh r4 (by simp)).view
  obtain ⟨-, -, la6, lc6, -, el6, -, l60, -⟩ := (hP7.st.sh l6 (by simp)).view
  rw [h6k, hk1, h6b] at l60
  obtain ⟨rk, hrk⟩ : ∃ rk, r.kids.length = rk := ⟨_, rfl⟩
  rw [h4k, hrk] at er4
  rw [h4k, hrk, h4b] at r40
  rw [h4b] at rf4
  have hP7d : Stp w [t, l, r] w7.drew [t7, l6, r4] := hP7.trans (Stp.below hP7.st (Below.refl _ _).drew)
  have htake := takeP_any l6 lk y w7.drew (hP7d.st.sh l6 (by simp)) (hP7d.st.sc_one (by simp)) hy (by rw [h6k]; omega) (by rw [h6k]; omega)
  rw [h6b] at htake
  have hrb : r.b < w7.heap.size := lt_of_cell r40
  have hrl6 : sc r.b l6 = 0 := by have h1 := hP7.st.one r.b; rw [ss_three] at h1; have := sc_b r4; rw [h4b] at this; omega
  have hbl6 : r.b ≠ l.b := fun e => by have := sc_b l6; rw [h6b, ← e] at this; omega
  have Q0 := fun (w' : World) (h : w'.heap[r.b]? = w7.heap[r.b]?) => (World.cell?_of_block (a := ⟨r.b, 1, none⟩) h).trans r40
  have HZ3 : Hid (IntKind.i64.wrap (lk : Int) = (lk : Int)) := by unfold Hid; rw [IntKind.wrap_i64]; omega
  have G7 := (show Hid _ from And.intro hP7d (And.intro er4 (And.intro hrl6 (And.intro h6k (And.intro h4k (And.intro h4b (And.intro hy (And.intro hrk rf4))))))))
  clear hP7 hm hx hr4 hl6 ht7 h6k h6b hk1 hk2 hk3 hk4 hy h4k h4b er4 r40 rf4 el6 hP7d hrl6 hrk
  clear hS hl hr hi hn hn2 hxl hln hrl hkl hel
  have h0 : (fun w' : World => w'.heap[r.b]? = w7.heap[r.b]?) w7.drew := rfl
  go_wp2_with fail
  refine wp_region_snoc_held2 (S := fun w' => w'.heap[r.b]? = w7.heap[r.b]?) (head := #[_, _, _, _, _, _, _, _, _, _, _, _, _, _, _, _, _, _, _]) (last := ⟨_, _, _, _, _, _⟩) mixed (by kernel_rfl) rfl ?_
  refine wpAnyH_take (i := 0) (oi := ⟨_, _, _, _, _, _⟩) (v := ?v24) rfl (by kernel_rfl) (by kernel_rfl) (by kernel_rfl) (fun _ _ _ h => h) (Or.inl ⟨by rfl, ?hy24⟩) h0 ?rest24
  case hy24 => (intro w hSw; (try dsimp only at hSw); go_simp; try with_reducible rfl)
  simp only [Act.put, List.setIfInBounds_toArray, List.set_cons_zero, List.set_cons_succ]
  refine wpAnyH_take (i := 1) (oi := ⟨_, _, _, _, _, _⟩) (v := ?v25) rfl (by kernel_rfl) (by kernel_rfl) (by kernel_rfl) (fun _ _ _ h => h) (Or.inl ⟨by rfl, ?hy25⟩) h0 ?rest25
  case hy25 => (intro w hSw; (try dsimp only at hSw); go_simp; try with_reducible rfl)
  simp only [Act.put, List.setIfInBounds_toArray, List.set_cons_zero, List.set_cons_succ]
  refine wpAnyH_take (i := 2) (oi := ⟨_, _, _, _, _, _⟩) (v := ?v26) rfl (by kernel_rfl) (by kernel_rfl) (by kernel_rfl) (fun _ _ _ h => h) (Or.inl ⟨by rfl, ?hy26⟩) h0 ?rest26
  case hy26 => (intro w hSw; (try dsimp only at hSw); go_simp; try with_reducible rfl)
  simp only [Act.put, List.setIfInBounds_toArray, List.set_cons_zero, List.set_cons_succ]
  refine wpAnyH_take (i := 3) (oi := ⟨_, _, _, _, _, _⟩) (v := ?v27) rfl (by kernel_rfl) (by kernel_rfl) (by kernel_rfl) (fun _ _ _ h => h) (Or.inl ⟨by rfl, ?hy27⟩) h0 ?rest27
  case hy27 => (intro w hSw; (try dsimp only at hSw); go_simp; try with_reducible rfl)
  simp only [Act.put, List.setIfInBounds_toArray, List.set_cons_zero, List.set_cons_succ]
  refine wpAnyH_take (i := 4) (oi := ⟨_, _, _, _, _, _⟩) (v := ?v28) rfl (by kernel_rfl) (by kernel_rfl) (by kernel_rfl) (fun _ _ _ h => h) (Or.inl ⟨by rfl, ?hy28⟩) h0 ?rest28
  case hy28 => (intro w hSw; (try dsimp only at hSw); go_simp; try with_reducible rfl)
  simp only [Act.put, List.setIfInBounds_toArray, List.set_cons_zero, List.set_cons_succ]
  refine wpAnyH_take (i := 5) (oi := ⟨_, _, _, _, _, _⟩) (v := ?v29) rfl (by kernel_rfl) (by kernel_rfl) (by kernel_rfl) (fun _ _ _ h => h) (Or.inl ⟨by rfl, ?hy29⟩) h0 ?rest29
  case hy29 => (intro w hSw; (try dsimp only at hSw); go_simp; try with_reducible rfl)
  simp only [Act.put, List.setIfInBounds_toArray, List.set_cons_zero, List.set_cons_succ]
  refine wpAnyH_take (i := 6) (oi := ⟨_, _, _, _, _, _⟩) (v := ?v30) rfl (by kernel_rfl) (by kernel_rfl) (by kernel_rfl) (fun _ _ _ h => h) (Or.inl ⟨by rfl, ?hy30⟩) h0 ?rest30
  case hy30 => (intro w hSw; (try dsimp only at hSw); go_simp; try with_reducible rfl)
  simp only [Act.put, List.setIfInBounds_toArray, List.set_cons_zero, List.set_cons_succ]
  refine wpAnyH_take (i := 7) (oi := ⟨_, _, _, _, _, _⟩) (v := ?v31) rfl (by kernel_rfl) (by kernel_rfl) (by kernel_rfl) (fun _ _ _ h => h) (Or.inl ⟨by rfl, ?hy31⟩) h0 ?rest31
  case hy31 => (intro w hSw; (try dsimp only at hSw); go_simp; try with_reducible rfl)
  simp only [Act.put, List.setIfInBounds_toArray, List.set_cons_zero, List.set_cons_succ]
  refine wpAnyH_take (i := 8) (oi := ⟨_, _, _, _, _, _⟩) (v := ?v32) rfl (by kernel_rfl) (by kernel_rfl) (by kernel_rfl) (fun _ _ _ h => h) (Or.inl ⟨by rfl, ?hy32⟩) h0 ?rest32
  case hy32 => (intro w hSw; (try dsimp only at hSw); go_simp; try with_reducible rfl)
  simp only [Act.put, List.setIfInBounds_toArray, List.set_cons_zero, List.set_cons_succ]
  refine wpAnyH_take (i := 9) (oi := ⟨_, _, _, _, _, _⟩) (v := ?v33) rfl (by kernel_rfl) (by kernel_rfl) (by kernel_rfl) (fun _ _ _ h => h) (Or.inl ⟨by rfl, ?hy33⟩) h0 ?rest33
  case hy33 => (intro w hSw; (try dsimp only at hSw); go_simp; try with_reducible rfl)
  simp only [Act.put, List.setIfInBounds_toArray, List.set_cons_zero, List.set_cons_succ]
  refine wpAnyH_take (i := 10) (oi := ⟨_, _, _, _, _, _⟩) (v := ?v34) rfl (by kernel_rfl) (by kernel_rfl) (by kernel_rfl) (fun _ _ _ h => h) (Or.inl ⟨by rfl, ?hy34⟩) h0 ?rest34
  case hy34 => (intro w hSw; (try dsimp only at hSw); go_simp; try with_reducible rfl)
  simp only [Act.put, List.setIfInBounds_toArray, List.set_cons_zero, List.set_cons_succ]
  refine wpAnyH_ready (rs := [11]) (by kernel_rfl) (by simp) ?_
  refine AllReadyH.cons (o := ⟨_, _, _, _, _, _⟩) rfl (fun K hK => ?_) AllReadyH.nil
  go_simp
  refine hK.out _ _ h0 (fun hHeld => ?_)
  clear hK K hHeld
  try simp only [Act.put, List.setIfInBounds_toArray, List.set_cons_zero, List.set_cons_succ]
  refine wpAnyH_ready (rs := [12]) (by kernel_rfl) (by simp) ?_
  refine AllReadyH.cons (o := ⟨_, _, _, _, _, _⟩) rfl (fun K hK => ?_) AllReadyH.nil
  go_simp
  refine hK.out _ _ h0 (fun hHeld => ?_)
  clear hK K hHeld
  try simp only [Act.put, List.setIfInBounds_toArray, List.set_cons_zero, List.set_cons_succ]
  have zlk := HZ3.out
  refine wpAnyH_ready (rs := [13]) (by kernel_rfl) (by simp) ?_
  refine AllReadyH.cons (o := ⟨_, _, _, _, _, _⟩) rfl (fun K hK => ?_) AllReadyH.nil
  go_simp
  clear zlk
  refine hK.out _ _ h0 (fun hHeld => ?_)
  clear hK K hHeld
  try simp only [Act.put, List.setIfInBounds_toArray, List.set_cons_zero, List.set_cons_succ]
  refine wpAnyH_ready (rs := [14]) (by kernel_rfl) (by simp) ?_
  refine AllReadyH.cons (o := ⟨_, _, _, _, _, _⟩) rfl (fun K hK => ?_) AllReadyH.nil
  go_simp
  refine htake.mono ?_
  rintro e w8 ⟨rfl, s8, hE8, ho8⟩
  obtain ⟨hP7d, er4, hrl6, h6k, h4k, h4b, hy, hrk, rf4⟩ := G7.out
  have h8 : w8.heap[r.b]? = w7.heap[r.b]? := hE8.chg.block r.b hrb hrl6
  obtain ⟨l8, hl8⟩ : ∃ l8 : Nd, l8 = { b := l.b, s := l6.s, k := s8, es := l6.es, kids := l6.kids.take lk ++ l6.kids.drop (lk + 1) } := ⟨_, rfl⟩
  rw [← hl8] at hE8
  have hP8 : Stp w [t, l, r] w8 [t7, l8, r4] := hP7d.trans (St.at (A := [t7]) (D := [r4]) hP7d.st hE8)
  have hrb8 : r.b < w8.heap.size := Nat.lt_of_lt_of_le hrb hE8.chg.size
  have hins := fun W1 hb hr => insP_any (w := w8) (W1 := W1) (t := r4) 0 w8.heap.size y (hP8.st.sh r4 (by simp)) (hP8.st.sc_one (by simp)) hb (Nat.le_refl _) hr (Nat.zero_le _) (by rw [h4k]; have := HH.out.2.2.2.2.2.2.2.2.2.1.2.2.2; omega)
  rw [er4, h4k, h4b, hrk] at hins
  have G8 := (show Hid _ from And.intro hP8 hl8)
  clear hP7d er4 hrl6 h6k h4k h4b hy hrk rf4 hE8 ho8 hl8 hP8 htake l60
  refine hK.out _ _ h8 (fun hHeld => ?_)
  clear hK K hHeld
  try simp only [Act.put, List.setIfInBounds_toArray, List.set_cons_zero, List.set_cons_succ]
  refine wpAnyH_ready (rs := [15]) (by kernel_rfl) (by simp) ?_
  refine AllReadyH.cons (o := ⟨_, _, _, _, _, _⟩) rfl (fun K hK => ?_) AllReadyH.nil
  go_simp
  have hb9 : Below w8.heap.size w8 (w8.alloc (.cells #[.pointer (some ⟨y.b, 0, none⟩)] 62)) := (Below.refl _ _).alloc (Nat.le_refl _) _
  have h9 : (w8.alloc (.cells #[.pointer (some ⟨y.b, 0, none⟩)] 62)).heap[r.b]? = w7.heap[r.b]? := (hb9.block r.b hrb8).trans h8
  refine hK.out _ _ h9 (fun hHeld => ?_)
  clear hK K hHeld
  try simp only [Act.put, List.setIfInBounds_toArray, List.set_cons_zero, List.set_cons_succ]
  refine wpAnyH_ready (rs := [16]) (by kernel_rfl) (by simp) ?_
  refine AllReadyH.cons (o := ⟨_, _, _, _, _, _⟩) rfl (fun K hK => ?_) AllReadyH.nil
  go_simp
  refine (hins _ hb9 (heap_alloc_new w8 _)).mono ?_
  rintro e w10 ⟨a10, c10, rfl, hE10, hb10, -⟩
  have h10 : w10.heap[r.b]? = w7.heap[r.b]? := hb10.trans h8
  have e0 := Q0 w10 h10
  have ez : ∀ j, w10.frozen? ⟨r.b, j, none⟩ = false := fun j => (World.frozen?_of_block (a := ⟨r.b, j, none⟩) h10).trans (G7.out.2.2.2.2.2.2.2.2 j)
  have G9 := (show Hid _ from hE10)
  clear hE10 hb10 hins hb9 h9
  refine hK.out _ _ h10 (fun hHeld => ?_)
  clear hK K hHeld
  try simp only [Act.put, List.setIfInBounds_toArray, List.set_cons_zero, List.set_cons_succ]
  refine wpAnyH_ready (rs := [17]) (by kernel_rfl) (by simp) ?_
  refine AllReadyH.cons (o := ⟨_, _, _, _, _, _⟩) rfl (fun K hK => ?_) AllReadyH.nil
  go_simp
  refine hK.out _ _ h10 (fun hHeld => ?_)
  clear hK K hHeld
  try simp only [Act.put, List.setIfInBounds_toArray, List.set_cons_zero, List.set_cons_succ]
  refine wpAnyH_ready (rs := [18]) (by kernel_rfl) (by simp) ?_
  refine AllReadyH.cons (o := ⟨_, _, _, _, _, _⟩) rfl (fun K hK => ?_) AllReadyH.nil
  go_simp
  refine hK.out _ _ h10 (fun hHeld => ?_)
  clear hK K hHeld
  try simp only [Act.put, List.setIfInBounds_toArray, List.set_cons_zero, List.set_cons_succ]
  refine wpAnyH_done (by kernel_rfl) ?_ _
  clear Q0 h0 h8 h10
  show Oper.wp _ _ _ _ _ _
  go_simp
  go_wp2
  obtain ⟨hP8, hl8⟩ := G8.out
  obtain ⟨hP7d, er4, hrl6, h6k, h4k, h4b, hy, hrk, rf4⟩ := G7.out
  obtain ⟨hP7, hm, hx, hr4, hl6, ht7, -⟩ := G6.out
  obtain ⟨hS, hl, hr, hi, hn, hn2, hxl, hln, hrl, hk, hkl, hel⟩ := HH.out
  have hfin : TurnR w t l r i (w10.setCell ⟨r.b, 1, none⟩ (.slice a10 (rk + 1) c10)) := by
    have hP10 := hP8.trans (St.at (A := [t7, l8]) (D := []) hP8.st G9.out)
    refine ⟨s5, s8, .slice a3 (rl + 1) c3, .slice a10 (rk + 1) c10, (mk, mi), (xk, xi), l.es.take ln, l.kids.take lk, y :: r.kids, hm, ?_, .inr ⟨y, ?_, rfl⟩, ?_⟩
    · conv => lhs; rw [split_at hx]
      rw [List.drop_of_length_le (by omega)]
    · rw [h6k] at hy
      conv => lhs; rw [split_at hy]
      rw [List.drop_of_length_le (by omega)]
    · rw [hl8, h6k, List.drop_of_length_le (show l.kids.length ≤ lk + 1 by omega), List.append_nil, ht7, hl6, hr4, List.drop_of_length_le (show l.es.length ≤ ln + 1 by omega), List.append_nil] at hP10
      exact hP10
  exact bodyPost_end (v := .tuple #[]) (by simp [results, Try.results52, go_sem]) rfl ⟨rfl, hfin⟩
end Go.Proofs.Ytoaekmighinmhaa
