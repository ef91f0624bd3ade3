/-
  join by its contract: no leaves. Conditions: as stated.
  split, turnRight, turnLeft, join, mend in a whole tree, by their contracts. Conditions: as stated.
-/
import Derived.Test.YtoaekmighinmhaaU11
import Derived.Test.YtoaekmighinmhaaU12
import Derived.Test.YtoaekmighinmhaaU13
import Derived.Test.YtoaekmighinmhaaU14
import Derived.Test.YtoaekmighinmhaaU15
import Derived.Test.YtoaekmighinmhaaU16
import Derived.Test.YtoaekmighinmhaaU17
namespace Go.Proofs.Ytoaekmighinmhaa
open Go.RowKit

set_option maxRecDepth 100000 in
set_option maxHeartbeats 8000000 in
theorem join_deep (t l r : Nd) (i : Nat) (w : World) (hS : St w [t, l, r]) (hl : t.kids[i]? = some l) (hr : t.kids[i + 1]? = some r) (hi : i < t.es.length) (hn : t.es.length ≤ 1000) (hn2 : t.kids.length ≤ 1000) (hxl : l.es.length ≤ 1000) (hln : 1 ≤ r.es.length) (hrl : r.es.length ≤ 1000) (hk : 1 ≤ r.kids.length ∧ r.kids.length ≤ 1000 ∧ l.kids.length ≤ 1000) :
    Calls Try.prog 54 #[.pointer (some ⟨t.b, 0, none⟩), .int .i64 i] w fun e w' => e = .returned (.tuple #[]) ∧ JoinV w t l r i w' := by
  have ht := hS.sh t (by simp)
  obtain ⟨B, d, hd1, hd2, c1, ck, cr⟩ := ht.kid2 hl hr
  have hik := (List.getElem?_eq_some_iff.1 hr).1
  have zi : (i : Int) < (t.kids.length : Int) := by omega
  obtain ⟨m, hm⟩ : ∃ m, t.es[i]? = some m := ⟨_, List.getElem?_eq_getElem hi⟩
  have htake0 := takeP_any t (i + 1) r w ht (hS.sc_one (by simp)) hr (by omega) (by omega)
  obtain ⟨kl, hkl⟩ : ∃ kl, t.kids.length = kl := ⟨_, rfl⟩
  obtain ⟨el, hel⟩ : ∃ el, t.es.length = el := ⟨_, rfl⟩
  have HZ : Hid (wrap64 ((i : Int) + 1) = (i : Int) + 1) := by unfold Hid wrap64; omega
  rw [hkl] at c1 hd1 zi
  have htbw := lt_of_cell c1
  have HH := (show Hid _ from And.intro hS (And.intro hl (And.intro hr (And.intro hi (And.intro hn (And.intro hn2 (And.intro hxl (And.intro hln (And.intro hrl (And.intro hk (And.intro hkl hel)))))))))))
  have HM := (show Hid _ from hm)
  clear ht hS hl hr hi hn hn2 hxl hln hrl hk hkl hel hik cr hm
  have zw := HZ.out
  go_enter Try.func54, Try.ntmps54
  go_wp2_with fail
  clear zw
  refine htake0.mono ?_
  rintro e w1 ⟨rfl, k1, hE1, ho1⟩
  obtain ⟨hS, hl, hr, hi, hn, hn2, hxl, hln, hrl, hk, hkl, hel⟩ := HH.out
  have hm := HM.out
  obtain ⟨t1, ht1⟩ : ∃ t1 : Nd, t1 = { t with k := k1, kids := t.kids.take (i + 1) ++ t.kids.drop (i + 1 + 1) } := ⟨_, rfl⟩
  rw [← ht1] at hE1
  have hP1 : Stp w [t, l, r] w1 [t1, l, r] := St.at (A := []) (D := [l, r]) hS hE1
  have hP1d : Stp w [t, l, r] w1.drew [t1, l, r] := hP1.trans (Stp.below hP1.st (Below.refl _ _).drew)
  have h1b : t1.b = t.b := by rw [ht1]
  have h1e : t1.es = t.es := by rw [ht1]
  obtain ⟨la, lc, -, -, er, -, r0, -, rf⟩ := (hP1.st.sh l (by simp)).view
  obtain ⟨ll, hll⟩ : ∃ ll, l.es.length = ll := ⟨_, rfl⟩
  rw [hll] at er r0
  have htake := takeE_any t1 i m w1.drew (hP1d.st.sh t1 (by simp)) (hP1d.st.sc_one (by simp)) (by rw [h1e]; exact hm) (by rw [h1e]; omega)
  rw [h1b] at htake
  obtain ⟨mk, mi⟩ := m
  have hlb : l.b < w1.heap.size := lt_of_cell r0
  have hlt : sc l.b t1 = 0 := by have h2 := hP1.st.one l.b; rw [ss_three] at h2; have := sc_b l; omega
  have hbl : t.b ≠ l.b := fun e => by have := sc_b t1; rw [h1b, e] at this; omega
  have Q0 := fun (w' : World) (h : w'.heap[l.b]? = w1.heap[l.b]?) => (World.cell?_of_block (a := ⟨l.b, 0, none⟩) h).trans r0
  have G1 := (show Hid _ from And.intro hP1d (And.intro h1b (And.intro h1e (And.intro er (And.intro rf (And.intro hlt (And.intro hll ht1)))))))
  clear hE1 ho1 hm hP1 hP1d h1b h1e er rf hlt hll ht1 r0 htake0 c1 ck
  clear hS hl hr hi hn hn2 hxl hln hrl hk hkl hel
  have h0 : (fun w' : World => w'.heap[l.b]? = w1.heap[l.b]?) w1.drew := rfl
  go_wp2_with fail
  refine wp_region_snoc_held2 (S := fun w' => w'.heap[l.b]? = w1.heap[l.b]?) (head := #[_, _, _, _, _, _, _, _, _, _, _, _, _, _]) (last := ⟨_, _, _, _, _, _⟩) mixed (by kernel_rfl) rfl ?_
  refine wpAnyH_take (i := 0) (oi := ⟨_, _, _, _, _, _⟩) (v := ?v1) rfl (by kernel_rfl) (by kernel_rfl) (by kernel_rfl) (fun _ _ _ h => h) (Or.inl ⟨by rfl, ?hy1⟩) h0 ?rest1
  case hy1 => (intro w hSw; (try dsimp only at hSw); go_simp; try with_reducible rfl)
  simp only [Act.put, List.setIfInBounds_toArray, List.set_cons_zero, List.set_cons_succ]
  refine wpAnyH_take (i := 1) (oi := ⟨_, _, _, _, _, _⟩) (v := ?v2) rfl (by kernel_rfl) (by kernel_rfl) (by kernel_rfl) (fun _ _ _ h => h) (Or.inl ⟨by rfl, ?hy2⟩) h0 ?rest2
  case hy2 => (intro w hSw; (try dsimp only at hSw); go_simp; try with_reducible rfl)
  simp only [Act.put, List.setIfInBounds_toArray, List.set_cons_zero, List.set_cons_succ]
  refine wpAnyH_take (i := 2) (oi := ⟨_, _, _, _, _, _⟩) (v := ?v3) rfl (by kernel_rfl) (by kernel_rfl) (by kernel_rfl) (fun _ _ _ h => h) (Or.inl ⟨by rfl, ?hy3⟩) h0 ?rest3
  case hy3 => (intro w hSw; (try dsimp only at hSw); go_simp; try with_reducible rfl)
  simp only [Act.put, List.setIfInBounds_toArray, List.set_cons_zero, List.set_cons_succ]
  refine wpAnyH_take (i := 3) (oi := ⟨_, _, _, _, _, _⟩) (v := ?v4) rfl (by kernel_rfl) (by kernel_rfl) (by kernel_rfl) (fun _ _ _ h => h) (Or.inl ⟨by rfl, ?hy4⟩) h0 ?rest4
  case hy4 => (intro w hSw; (try dsimp only at hSw); go_simp; try with_reducible rfl)
  simp only [Act.put, List.setIfInBounds_toArray, List.set_cons_zero, List.set_cons_succ]
  refine wpAnyH_take (i := 4) (oi := ⟨_, _, _, _, _, _⟩) (v := ?v5) rfl (by kernel_rfl) (by kernel_rfl) (by kernel_rfl) (fun _ _ _ h => h) (Or.inl ⟨by rfl, ?hy5⟩) h0 ?rest5
  case hy5 => (intro w hSw; (try dsimp only at hSw); go_simp; try with_reducible rfl)
  simp only [Act.put, List.setIfInBounds_toArray, List.set_cons_zero, List.set_cons_succ]
  refine wpAnyH_take (i := 5) (oi := ⟨_, _, _, _, _, _⟩) (v := ?v6) rfl (by kernel_rfl) (by kernel_rfl) (by kernel_rfl) (fun _ _ _ h => h) (Or.inl ⟨by rfl, ?hy6⟩) h0 ?rest6
  case hy6 => (intro w hSw; (try dsimp only at hSw); go_simp; try with_reducible rfl)
  simp only [Act.put, List.setIfInBounds_toArray, List.set_cons_zero, List.set_cons_succ]
  refine wpAnyH_take (i := 6) (oi := ⟨_, _, _, _, _, _⟩) (v := ?v7) rfl (by kernel_rfl) (by kernel_rfl) (by kernel_rfl) (fun _ _ _ h => h) (Or.inl ⟨by rfl, ?hy7⟩) h0 ?rest7
  case hy7 => (intro w hSw; (try dsimp only at hSw); go_simp; try with_reducible rfl)
  simp only [Act.put, List.setIfInBounds_toArray, List.set_cons_zero, List.set_cons_succ]
  refine wpAnyH_take (i := 7) (oi := ⟨_, _, _, _, _, _⟩) (v := ?v8) rfl (by kernel_rfl) (by kernel_rfl) (by kernel_rfl) (fun _ _ _ h => h) (Or.inl ⟨by rfl, ?hy8⟩) h0 ?rest8
  case hy8 => (intro w hSw; (try dsimp only at hSw); go_simp; try with_reducible rfl)
  simp only [Act.put, List.setIfInBounds_toArray, List.set_cons_zero, List.set_cons_succ]
  refine wpAnyH_take (i := 8) (oi := ⟨_, _, _, _, _, _⟩) (v := ?v9) rfl (by kernel_rfl) (by kernel_rfl) (by kernel_rfl) (fun _ _ _ h => h) (Or.inl ⟨by rfl, ?hy9⟩) h0 ?rest9
  case hy9 => (intro w hSw; (try dsimp only at hSw); go_simp; try with_reducible rfl)
  simp only [Act.put, List.setIfInBounds_toArray, List.set_cons_zero, List.set_cons_succ]
  refine wpAnyH_ready (rs := [9]) (by kernel_rfl) (by simp) ?_
  refine AllReadyH.cons (o := ⟨_, _, _, _, _, _⟩) rfl (fun K hK => ?_) AllReadyH.nil
  go_simp
  refine htake.mono ?_
  rintro e w2 ⟨rfl, s2, hE2, ho2⟩
  obtain ⟨hP1d, h1b, h1e, er, rf, hlt, hll, ht1⟩ := G1.out
  have h2 : w2.heap[l.b]? = w1.heap[l.b]? := hE2.chg.block l.b hlb hlt
  obtain ⟨t2, ht2⟩ : ∃ t2 : Nd, t2 = { b := t.b, s := s2, k := t1.k, es := t1.es.take i ++ t1.es.drop (i + 1), kids := t1.kids } := ⟨_, rfl⟩
  rw [← ht2] at hE2
  have hP2 : Stp w [t, l, r] w2 [t2, l, r] := hP1d.trans (St.at (A := []) (D := [l, r]) hP1d.st hE2)
  have hlb2 : l.b < w2.heap.size := Nat.lt_of_lt_of_le hlb hE2.chg.size
  have G2 := (show Hid _ from And.intro hP2 ht2)
  clear hP1d h1b h1e er rf hlt hll ht1 hE2 ho2 ht2 hP2 htake
  refine hK.out _ _ h2 (fun hHeld => ?_)
  clear hK K hHeld
  try simp only [Act.put, List.setIfInBounds_toArray, List.set_cons_zero, List.set_cons_succ]
  refine wpAnyH_ready (rs := [10]) (by kernel_rfl) (by simp) ?_
  refine AllReadyH.cons (o := ⟨_, _, _, _, _, _⟩) rfl (fun K hK => ?_) AllReadyH.nil
  go_simp
  have hb3 : Below w2.heap.size w2 (w2.alloc (.cells #[.string mk, .int .i64 mi] 34)) := (Below.refl _ _).alloc (Nat.le_refl _) _
  have h3 : (w2.alloc (.cells #[.string mk, .int .i64 mi] 34)).heap[l.b]? = w1.heap[l.b]? := (hb3.block l.b hlb2).trans h2
  refine hK.out _ _ h3 (fun hHeld => ?_)
  clear hK K hHeld
  try simp only [Act.put, List.setIfInBounds_toArray, List.set_cons_zero, List.set_cons_succ]
  obtain ⟨w3, hw3⟩ : ∃ w3, w2.alloc (.cells #[.string mk, .int .i64 mi] 34) = w3 := ⟨_, rfl⟩
  have hn3 : w3.heap[w2.heap.size]? = some (.cells #[.string mk, .int .i64 mi] 34 (0, 0)) := by rw [← hw3]; exact heap_alloc_new w2 _
  rw [hw3] at h3 hb3 ⊢
  obtain ⟨hP2, -⟩ := G2.out
  obtain ⟨-, -, -, er, rf, -, hll, -⟩ := G1.out
  have hl2 := hP2.st.sh l (by simp)
  have hown3 := own_keep (W' := w3) hl2.es fun a ha => hb3.block a (own_lt hl2.es ha)
  rw [er, hll] at hown3
  obtain ⟨i0, hi, hz0, hz1, hz2⟩ := info_parts infoE
  have hll2 : ll ≤ 1000 := by rw [← hll]; exact HH.out.2.2.2.2.2.2.1
  refine wpAnyH_ready (rs := [11]) (by kernel_rfl) (by simp) ?_
  refine AllReadyH.cons (o := ⟨_, _, _, _, _, _⟩) rfl (fun K hK => ?_) AllReadyH.nil
  refine step_append_lies _ rfl (.tmp 23) (.tmp 29) 25 rfl 0 34 i0 _ 2 24 Try.underlying25 hi hz0 hz1 hz2 rfl (by decide) _ ll (encEns l.es) (by simp [Act.eval]) hown3 ⟨w2.heap.size, 0, none⟩ 1 1 [.string mk, .int .i64 mi] (by simp [Act.eval]) rfl (World.news_of_block hn3) (by intro u hu; simp only [List.mem_cons, List.not_mem_nil, or_false] at hu; rcases hu with rfl | rfl <;> rfl) (by omega) (by unfold maxLen; omega) (by omega) (Nat.zero_le _) _ rfl ?_
  intro g cap w4 hown4 hgrow4 hlie4 hlt4
  have hEv := appE_ev (w := w2) (W1 := w3) (t := l) (l := [(mk, mi)]) (n := ll + 1) hl2 (hP2.st.sc_one (by simp)) hb3 (by rw [er]; exact hgrow4) (by rw [List.length_append, hll]; rfl) hown4 (by rw [er]; exact hlie4)
  have h4 : w4.heap[l.b]? = w1.heap[l.b]? := hEv.2.trans h2
  have e0 := Q0 w4 h4
  have ez : ∀ j, w4.frozen? ⟨l.b, j, none⟩ = false := fun j => (World.frozen?_of_block (a := ⟨l.b, j, none⟩) h4).trans (rf j)
  have G3 := (show Hid _ from hEv.1)
  clear hP2 er rf hll hl2 hown3 hi hz0 hz1 hz2 hll2 hown4 hgrow4 hlie4 hlt4 hEv hw3 hn3
  refine hK.out _ _ h4 (fun hHeld => ?_)
  clear hK K hHeld
  try simp only [Act.put, List.setIfInBounds_toArray, List.set_cons_zero, List.set_cons_succ]
  refine wpAnyH_ready (rs := [12]) (by kernel_rfl) (by simp) ?_
  refine AllReadyH.cons (o := ⟨_, _, _, _, _, _⟩) rfl (fun K hK => ?_) AllReadyH.nil
  go_simp
  refine hK.out _ _ h4 (fun hHeld => ?_)
  clear hK K hHeld
  try simp only [Act.put, List.setIfInBounds_toArray, List.set_cons_zero, List.set_cons_succ]
  refine wpAnyH_ready (rs := [13]) (by kernel_rfl) (by simp) ?_
  refine AllReadyH.cons (o := ⟨_, _, _, _, _, _⟩) rfl (fun K hK => ?_) AllReadyH.nil
  go_simp
  refine hK.out _ _ h4 (fun hHeld => ?_)
  clear hK K hHeld
  try simp only [Act.put, List.setIfInBounds_toArray, List.set_cons_zero, List.set_cons_succ]
  refine wpAnyH_done (by kernel_rfl) ?_ _
  clear Q0 h0 h2 h3 h4 hb3
  show Oper.wp _ _ _ _ _ _
  go_simp
  obtain ⟨W5, hW5⟩ : ∃ W5, w4.setCell ⟨l.b, 0, none⟩ (.slice (some ⟨g, 0, none⟩) (ll + 1) cap) = W5 := ⟨_, rfl⟩
  rw [hW5]
  have hE3 := G3.out
  rw [hW5] at hE3
  clear hW5 e0 ez G3
  obtain ⟨hP2, ht2⟩ := G2.out
  have hll := G1.out.2.2.2.2.2.2.1
  obtain ⟨hS, hl, hr, hi, hn, hn2, hxl, hln, hrl, hk, hkl, hel⟩ := HH.out
  obtain ⟨l5, hl5⟩ : ∃ l5 : Nd, l5 = { l with s := .slice (some ⟨g, 0, none⟩) (ll + 1) cap, es := l.es ++ [(mk, mi)] } := ⟨_, rfl⟩
  rw [← hl5] at hE3
  have hP5 : Stp w [t, l, r] W5 [t2, l5, r] := hP2.trans (St.at (A := [t2]) (D := [r]) hP2.st hE3)
  have hP5d : Stp w [t, l, r] W5.drew [t2, l5, r] := hP5.trans (Stp.below hP5.st (Below.refl _ _).drew)
  have h5b : l5.b = l.b := by rw [hl5]
  have h5e : l5.es.length = ll + 1 := by rw [hl5]; show (l.es ++ [(mk, mi)]).length = _; rw [List.length_append, hll]; rfl
  obtain ⟨la5, lc5, -, -, er5, -, r5, -, rf5⟩ := (hP5.st.sh l5 (by simp)).view
  rw [h5e] at er5
  rw [h5e, h5b] at r5
  rw [h5b] at rf5
  have hsr := hP5.st.sh r (by simp)
  obtain ⟨E, ec, eE, hec1, hec2, hecell, -⟩ := own_cells0 hsr.es (by omega)
  obtain ⟨rl, hrll⟩ : ∃ rl, r.es.length = rl := ⟨_, rfl⟩
  rw [hrll] at eE hec1
  have q0 : W5.cell? ⟨r.b, 0, none⟩ = some (.slice (some ⟨E, 0, none⟩) rl ec) := by rw [← eE]; simp [World.cell?, hsr.node]
  have hbs : l.b < W5.heap.size ∧ r.b < W5.heap.size := ⟨lt_of_cell r5, lt_of_cell q0⟩
  have Q0 := fun (w' : World) (h : w'.heap[l.b]? = W5.heap[l.b]? ∧ w'.heap[r.b]? = W5.heap[r.b]?) => (World.cell?_of_block (a := ⟨l.b, 0, none⟩) h.1).trans r5
  have Q1 := fun (w' : World) (h : w'.heap[l.b]? = W5.heap[l.b]? ∧ w'.heap[r.b]? = W5.heap[r.b]?) => (World.cell?_of_block (a := ⟨r.b, 0, none⟩) h.2).trans q0
  have hrv : vc r.b l5.s = 0 := by have h2 := hP5.st.one r.b; rw [ss_three] at h2; have := sc_b r; unfold sc at h2 this; omega
  rw [er5] at hrv
  have hrl2 : rl ≤ 1000 ∧ 1 ≤ rl ∧ ll ≤ 1000 := by omega
  have G5 := (show Hid _ from And.intro hP5d (And.intro h5b (And.intro h5e (And.intro er5 (And.intro rf5 (And.intro hecell (And.intro hrv (And.intro hrll (And.intro hl5 ht2)))))))))
  clear hP2 ht2 hll hl5 hE3 hP5 hP5d h5b h5e er5 rf5 r5 hsr hecell hrll eE q0 hrv
  clear hS hl hr hi hn hn2 hxl hln hrl hk hkl hel
  have h0 : (fun w' : World => w'.heap[l.b]? = W5.heap[l.b]? ∧ w'.heap[r.b]? = W5.heap[r.b]?) W5.drew := ⟨rfl, rfl⟩
  go_wp2_with fail
  refine wp_region_snoc_held2 (S := fun w' => w'.heap[l.b]? = W5.heap[l.b]? ∧ w'.heap[r.b]? = W5.heap[r.b]?) (head := #[_, _, _, _, _, _, _, _, _, _, _, _]) (last := ⟨_, _, _, _, _, _⟩) mixed (by kernel_rfl) rfl ?_
  refine wpAnyH_take (i := 0) (oi := ⟨_, _, _, _, _, _⟩) (v := ?v10) rfl (by kernel_rfl) (by kernel_rfl) (by kernel_rfl) (fun _ _ _ h => h) (Or.inl ⟨by rfl, ?hy10⟩) h0 ?rest10
  case hy10 => (intro w hSw; (try dsimp only at hSw); go_simp; try with_reducible rfl)
  simp only [Act.put, List.setIfInBounds_toArray, List.set_cons_zero, List.set_cons_succ]
  refine wpAnyH_take (i := 1) (oi := ⟨_, _, _, _, _, _⟩) (v := ?v11) rfl (by kernel_rfl) (by kernel_rfl) (by kernel_rfl) (fun _ _ _ h => h) (Or.inl ⟨by rfl, ?hy11⟩) h0 ?rest11
  case hy11 => (intro w hSw; (try dsimp only at hSw); go_simp; try with_reducible rfl)
  simp only [Act.put, List.setIfInBounds_toArray, List.set_cons_zero, List.set_cons_succ]
  refine wpAnyH_take (i := 2) (oi := ⟨_, _, _, _, _, _⟩) (v := ?v12) rfl (by kernel_rfl) (by kernel_rfl) (by kernel_rfl) (fun _ _ _ h => h) (Or.inl ⟨by rfl, ?hy12⟩) h0 ?rest12
  case hy12 => (intro w hSw; (try dsimp only at hSw); go_simp; try with_reducible rfl)
  simp only [Act.put, List.setIfInBounds_toArray, List.set_cons_zero, List.set_cons_succ]
  refine wpAnyH_take (i := 3) (oi := ⟨_, _, _, _, _, _⟩) (v := ?v13) rfl (by kernel_rfl) (by kernel_rfl) (by kernel_rfl) (fun _ _ _ h => h) (Or.inl ⟨by rfl, ?hy13⟩) h0 ?rest13
  case hy13 => (intro w hSw; (try dsimp only at hSw); go_simp; try with_reducible rfl)
  simp only [Act.put, List.setIfInBounds_toArray, List.set_cons_zero, List.set_cons_succ]
  refine wpAnyH_take (i := 4) (oi := ⟨_, _, _, _, _, _⟩) (v := ?v14) rfl (by kernel_rfl) (by kernel_rfl) (by kernel_rfl) (fun _ _ _ h => h) (Or.inl ⟨by rfl, ?hy14⟩) h0 ?rest14
  case hy14 => (intro w hSw; (try dsimp only at hSw); go_simp; try with_reducible rfl)
  simp only [Act.put, List.setIfInBounds_toArray, List.set_cons_zero, List.set_cons_succ]
  refine wpAnyH_take (i := 5) (oi := ⟨_, _, _, _, _, _⟩) (v := ?v15) rfl (by kernel_rfl) (by kernel_rfl) (by kernel_rfl) (fun _ _ _ h => h) (Or.inl ⟨by rfl, ?hy15⟩) h0 ?rest15
  case hy15 => (intro w hSw; (try dsimp only at hSw); go_simp; try with_reducible rfl)
  simp only [Act.put, List.setIfInBounds_toArray, List.set_cons_zero, List.set_cons_succ]
  refine wpAnyH_take (i := 6) (oi := ⟨_, _, _, _, _, _⟩) (v := ?v16) rfl (by kernel_rfl) (by kernel_rfl) (by kernel_rfl) (fun _ _ _ h => h) (Or.inl ⟨by rfl, ?hy16⟩) h0 ?rest16
  case hy16 => (intro w hSw; (try dsimp only at hSw); go_simp; try with_reducible rfl)
  simp only [Act.put, List.setIfInBounds_toArray, List.set_cons_zero, List.set_cons_succ]
  refine wpAnyH_take (i := 7) (oi := ⟨_, _, _, _, _, _⟩) (v := ?v17) rfl (by kernel_rfl) (by kernel_rfl) (by kernel_rfl) (fun _ _ _ h => h) (Or.inl ⟨by rfl, ?hy17⟩) h0 ?rest17
  case hy17 => (intro w hSw; (try dsimp only at hSw); go_simp; try with_reducible rfl)
  simp only [Act.put, List.setIfInBounds_toArray, List.set_cons_zero, List.set_cons_succ]
  refine wpAnyH_take (i := 8) (oi := ⟨_, _, _, _, _, _⟩) (v := ?v18) rfl (by kernel_rfl) (by kernel_rfl) (by kernel_rfl) (fun _ _ _ h => h) (Or.inl ⟨by rfl, ?hy18⟩) h0 ?rest18
  case hy18 => (intro w hSw; (try dsimp only at hSw); go_simp; try with_reducible rfl)
  simp only [Act.put, List.setIfInBounds_toArray, List.set_cons_zero, List.set_cons_succ]
  obtain ⟨hP5d, h5b, h5e, er5, rf5, hecell, hrv, hrll, -⟩ := G5.out
  have hl5s := hP5d.st.sh l5 (by simp)
  have hown5 := hl5s.es
  rw [h5e, er5] at hown5
  obtain ⟨i0, hi, hz0, hz1, hz2⟩ := info_parts infoE
  refine wpAnyH_ready (rs := [9]) (by kernel_rfl) (by simp) ?_
  refine AllReadyH.cons (o := ⟨_, _, _, _, _, _⟩) rfl (fun K hK => ?_) AllReadyH.nil
  refine step_append_lies _ rfl (.tmp 37) (.tmp 41) 25 rfl 0 34 i0 _ 2 24 Try.underlying25 hi hz0 hz1 hz2 rfl (by decide) _ (ll + 1) (encEns l5.es) (by simp [Act.eval]) hown5 ⟨E, 0, none⟩ rl ec (encEns r.es) (by simp [Act.eval]) (by rw [encEns_len, hrll]) (fun j u hj => by rw [Addr.add_lit, Nat.zero_add]; exact hecell j u hj) (encEns_one _) (by omega) (by unfold maxLen; omega) (by omega) (Nat.zero_le _) _ rfl ?_
  intro g6 cap6 w6 hown6 hgrow6 hlie6 hlt6
  have hEv := appE_ev (w := W5.drew) (W1 := W5.drew) (t := l5) (l := r.es) (n := ll + 1 + rl) hl5s (hP5d.st.sc_one (by simp)) (Below.refl _ _) (by rw [er5]; exact hgrow6) (by rw [List.length_append, h5e, hrll]) hown6 (by rw [er5]; exact hlie6)
  rw [h5b] at hEv
  have h6 : w6.heap[l.b]? = W5.heap[l.b]? ∧ w6.heap[r.b]? = W5.heap[r.b]? := ⟨hEv.2, hgrow6.block r.b hbs.2 (fun e => by have := vc_of e.symm; omega)⟩
  have e0 := Q0 w6 h6
  have ez : ∀ j, w6.frozen? ⟨l.b, j, none⟩ = false := fun j => (World.frozen?_of_block (a := ⟨l.b, j, none⟩) h6.1).trans (rf5 j)
  have G6 := (show Hid _ from hEv.1)
  clear hP5d h5b h5e er5 rf5 hecell hrv hrll hl5s hown5 hi hz0 hz1 hz2 hown6 hgrow6 hlie6 hlt6 hEv
  refine hK.out _ _ h6 (fun hHeld => ?_)
  clear hK K hHeld
  try simp only [Act.put, List.setIfInBounds_toArray, List.set_cons_zero, List.set_cons_succ]
  refine wpAnyH_ready (rs := [10]) (by kernel_rfl) (by simp) ?_
  refine AllReadyH.cons (o := ⟨_, _, _, _, _, _⟩) rfl (fun K hK => ?_) AllReadyH.nil
  go_simp
  refine hK.out _ _ h6 (fun hHeld => ?_)
  clear hK K hHeld
  try simp only [Act.put, List.setIfInBounds_toArray, List.set_cons_zero, List.set_cons_succ]
  refine wpAnyH_ready (rs := [11]) (by kernel_rfl) (by simp) ?_
  refine AllReadyH.cons (o := ⟨_, _, _, _, _, _⟩) rfl (fun K hK => ?_) AllReadyH.nil
  go_simp
  refine hK.out _ _ h6 (fun hHeld => ?_)
  clear hK K hHeld
  try simp only [Act.put, List.setIfInBounds_toArray, List.set_cons_zero, List.set_cons_succ]
  refine wpAnyH_done (by kernel_rfl) ?_ _
  clear Q0 Q1 h0 h6
  show Oper.wp _ _ _ _ _ _
  go_simp
  obtain ⟨W7, hW7⟩ : ∃ W7, w6.setCell ⟨l.b, 0, none⟩ (.slice (some ⟨g6, 0, none⟩) (ll + 1 + rl) cap6) = W7 := ⟨_, rfl⟩
  rw [hW7]
  have hE6 := G6.out
  rw [hW7] at hE6
  clear hW7 e0 ez G6
  obtain ⟨hP5d, h5b, h5e, er5, rf5, hecell, hrv, hrll, hl5, ht2⟩ := G5.out
  obtain ⟨hS, hl, hr, hi, hn, hn2, hxl, hln, hrl, hk, hkl, hel⟩ := HH.out
  obtain ⟨l7, hl7⟩ : ∃ l7 : Nd, l7 = { b := l.b, s := .slice (some ⟨g6, 0, none⟩) (ll + 1 + rl) cap6, k := l5.k, es := l5.es ++ r.es, kids := l5.kids } := ⟨_, rfl⟩
  rw [← hl7] at hE6
  have hP7 : Stp w [t, l, r] W7 [t2, l7, r] := hP5d.trans (St.at (A := [t2]) (D := [r]) hP5d.st hE6)
  have hP7d : Stp w [t, l, r] W7.drew [t2, l7, r] := hP7.trans (Stp.below hP7.st (Below.refl _ _).drew)
  have h7b : l7.b = l.b := by rw [hl7]
  have h7k : l7.kids = l.kids := by rw [hl7]; show l5.kids = _; rw [hl5]
  obtain ⟨-, -, lb7, lc7, -, er7, -, r7, rf7⟩ := (hP7.st.sh l7 (by simp)).view
  rw [h7b] at r7 rf7
  obtain ⟨hk1, hk2, hk3⟩ := hk
  obtain ⟨lk, hlk⟩ : ∃ lk, l.kids.length = lk := ⟨_, rfl⟩
  rw [h7k, hlk] at er7 r7
  have hsr := hP7.st.sh r (by simp)
  obtain ⟨F, fc, eF, hfc1, hfc2, hfcell, -⟩ := own_cells0 hsr.ks (by omega)
  obtain ⟨rk, hrk⟩ : ∃ rk, r.kids.length = rk := ⟨_, rfl⟩
  rw [hrk] at eF hfc1
  have q7 : W7.cell? ⟨r.b, 1, none⟩ = some (.slice (some ⟨F, 0, none⟩) rk fc) := by rw [← eF]; simp [World.cell?, hsr.node]
  have hbs7 : l.b < W7.heap.size ∧ r.b < W7.heap.size := ⟨lt_of_cell r7, lt_of_cell q7⟩
  have Q0 := fun (w' : World) (h : w'.heap[l.b]? = W7.heap[l.b]? ∧ w'.heap[r.b]? = W7.heap[r.b]?) => (World.cell?_of_block (a := ⟨l.b, 1, none⟩) h.1).trans r7
  have Q1 := fun (w' : World) (h : w'.heap[l.b]? = W7.heap[l.b]? ∧ w'.heap[r.b]? = W7.heap[r.b]?) => (World.cell?_of_block (a := ⟨r.b, 1, none⟩) h.2).trans q7
  have hrv7 : vc r.b l7.k = 0 := by have h2 := hP7.st.one r.b; rw [ss_three] at h2; have := sc_b r; unfold sc at h2 this; omega
  rw [er7] at hrv7
  have hrk2 : rk ≤ 1000 ∧ 1 ≤ rk ∧ lk ≤ 1000 := by omega
  have G7 := (show Hid _ from And.intro hP7d (And.intro hl7 (And.intro hl5 (And.intro ht2 (And.intro h7b (And.intro h7k (And.intro er7 (And.intro rf7 (And.intro hfcell (And.intro hrv7 (And.intro hrk hlk)))))))))))
  clear hP5d h5b h5e er5 rf5 hecell hrv hrll hl5 ht2 hE6 hl7 hP7 hP7d h7b h7k er7 r7 rf7 hsr eF q7 hfcell hrv7 hrk hlk hk1 hk2 hk3
  clear hS hl hr hi hn hn2 hxl hln hrl hkl hel
  have h0 : (fun w' : World => w'.heap[l.b]? = W7.heap[l.b]? ∧ w'.heap[r.b]? = W7.heap[r.b]?) W7.drew := ⟨rfl, rfl⟩
  go_wp2_with fail
  refine wp_region_snoc_held2 (S := fun w' => w'.heap[l.b]? = W7.heap[l.b]? ∧ w'.heap[r.b]? = W7.heap[r.b]?) (head := #[_, _, _, _, _, _, _, _, _, _, _, _]) (last := ⟨_, _, _, _, _, _⟩) mixed (by kernel_rfl) rfl ?_
  refine wpAnyH_take (i := 0) (oi := ⟨_, _, _, _, _, _⟩) (v := ?v19) rfl (by kernel_rfl) (by kernel_rfl) (by kernel_rfl) (fun _ _ _ h => h) (Or.inl ⟨by rfl, ?hy19⟩) h0 ?rest19
  case hy19 => (intro w hSw; (try dsimp only at hSw); go_simp; try with_reducible rfl)
  simp only [Act.put, List.setIfInBounds_toArray, List.set_cons_zero, List.set_cons_succ]
  refine wpAnyH_take (i := 1) (oi := ⟨_, _, _, _, _, _⟩) (v := ?v20) rfl (by kernel_rfl) (by kernel_rfl) (by kernel_rfl) (fun _ _ _ h => h) (Or.inl ⟨by rfl, ?hy20⟩) h0 ?rest20
  case hy20 => (intro w hSw; (try dsimp only at hSw); go_simp; try with_reducible rfl)
  simp only [Act.put, List.setIfInBounds_toArray, List.set_cons_zero, List.set_cons_succ]
  refine wpAnyH_take (i := 2) (oi := ⟨_, _, _, _, _, _⟩) (v := ?v21) rfl (by kernel_rfl) (by kernel_rfl) (by kernel_rfl) (fun _ _ _ h => h) (Or.inl ⟨by rfl, ?hy21⟩) h0 ?rest21
  case hy21 => (intro w hSw; (try dsimp only at hSw); go_simp; try with_reducible rfl)
  simp only [Act.put, List.setIfInBounds_toArray, List.set_cons_zero, List.set_cons_succ]
  refine wpAnyH_take (i := 3) (oi := ⟨_, _, _, _, _, _⟩) (v := ?v22) rfl (by kernel_rfl) (by kernel_rfl) (by kernel_rfl) (fun _ _ _ h => h) (Or.inl ⟨by rfl, ?hy22⟩) h0 ?rest22
  case hy22 => (intro w hSw; (try dsimp only at hSw); go_simp; try with_reducible rfl)
  simp only [Act.put, List.setIfInBounds_toArray, List.set_cons_zero, List.set_cons_succ]
  refine wpAnyH_take (i := 4) (oi := ⟨_, _, _, _, _, _⟩) (v := ?v23) rfl (by kernel_rfl) (by kernel_rfl) (by kernel_rfl) (fun _ _ _ h => h) (Or.inl ⟨by rfl, ?hy23⟩) h0 ?rest23
  case hy23 => (intro w hSw; (try dsimp only at hSw); go_simp; try with_reducible rfl)
  simp only [Act.put, List.setIfInBounds_toArray, List.set_cons_zero, List.set_cons_succ]
  refine wpAnyH_take (i := 5) (oi := ⟨_, _, _, _, _, _⟩) (v := ?v24) rfl (by kernel_rfl) (by kernel_rfl) (by kernel_rfl) (fun _ _ _ h => h) (Or.inl ⟨by rfl, ?hy24⟩) h0 ?rest24
  case hy24 => (intro w hSw; (try dsimp only at hSw); go_simp; try with_reducible rfl)
  simp only [Act.put, List.setIfInBounds_toArray, List.set_cons_zero, List.set_cons_succ]
  refine wpAnyH_take (i := 6) (oi := ⟨_, _, _, _, _, _⟩) (v := ?v25) rfl (by kernel_rfl) (by kernel_rfl) (by kernel_rfl) (fun _ _ _ h => h) (Or.inl ⟨by rfl, ?hy25⟩) h0 ?rest25
  case hy25 => (intro w hSw; (try dsimp only at hSw); go_simp; try with_reducible rfl)
  simp only [Act.put, List.setIfInBounds_toArray, List.set_cons_zero, List.set_cons_succ]
  refine wpAnyH_take (i := 7) (oi := ⟨_, _, _, _, _, _⟩) (v := ?v26) rfl (by kernel_rfl) (by kernel_rfl) (by kernel_rfl) (fun _ _ _ h => h) (Or.inl ⟨by rfl, ?hy26⟩) h0 ?rest26
  case hy26 => (intro w hSw; (try dsimp only at hSw); go_simp; try with_reducible rfl)
  simp only [Act.put, List.setIfInBounds_toArray, List.set_cons_zero, List.set_cons_succ]
  refine wpAnyH_take (i := 8) (oi := ⟨_, _, _, _, _, _⟩) (v := ?v27) rfl (by kernel_rfl) (by kernel_rfl) (by kernel_rfl) (fun _ _ _ h => h) (Or.inl ⟨by rfl, ?hy27⟩) h0 ?rest27
  case hy27 => (intro w hSw; (try dsimp only at hSw); go_simp; try with_reducible rfl)
  simp only [Act.put, List.setIfInBounds_toArray, List.set_cons_zero, List.set_cons_succ]
  obtain ⟨hP7d, hl7, hl5, ht2, h7b, h7k, er7, rf7, hfcell, hrv7, hrk, hlk⟩ := G7.out
  have hl7s := hP7d.st.sh l7 (by simp)
  have hown7 := hl7s.ks
  rw [er7, h7k, hlk] at hown7
  obtain ⟨i1, hi1, hy0, hy1, hy2⟩ := info_parts infoP
  refine wpAnyH_ready (rs := [9]) (by kernel_rfl) (by simp) ?_
  refine AllReadyH.cons (o := ⟨_, _, _, _, _, _⟩) rfl (fun K hK => ?_) AllReadyH.nil
  refine step_append_lies _ rfl (.tmp 49) (.tmp 53) 67 rfl 0 62 i1 _ 1 8 Try.underlying67 hi1 hy0 hy1 hy2 rfl (by decide) _ lk (encPs (l.kids.map Nd.b)) (by simp [Act.eval]) hown7 ⟨F, 0, none⟩ rk fc (encPs (r.kids.map Nd.b)) (by simp [Act.eval]) (by rw [encPs_len, List.length_map, hrk, Nat.mul_one]) (fun j u hj => by rw [Addr.add_lit, Nat.zero_add]; exact hfcell j u hj) (encPs_one _) (by omega) (by unfold maxLen; omega) (by omega) (Nat.zero_le _) _ rfl ?_
  intro g8 cap8 w8 hown8 hgrow8 hlie8 hlt8
  have hEv := appP_ev (w := W7.drew) (W1 := W7.drew) (t := l7) (l := r.kids) (n := lk + rk) hl7s (hP7d.st.sc_one (by simp)) (Below.refl _ _) (by rw [er7]; exact hgrow8) (by rw [List.length_append, h7k, hlk, hrk]) (by omega) (by rw [h7k]; exact hown8) (by rw [er7]; exact hlie8)
  rw [h7b, h7k] at hEv
  have h8 : w8.heap[l.b]? = W7.heap[l.b]? ∧ w8.heap[r.b]? = W7.heap[r.b]? := ⟨hEv.2, hgrow8.block r.b hbs7.2 (fun e => by have := vc_of e.symm; omega)⟩
  have e0 := Q0 w8 h8
  have ez : ∀ j, w8.frozen? ⟨l.b, j, none⟩ = false := fun j => (World.frozen?_of_block (a := ⟨l.b, j, none⟩) h8.1).trans (rf7 j)
  have G8 := (show Hid _ from hEv.1)
  clear hP7d hl7 hl5 ht2 h7b h7k er7 rf7 hfcell hrv7 hrk hlk hl7s hown7 hi1 hy0 hy1 hy2 hown8 hgrow8 hlie8 hlt8 hEv
  refine hK.out _ _ h8 (fun hHeld => ?_)
  clear hK K hHeld
  try simp only [Act.put, List.setIfInBounds_toArray, List.set_cons_zero, List.set_cons_succ]
  refine wpAnyH_ready (rs := [10]) (by kernel_rfl) (by simp) ?_
  refine AllReadyH.cons (o := ⟨_, _, _, _, _, _⟩) rfl (fun K hK => ?_) AllReadyH.nil
  go_simp
  refine hK.out _ _ h8 (fun hHeld => ?_)
  clear hK K hHeld
  try simp only [Act.put, List.setIfInBounds_toArray, List.set_cons_zero, List.set_cons_succ]
  refine wpAnyH_ready (rs := [11]) (by kernel_rfl) (by simp) ?_
  refine AllReadyH.cons (o := ⟨_, _, _, _, _, _⟩) rfl (fun K hK => ?_) AllReadyH.nil
  go_simp
  refine hK.out _ _ h8 (fun hHeld => ?_)
  clear hK K hHeld
  try simp only [Act.put, List.setIfInBounds_toArray, List.set_cons_zero, List.set_cons_succ]
  refine wpAnyH_done (by kernel_rfl) ?_ _
  clear Q0 Q1 h0 h8
  show Oper.wp _ _ _ _ _ _
  go_simp
  go_wp2
  obtain ⟨hP7d, hl7, hl5, ht2, h7b, h7k, er7, rf7, hfcell, hrv7, hrk, hlk⟩ := G7.out
  obtain ⟨hS, hl, hr, hi, hn, hn2, hxl, hln, hrl, hk, hkl, hel⟩ := HH.out
  have hfin : JoinV w t l r i (w8.setCell ⟨l.b, 1, none⟩ (.slice (some ⟨g8, 0, none⟩) (lk + rk) cap8)) := by
    have hP9 := (hP7d.trans (St.at (A := [t2]) (D := [r]) hP7d.st G8.out)).two
    have hm := HM.out
    have ht1 := G1.out.2.2.2.2.2.2.2
    refine ⟨s2, k1, .slice (some ⟨g6, 0, none⟩) (ll + 1 + rl) cap6, .slice (some ⟨g8, 0, none⟩) (lk + rk) cap8, (mk, mi), hm, ?_⟩
    rw [ht2, ht1, hl7, hl5] at hP9
    exact hP9
  exact bodyPost_end (v := .tuple #[]) (by simp [results, Try.results54, go_sem]) rfl ⟨rfl, hfin⟩
end Go.Proofs.Ytoaekmighinmhaa

namespace Go.Proofs.Ytoaekmighinmhaa
open Go.RowKit

section
variable {n i : Nat} {w : World} {t l r c : Nd}
theorem WfX.mono {P Q : Nat → Prop} (h : WfX n t P) (hpq : ∀ j, P j → Q j) : WfX n t Q := ⟨h.1, fun j k hk => ⟨(h.2 j k hk).1, fun hq => (h.2 j k hk).2 fun hp => hq (hpq j hp)⟩⟩
theorem own_kid (h : Own (n + 1) w t) (hk : t.kids[i]? = some c) : Own n w c := by
  refine ⟨h.1.2.2 c (List.mem_of_getElem? hk), fun a => ?_⟩
  have h1 := h.2 a
  have h2 := le_sum (tc n a) (List.mem_of_getElem? hk)
  have h3 : tc (n + 1) a t = sc a t + (t.kids.map (tc n a)).sum := rfl
  omega
theorem Again.same {w' : World} {lo hi : Nat} (h : Own (n + 1) w t) (hw : WfN (n + 1) t) (hb : Below w.heap.size w w') (h1 : lo ≤ t.es.length) (h2 : t.es.length ≤ hi) : Again n w t w' lo hi := ⟨t, Evo.below h hb, hw, rfl, h1, h2⟩
theorem Again.wide {w' : World} {lo hi lo' hi' : Nat} (h : Again n w t w' lo hi) (h1 : lo' ≤ lo) (h2 : hi ≤ hi') : Again n w t w' lo' hi' := by
  obtain ⟨t', e1, e2, e3, e4, e5⟩ := h
  exact ⟨t', e1, e2, e3, Nat.le_trans h1 e4, Nat.le_trans e5 h2⟩
theorem wf_all (hx : WfX n t (fun j => j = i)) (hc : t.kids[i]? = some c) (h1 : 2 ≤ c.es.length ∧ c.es.length ≤ 4) : WfN (n + 1) t := by
  refine ⟨hx.1, fun k hk => ?_⟩
  obtain ⟨j, hj⟩ := mem_get hk
  by_cases e : j = i
  · subst e
    rw [hc] at hj
    cases hj
    exact ⟨(hx.2 j _ hc).1, h1⟩
  · exact ⟨(hx.2 j k hj).1, (hx.2 j k hj).2 e⟩
theorem splitN_any (h : Own (n + 1) w t) (hx : WfX n t (fun j => j = i)) (hc : t.kids[i]? = some c) (h1 : 2 ≤ c.es.length ∧ c.es.length ≤ 5) (ht : t.es.length ≤ 4) :
    Calls Try.prog 35 #[.pointer (some ⟨t.b, 0, none⟩), .int .i64 i] w fun e w' => e = .returned (.tuple #[]) ∧ Again n w t w' t.es.length (t.es.length + 1) := by
  have hi := (List.getElem?_eq_some_iff.1 hc).1
  have hx1 := hx.1
  have hk : t.kids = t.kids.take i ++ [c] ++ t.kids.drop (i + 1) := by
    conv => lhs; rw [split_at hc]
    simp
  have hS : St w [t, c] := own_st h hk
  by_cases h5 : c.es.length ≤ 4
  · refine (split_none t c i w hS hc h5 (by omega)).mono ?_
    rintro e w' ⟨rfl, rfl⟩
    exact ⟨rfl, Again.same h (wf_all hx hc ⟨h1.1, h5⟩) (Below.refl _ _) (Nat.le_refl _) (Nat.le_succ _)⟩
  · have h5 : c.es.length = 5 := by omega
    cases n with
    | zero =>
      refine (split_leaf t c i w hS hc h5 (hx.2 i c hc).1 (by omega) (by omega) (by omega)).mono ?_
      rintro e w' ⟨rfl, hv⟩
      exact ⟨rfl, (lift_split h hx hc h5 hv).wide (Nat.le_succ _) (Nat.le_refl _)⟩
    | succ n =>
      refine (split_deep t c i w hS hc h5 (by have := (hx.2 i c hc).1.1; omega) (by omega) (by omega) (by omega)).mono ?_
      rintro e w' ⟨rfl, hv⟩
      exact ⟨rfl, (lift_split h hx hc h5 hv).wide (Nat.le_succ _) (Nat.le_refl _)⟩
theorem turnRN_any (h : Own (n + 1) w t) (hx : WfX n t (fun j => j = i + 1)) (hl : t.kids[i]? = some l) (hr : t.kids[i + 1]? = some r) (h1 : 3 ≤ l.es.length) (h2 : r.es.length = 1) (ht : t.es.length ≤ 4) :
    Calls Try.prog 52 #[.pointer (some ⟨t.b, 0, none⟩), .int .i64 i] w fun e w' => e = .returned (.tuple #[]) ∧ Again n w t w' t.es.length t.es.length := by
  have hi := (List.getElem?_eq_some_iff.1 hr).1
  have hx1 := hx.1
  have hS : St w [t, l, r] := own_st h (two_at hl hr)
  have h4 := ((hx.2 i l hl).2 (show ¬ i = i + 1 by omega)).2
  have hx2 := hx.mono (Q := fun j => j = i ∨ j = i + 1) fun j hj => .inr hj
  cases n with
  | zero =>
    refine (turnRight_leaf t l r i (l.es.length - 1) 0 w hS hl hr (by omega) (by omega) (by omega) (by omega) (by omega) (by omega) ⟨(hx.2 i l hl).1, (hx.2 (i + 1) r hr).1⟩).mono ?_
    rintro e w' ⟨rfl, hv⟩
    exact ⟨rfl, lift_right h hx2 hl hr ⟨h1, h4⟩ h2 hv⟩
  | succ n =>
    have e1 := (hx.2 i l hl).1.1
    have e2 := (hx.2 (i + 1) r hr).1.1
    refine (turnRight_deep t l r i (l.es.length - 1) l.es.length w hS hl hr (by omega) (by omega) (by omega) (by omega) (by omega) (by omega) ⟨e1, by omega, by omega, by omega⟩).mono ?_
    rintro e w' ⟨rfl, hv⟩
    exact ⟨rfl, lift_right h hx2 hl hr ⟨h1, h4⟩ h2 hv⟩
theorem turnLN_any (h : Own (n + 1) w t) (hx : WfX n t (fun j => j = i)) (hl : t.kids[i]? = some l) (hr : t.kids[i + 1]? = some r) (h1 : l.es.length = 1) (h2 : 3 ≤ r.es.length) (ht : t.es.length ≤ 4) :
    Calls Try.prog 53 #[.pointer (some ⟨t.b, 0, none⟩), .int .i64 i] w fun e w' => e = .returned (.tuple #[]) ∧ Again n w t w' t.es.length t.es.length := by
  have hi := (List.getElem?_eq_some_iff.1 hr).1
  have hx1 := hx.1
  have hS : St w [t, l, r] := own_st h (two_at hl hr)
  have h4 := ((hx.2 (i + 1) r hr).2 (show ¬ i + 1 = i by omega)).2
  have hx2 := hx.mono (Q := fun j => j = i ∨ j = i + 1) fun j hj => .inl hj
  cases n with
  | zero =>
    refine (turnLeft_leaf t l r i (r.es.length - 1) 0 w hS hl hr (by omega) (by omega) (by omega) (by omega) (by omega) (by omega) ⟨(hx.2 i l hl).1, (hx.2 (i + 1) r hr).1⟩).mono ?_
    rintro e w' ⟨rfl, hv⟩
    exact ⟨rfl, lift_left h hx2 hl hr h1 ⟨h2, h4⟩ hv⟩
  | succ n =>
    have e1 := (hx.2 i l hl).1.1
    have e2 := (hx.2 (i + 1) r hr).1.1
    refine (turnLeft_deep t l r i (r.es.length - 1) r.es.length w hS hl hr (by omega) (by omega) (by omega) (by omega) (by omega) (by omega) ⟨e2, by omega, by omega, by omega⟩).mono ?_
    rintro e w' ⟨rfl, hv⟩
    exact ⟨rfl, lift_left h hx2 hl hr h1 ⟨h2, h4⟩ hv⟩
theorem joinN_any (h : Own (n + 1) w t) (hx : WfX n t (fun j => j = i ∨ j = i + 1)) (hl : t.kids[i]? = some l) (hr : t.kids[i + 1]? = some r) (h1 : 1 ≤ l.es.length) (h2 : 1 ≤ r.es.length) (h3 : l.es.length + r.es.length = 3) (ht : t.es.length ≤ 4) :
    Calls Try.prog 54 #[.pointer (some ⟨t.b, 0, none⟩), .int .i64 i] w fun e w' => e = .returned (.tuple #[]) ∧ Again n w t w' (t.es.length - 1) t.es.length := by
  have hi := (List.getElem?_eq_some_iff.1 hr).1
  have hx1 := hx.1
  have hS : St w [t, l, r] := own_st h (two_at hl hr)
  cases n with
  | zero =>
    refine (join_leaf t l r i w hS hl hr (by omega) (by omega) (by omega) (by omega) h2 (by omega) ⟨(hx.2 i l hl).1, (hx.2 (i + 1) r hr).1⟩).mono ?_
    rintro e w' ⟨rfl, hv⟩
    exact ⟨rfl, lift_join h hx hl hr h1 h2 h3 hv⟩
  | succ n =>
    have e1 := (hx.2 i l hl).1.1
    have e2 := (hx.2 (i + 1) r hr).1.1
    refine (join_deep t l r i w hS hl hr (by omega) (by omega) (by omega) (by omega) h2 (by omega) ⟨by omega, by omega, by omega⟩).mono ?_
    rintro e w' ⟨rfl, hv⟩
    exact ⟨rfl, lift_join h hx hl hr h1 h2 h3 hv⟩
theorem spares_any (h : Sh w t) (hk : t.kids[i]? = some c) (hc : Sh w c) (_hn : t.kids.length ≤ 1000) :
    Calls Try.prog 51 #[.pointer (some ⟨t.b, 0, none⟩), .int .i64 i] w fun e w' => e = .returned (.bool (decide ((2 : Int) < (c.es.length : Int)))) ∧ w' = w := by
  obtain ⟨B, d, -, hd1, hd2, c1, ck, -⟩ := h.kidv hk
  obtain ⟨sa, sc, -, -, -, -, l0, -, -⟩ := hc.view
  have hi := (List.getElem?_eq_some_iff.1 hk).1
  have zi : (i : Int) < (t.kids.length : Int) := by omega
  generalize t.kids.length = m at *
  generalize c.es.length = q at *
  clear h hk hc
  go_enter Try.func51, Try.ntmps51
  go_wp2
  go_ret
  exact ⟨rfl, rfl⟩
end
end Go.Proofs.Ytoaekmighinmhaa
