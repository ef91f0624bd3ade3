/-
  mend by its contract: a node that has too few entries gets another one, or is joined with its neighbour. Conditions: as stated.
  add by its contract. Conditions: as stated.
  takeLast by its contract: the last entry of all goes. Conditions: as stated.
  del by its contract. Conditions: as stated.
-/
import Derived.Test.YtoaekmighinmhaaU18
namespace Go.Proofs.Ytoaekmighinmhaa
open Go.RowKit

set_option maxRecDepth 100000 in
set_option maxHeartbeats 4000000 in
theorem mend_any {n i : Nat} {t c : Nd} (w : World) (h : Own (n + 1) w t) (hx : WfX n t (fun j => j = i)) (hc : t.kids[i]? = some c) (h1 : 1 ≤ c.es.length ∧ c.es.length ≤ 4) (ht : 1 ≤ t.es.length ∧ t.es.length ≤ 4) :
    Calls Try.prog 38 #[.pointer (some ⟨t.b, 0, none⟩), .int .i64 i] w fun e w' => e = .returned (.tuple #[]) ∧ Again n w t w' (t.es.length - 1) t.es.length := by
  have hsh := h.1.1
  have hx1 := hx.1
  have hi := (List.getElem?_eq_some_iff.1 hc).1
  have hcs := (h.1.2.2 c (List.mem_of_getElem? hc)).sh
  obtain ⟨B, d, -, hd1, hd2, c1, ck, -⟩ := hsh.kidv hc
  obtain ⟨la, lc, -, -, -, -, l0, -, -⟩ := hcs.view
  obtain ⟨sa, sc0, -, -, -, -, t0, -, -⟩ := hsh.view
  have zi : (i : Int) < (t.kids.length : Int) := by omega
  by_cases h2 : 2 ≤ c.es.length
  · have hag : Again n w t w (t.es.length - 1) t.es.length := Again.same h (wf_all hx hc ⟨h2, h1.2⟩) (Below.refl _ _) (Nat.sub_le _ _) (Nat.le_refl _)
    have z2 : (2 : Int) ≤ (c.es.length : Int) := by omega
    generalize t.kids.length = m at *
    generalize c.es.length = q at *
    generalize t.es.length = el at *
    clear h hx hsh hcs hc
    go_enter Try.func38, Try.ntmps38
    go_wp2
    exact bodyPost_end (v := .tuple #[]) (by simp [results, Try.results38, go_sem]) rfl ⟨rfl, hag⟩
  have hc1 : c.es.length = 1 := by omega
  rw [hc1] at l0
  have z2 : ¬ (2 : Int) ≤ ((1 : Nat) : Int) := by omega
  -- the neighbours
  have hright : ∀ r, t.kids[i + 1]? = some r → i < t.es.length := fun r hr => by have := (List.getElem?_eq_some_iff.1 hr).1; omega
  cases i with
  | zero =>
    obtain ⟨r, hr⟩ : ∃ r, t.kids[0 + 1]? = some r := ⟨_, List.getElem?_eq_getElem (by omega)⟩
    have hrs := (h.1.2.2 r (List.mem_of_getElem? hr)).sh
    have hr4 := (hx.2 (0 + 1) r hr).2 (show ¬ 0 + 1 = 0 by omega)
    have hsp := spares_any (w := w) hsh hr hrs (by omega)
    have zt : (0 : Int) < (t.es.length : Int) := by omega
    by_cases h3 : 3 ≤ r.es.length
    · have htl := turnLN_any h hx hc hr hc1 h3 ht.2
      rw [decide_eq_true (show (2 : Int) < (r.es.length : Int) by omega)] at hsp
      have htl := htl.mono (R' := fun e w' => e = .returned (.tuple #[]) ∧ Again n w t w' (t.es.length - 1) t.es.length) fun e w' k => ⟨k.1, k.2.wide (Nat.sub_le _ _) (Nat.le_refl _)⟩
      generalize t.kids.length = m at *
      generalize t.es.length = el at *
      clear h hx hsh hcs hc hr hrs hright hc1 h1 h2 hr4 h3
      go_enter Try.func38, Try.ntmps38
      go_wp2_with fail
      refine hsp.mono ?_
      rintro e w2 ⟨rfl, rfl⟩
      go_wp2_with fail
      refine htl.mono ?_
      rintro e w3 ⟨rfl, hag⟩
      have HA := (show Hid _ from hag)
      clear hag htl hsp
      go_wp2
      exact bodyPost_end (v := .tuple #[]) (by simp [results, Try.results38, go_sem]) rfl ⟨rfl, HA.out⟩
    · have hj := joinN_any h (hx.mono (Q := fun j => j = 0 ∨ j = 0 + 1) fun j hj => .inl hj) hc hr (by omega) (by omega) (by omega) ht.2
      rw [decide_eq_false (show ¬ (2 : Int) < (r.es.length : Int) by omega)] at hsp
      generalize t.kids.length = m at *
      generalize t.es.length = el at *
      clear h hx hsh hcs hc hr hrs hright hc1 h1 h2 hr4 h3
      go_enter Try.func38, Try.ntmps38
      go_wp2_with fail
      refine hsp.mono ?_
      rintro e w2 ⟨rfl, rfl⟩
      go_wp2_with fail
      refine hj.mono ?_
      rintro e w3 ⟨rfl, hag⟩
      have HA := (show Hid _ from hag)
      clear hag hj hsp
      go_wp2
      exact bodyPost_end (v := .tuple #[]) (by simp [results, Try.results38, go_sem]) rfl ⟨rfl, HA.out⟩
  | succ j =>
    obtain ⟨l, hl⟩ : ∃ l, t.kids[j]? = some l := ⟨_, List.getElem?_eq_getElem (by omega)⟩
    have hls := (h.1.2.2 l (List.mem_of_getElem? hl)).sh
    have hl4 := (hx.2 j l hl).2 (show ¬ j = j + 1 by omega)
    have hsp := spares_any (w := w) hsh hl hls (by omega)
    have zj1 : (j : Int) + 1 < (t.kids.length : Int) := by omega
    have zj2 : (0 : Int) ≤ (j : Int) + 1 := by omega
    have zj3 : (0 : Int) < (j : Int) + 1 := by omega
    by_cases h3 : 3 ≤ l.es.length
    · have htr := turnRN_any h hx hl hc h3 hc1 ht.2
      rw [decide_eq_true (show (2 : Int) < (l.es.length : Int) by omega)] at hsp
      have htr := htr.mono (R' := fun e w' => e = .returned (.tuple #[]) ∧ Again n w t w' (t.es.length - 1) t.es.length) fun e w' k => ⟨k.1, k.2.wide (Nat.sub_le _ _) (Nat.le_refl _)⟩
      have HZ : Hid (wrap64 (j : Int) = (j : Int)) := by unfold Hid wrap64; omega
      generalize t.kids.length = m at *
      generalize t.es.length = el at *
      clear h hx hsh hcs hc hl hls hright hc1 h1 h2 hl4 h3 zi
      have zw := HZ.out
      go_enter Try.func38, Try.ntmps38
      go_wp2_with fail
      refine hsp.mono ?_
      rintro e w2 ⟨rfl, rfl⟩
      go_wp2_with fail
      refine htr.mono ?_
      rintro e w3 ⟨rfl, hag⟩
      have HA := (show Hid _ from hag)
      clear hag htr hsp
      go_wp2
      exact bodyPost_end (v := .tuple #[]) (by simp [results, Try.results38, go_sem]) rfl ⟨rfl, HA.out⟩
    · rw [decide_eq_false (show ¬ (2 : Int) < (l.es.length : Int) by omega)] at hsp
      have hj := joinN_any h (hx.mono (Q := fun q => q = j ∨ q = j + 1) fun q hq => .inr hq) hl hc (by omega) (by omega) (by omega) ht.2
      by_cases hje : j + 1 < t.es.length
      · obtain ⟨r, hr⟩ : ∃ r, t.kids[j + 1 + 1]? = some r := ⟨_, List.getElem?_eq_getElem (by omega)⟩
        have hrs := (h.1.2.2 r (List.mem_of_getElem? hr)).sh
        have hr4 := (hx.2 (j + 1 + 1) r hr).2 (show ¬ j + 1 + 1 = j + 1 by omega)
        have hsp2 := spares_any (w := w) hsh hr hrs (by omega)
        have zje : (j : Int) + 1 < (t.es.length : Int) := by omega
        have HZ : Hid (wrap64 (j : Int) = (j : Int)) := by unfold Hid wrap64; omega
        have HZ2 : Hid (wrap64 ((j : Int) + 1 + 1) = (j : Int) + 1 + 1) := by unfold Hid wrap64; omega
        by_cases h5 : 3 ≤ r.es.length
        · have htl := turnLN_any h hx hc hr hc1 h5 ht.2
          rw [decide_eq_true (show (2 : Int) < (r.es.length : Int) by omega)] at hsp2
          have htl := htl.mono (R' := fun e w' => e = .returned (.tuple #[]) ∧ Again n w t w' (t.es.length - 1) t.es.length) fun e w' k => ⟨k.1, k.2.wide (Nat.sub_le _ _) (Nat.le_refl _)⟩
          generalize t.kids.length = m at *
          generalize t.es.length = el at *
          clear h hx hsh hcs hc hl hls hr hrs hright hc1 h1 h2 hl4 hr4 h3 h5 hj zi hje
          have zw := HZ.out
          have zw2 := HZ2.out
          go_enter Try.func38, Try.ntmps38
          go_wp2_with fail
          refine hsp.mono ?_
          rintro e w2 ⟨rfl, rfl⟩
          go_wp2_with fail
          refine hsp2.mono ?_
          rintro e w3 ⟨rfl, rfl⟩
          go_wp2_with fail
          refine htl.mono ?_
          rintro e w4 ⟨rfl, hag⟩
          have HA := (show Hid _ from hag)
          clear hag htl hsp hsp2
          go_wp2
          exact bodyPost_end (v := .tuple #[]) (by simp [results, Try.results38, go_sem]) rfl ⟨rfl, HA.out⟩
        · rw [decide_eq_false (show ¬ (2 : Int) < (r.es.length : Int) by omega)] at hsp2
          generalize t.kids.length = m at *
          generalize t.es.length = el at *
          clear h hx hsh hcs hc hl hls hr hrs hright hc1 h1 h2 hl4 hr4 h3 h5 zi hje
          have zw := HZ.out
          have zw2 := HZ2.out
          go_enter Try.func38, Try.ntmps38
          go_wp2_with fail
          refine hsp.mono ?_
          rintro e w2 ⟨rfl, rfl⟩
          go_wp2_with fail
          refine hsp2.mono ?_
          rintro e w3 ⟨rfl, rfl⟩
          go_wp2_with fail
          refine hj.mono ?_
          rintro e w4 ⟨rfl, hag⟩
          have HA := (show Hid _ from hag)
          clear hag hj hsp hsp2
          go_wp2
          exact bodyPost_end (v := .tuple #[]) (by simp [results, Try.results38, go_sem]) rfl ⟨rfl, HA.out⟩
      · have zje : ¬ (j : Int) + 1 < (t.es.length : Int) := by omega
        have HZ : Hid (wrap64 (j : Int) = (j : Int)) := by unfold Hid wrap64; omega
        generalize t.kids.length = m at *
        generalize t.es.length = el at *
        clear h hx hsh hcs hc hl hls hright hc1 h1 h2 hl4 h3 zi hje
        have zw := HZ.out
        go_enter Try.func38, Try.ntmps38
        go_wp2_with fail
        refine hsp.mono ?_
        rintro e w2 ⟨rfl, rfl⟩
        go_wp2_with fail
        refine hj.mono ?_
        rintro e w4 ⟨rfl, hag⟩
        have HA := (show Hid _ from hag)
        clear hag hj hsp
        go_wp2
        exact bodyPost_end (v := .tuple #[]) (by simp [results, Try.results38, go_sem]) rfl ⟨rfl, HA.out⟩
end Go.Proofs.Ytoaekmighinmhaa

namespace Go.Proofs.Ytoaekmighinmhaa
open Go.RowKit

section
variable {n i : Nat} {w w' : World} {t k k' : Nd} {e : En}
theorem set_flat (h : t.kids.length = t.es.length + 1) (hk : t.kids[i]? = some k) : flatN (n + 1) { t with kids := t.kids.set i k' } = lftN i t.es (t.kids.map (flatN n)) ++ flatN n k' ++ rgtN i t.es (t.kids.map (flatN n)) := by
  show inter t.es ((t.kids.set i k').map (flatN n)) = _
  rw [List.map_set]
  exact inter_set (by rw [List.length_map]; exact h) (by rw [List.length_map]; exact (List.getElem?_eq_some_iff.1 hk).1)
theorem set_wfX (h : WfN (n + 1) t) (hi : i < t.kids.length) (hk' : WfN n k') : WfX n { t with kids := t.kids.set i k' } (fun j => j = i) := by
  refine ⟨by show (t.kids.set i k').length = _; rw [List.length_set]; exact h.1, fun j x hj => ?_⟩
  have hj : (t.kids.set i k')[j]? = some x := hj
  rw [List.getElem?_set] at hj
  by_cases e1 : i = j
  · rw [if_pos e1, if_pos hi] at hj
    cases hj
    exact ⟨hk', fun hne => absurd e1.symm hne⟩
  · rw [if_neg e1] at hj
    have := h.2 x (List.mem_of_getElem? hj)
    exact ⟨this.1, fun _ => this.2⟩
theorem set_get (hi : i < t.kids.length) : ({ t with kids := t.kids.set i k' } : Nd).kids[i]? = some k' := by
  show (t.kids.set i k')[i]? = _
  rw [List.getElem?_set, if_pos rfl, if_pos hi]
theorem set_same (hk : t.kids[i]? = some k) : ({ t with kids := t.kids.set i k } : Nd) = t := by
  have e1 : t.kids.set i k = t.kids := by
    rw [set_at k hk, ← split_at hk]
  rw [e1]
  clear e1 hk
  cases t
  rfl
/-- what is there behind add. -/
def AddV (n : Nat) (w : World) (t : Nd) (e : En) (w' : World) : Prop :=
  ∃ t', Evo n w t w' t' ∧ WfN n t' ∧ flatN n t' = insE e (flatN n t) ∧ t.es.length ≤ t'.es.length ∧ t'.es.length ≤ t.es.length + 1 ∧ (hasE e (flatN n t) = true → t' = t)
theorem AddV.same (h : Own n w t) (hw : WfN n t) (hs : SortE (flatN n t)) (hh : hasE e (flatN n t) = true) (hb : Below w.heap.size w w') : AddV n w t e w' :=
  ⟨t, Evo.below h hb, hw, (ins_there hs (hasE_iff.1 hh)).symm, Nat.le_refl _, Nat.le_succ _, fun _ => rfl⟩
theorem Evo.later {w0 : World} {t' : Nd} (h : Own n w0 t) (hb : Below w0.heap.size w0 w) (e : Evo n w t w' t') : Evo n w0 t w' t' := (Evo.below h hb).trans e
theorem ins_leaf {l : List En} (hs : SortE l) (hn : hasE e l = false) : insE e l = l.take (ahE e l) ++ e :: l.drop (ahE e l) := by
  have hnm := hasE_not.1 hn
  have h1 := ins_mid (A := l.take (ahE e l)) (k := []) (C := l.drop (ahE e l)) (e := e) (by rw [List.append_nil, List.take_append_drop]; exact hs) (fun a ha => by
    obtain ⟨j, hj, hx⟩ := take_get ha
    exact ah_lt e l j a hj hx) (fun c hc => by
    obtain ⟨j, hj, hx⟩ := drop_get hc
    have h2 := ah_ge hs j c hj hx
    rcases ltE_total e c with h3 | h3 | h3
    · exact h3
    · exact absurd (by rw [h3]; exact List.mem_of_getElem? hx) hnm
    · omega)
  rw [List.append_nil, List.take_append_drop] at h1
  rw [h1]
  simp [insE, withL]
end

set_option maxRecDepth 100000 in
set_option maxHeartbeats 4000000 in
theorem add0_any (t : Nd) (e : En) (w : World) (h : Own 0 w t) (hl : t.es.length ≤ 4) (hs : SortE t.es) :
    Calls Try.prog 25 #[.pointer (some ⟨t.b, 0, none⟩), .agg #[.string e.1, .int .i64 e.2]] w fun r w' => r = .returned (.bool (!hasE e t.es)) ∧ AddV 0 w t e w' := by
  obtain ⟨ek, ei⟩ := e
  obtain ⟨W0, hW0, hwW, hs0, k0, k1⟩ := box_any w ek ei
  have hO0 := h.below hwW
  have hsh := hO0.1.sh
  have hpl := place_any (ek, ei) W0 hsh hs (by omega)
  have hz : t.kids.length = 0 := by rw [h.1.2]; rfl
  have hlf := fun W (hW : Below W0.heap.size W0 W) => leaf_any W (hsh.below hW)
  rw [hz] at hlf
  obtain ⟨q, hq⟩ : ∃ q, ahE (ek, ei) t.es = q := ⟨_, rfl⟩
  have hle := ah_le (ek, ei) t.es
  rw [hq] at hpl hle
  cases hp : hasE (ek, ei) t.es with
  | true =>
    rw [hp] at hpl
    have hfin := fun w' hb => AddV.same (e := (ek, ei)) (w' := w') h h.1.2 hs hp hb
    clear h hO0 hsh hs hz hq hp
    go_enter Try.func25, Try.ntmps25
    go_wp2_with fail
    refine hpl.mono ?_
    rintro e w1 ⟨rfl, hb1⟩
    have hb := hwW.trans (hb1.mono hwW.size)
    go_wp2
    go_ret
    exact ⟨rfl, hfin _ hb⟩
  | false =>
    rw [hp] at hpl
    have HH := (show Hid _ from And.intro h (And.intro hO0 (And.intro hs (And.intro hq hp))))
    clear h hO0 hsh hs hz hq hp
    go_enter Try.func25, Try.ntmps25
    go_wp2_with fail
    refine hpl.mono ?_
    rintro e w1 ⟨rfl, hb1⟩
    have hlf1 := hlf w1 hb1
    have m0 := (hb1.cell (lt_of_cell k0)).trans k0
    have m1 := (hb1.cell (lt_of_cell k1)).trans k1
    have hb := hwW.trans (hb1.mono hwW.size)
    clear hpl hlf hb1 hwW hs0 hW0 k0 k1
    go_wp2_with fail
    refine hlf1.mono ?_
    rintro e w2 ⟨rfl, rfl⟩
    clear hlf1
    obtain ⟨h, -, hs, hq, hp⟩ := HH.out
    have hO2 := h.below hb
    have hO2d : Own 0 w2.drew t := hO2.below (Below.refl _ _).drew
    obtain ⟨sa, sc0, -, -, es0, -, t0, -, tf⟩ := hO2.1.sh.view
    have htb := lt_of_cell t0
    have hbx := lt_of_cell m0
    have hins := fun W1 hb hr => insE_any (w := w2.drew) (W1 := W1) (t := t) q w2.heap.size (ek, ei) hO2d.1.sh hO2d.2 hb (Nat.le_refl _) hr hle (by omega)
    rw [es0] at hins
    obtain ⟨el, hel⟩ : ∃ el, t.es.length = el := ⟨_, rfl⟩
    rw [hel] at hins t0
    have P0 := fun (w' : World) (h : w'.heap[t.b]? = w2.heap[t.b]? ∧ w'.heap[w.heap.size]? = w2.heap[w.heap.size]?) => (World.cell?_of_block (a := ⟨t.b, 0, none⟩) h.1).trans t0
    have P1 := fun (w' : World) (h : w'.heap[t.b]? = w2.heap[t.b]? ∧ w'.heap[w.heap.size]? = w2.heap[w.heap.size]?) => (World.cell?_of_block (a := ⟨w.heap.size, 0, none⟩) h.2).trans m0
    have P2 := fun (w' : World) (h : w'.heap[t.b]? = w2.heap[t.b]? ∧ w'.heap[w.heap.size]? = w2.heap[w.heap.size]?) => (World.cell?_of_block (a := ⟨w.heap.size, 1, none⟩) h.2).trans m1
    have hxs : w.heap.size < w2.heap.size ∧ vc w.heap.size (.slice sa el sc0) = 0 := by
      refine ⟨hbx, Classical.byContradiction fun hc => ?_⟩
      rw [← hel, ← es0] at hc
      have h2 : sc w.heap.size t ≠ 0 := by unfold sc; omega
      have := h.1.sh.lt h2
      omega
    have G1 := (show Hid _ from And.intro tf hel)
    clear h hs hq hp hO2 hO2d t0 tf m0 m1 es0 hel
    have h0 : (fun w' : World => w'.heap[t.b]? = w2.heap[t.b]? ∧ w'.heap[w.heap.size]? = w2.heap[w.heap.size]?) w2.drew := ⟨rfl, rfl⟩
    go_wp2_with fail
    refine wp_region_snoc_held2 (S := fun w' => w'.heap[t.b]? = w2.heap[t.b]? ∧ w'.heap[w.heap.size]? = w2.heap[w.heap.size]?) (head := #[_, _, _, _, _, _, _, _, _, _, _]) (last := ⟨_, _, _, _, _, _⟩) mixed (by kernel_rfl) rfl ?_
    refine wpAnyH_take (i := 0) (oi := ⟨_, _, _, _, _, _⟩) (v := ?v1) rfl (by kernel_rfl) (by kernel_rfl) (by kernel_rfl) (fun _ _ _ h => h) (Or.inl ⟨by rfl, ?hy1⟩) h0 ?rest1
    case hy1 => (intro w hSw; (try dsimp only at hSw); go_simp; try with_reducible rfl)
    simp only [Act.put, List.setIfInBounds_toArray, List.set_cons_zero, List.set_cons_succ]
    refine wpAnyH_take (i := 1) (oi := ⟨_, _, _, _, _, _⟩) (v := ?v2) rfl (by kernel_rfl) (by kernel_rfl) (by kernel_rfl) (fun _ _ _ h => h) (Or.inl ⟨by rfl, ?hy2⟩) h0 ?rest2
    case hy2 => (intro w hSw; (try dsimp only at hSw); go_simp; try with_reducible rfl)
    simp only [Act.put, List.setIfInBounds_toArray, List.set_cons_zero, List.set_cons_succ]
    refine wpAnyH_take (i := 2) (oi := ⟨_, _, _, _, _, _⟩) (v := ?v3) rfl (by kernel_rfl) (by kernel_rfl) (by kernel_rfl) (fun _ _ _ h => h) (Or.inl ⟨by rfl, ?hy3⟩) h0 ?rest3
    case hy3 => (intro w hSw; (try dsimp only at hSw); go_simp; try with_reducible rfl)
    simp only [Act.put, List.setIfInBounds_toArray, List.set_cons_zero, List.set_cons_succ]
    refine wpAnyH_take (i := 3) (oi := ⟨_, _, _, _, _, _⟩) (v := ?v4) rfl (by kernel_rfl) (by kernel_rfl) (by kernel_rfl) (fun _ _ _ h => h) (Or.inl ⟨by rfl, ?hy4⟩) h0 ?rest4
    case hy4 => (intro w hSw; (try dsimp only at hSw); go_simp; try with_reducible rfl)
    simp only [Act.put, List.setIfInBounds_toArray, List.set_cons_zero, List.set_cons_succ]
    refine wpAnyH_take (i := 4) (oi := ⟨_, _, _, _, _, _⟩) (v := ?v5) rfl (by kernel_rfl) (by kernel_rfl) (by kernel_rfl) (fun _ _ _ h => h) (Or.inl ⟨by rfl, ?hy5⟩) h0 ?rest5
    case hy5 => (intro w hSw; (try dsimp only at hSw); go_simp; try with_reducible rfl)
    simp only [Act.put, List.setIfInBounds_toArray, List.set_cons_zero, List.set_cons_succ]
    refine wpAnyH_take (i := 5) (oi := ⟨_, _, _, _, _, _⟩) (v := ?v6) rfl (by kernel_rfl) (by kernel_rfl) (by kernel_rfl) (fun _ _ _ h => h) (Or.inl ⟨by rfl, ?hy6⟩) h0 ?rest6
    case hy6 => (intro w hSw; (try dsimp only at hSw); go_simp; try with_reducible rfl)
    simp only [Act.put, List.setIfInBounds_toArray, List.set_cons_zero, List.set_cons_succ]
    refine wpAnyH_take (i := 6) (oi := ⟨_, _, _, _, _, _⟩) (v := ?v7) rfl (by kernel_rfl) (by kernel_rfl) (by kernel_rfl) (fun _ _ _ h => h) (Or.inl ⟨by rfl, ?hy7⟩) h0 ?rest7
    case hy7 => (intro w hSw; (try dsimp only at hSw); go_simp; try with_reducible rfl)
    simp only [Act.put, List.setIfInBounds_toArray, List.set_cons_zero, List.set_cons_succ]
    refine wpAnyH_ready (rs := [7]) (by kernel_rfl) (by simp) ?_
    refine AllReadyH.cons (o := ⟨_, _, _, _, _, _⟩) rfl (fun K hK => ?_) AllReadyH.nil
    go_simp
    have hb3 : Below w2.drew.heap.size w2.drew (w2.alloc (.cells #[.string ek, .int .i64 ei] 34)).drew := ((Below.refl _ _).alloc (Nat.le_refl _) _)
    have h3 : (w2.alloc (.cells #[.string ek, .int .i64 ei] 34)).drew.heap[t.b]? = w2.heap[t.b]? ∧ (w2.alloc (.cells #[.string ek, .int .i64 ei] 34)).drew.heap[w.heap.size]? = w2.heap[w.heap.size]? := ⟨hb3.block _ htb, hb3.block _ hbx⟩
    refine hK.out _ _ h3 (fun hHeld => ?_)
    clear hK K hHeld
    try simp only [Act.put, List.setIfInBounds_toArray, List.set_cons_zero, List.set_cons_succ]
    refine wpAnyH_ready (rs := [8]) (by kernel_rfl) (by simp) ?_
    refine AllReadyH.cons (o := ⟨_, _, _, _, _, _⟩) rfl (fun K hK => ?_) AllReadyH.nil
    go_simp
    refine (hins _ hb3 (heap_alloc_new w2 _)).mono ?_
    rintro e w4 ⟨a4, c4, rfl, hE4, hb4, hsz4, hk4⟩
    have h4 : w4.heap[t.b]? = w2.heap[t.b]? ∧ w4.heap[w.heap.size]? = w2.heap[w.heap.size]? := ⟨hb4, hk4 _ hxs.1 hxs.2⟩
    have e0 := P0 w4 h4
    have ez : ∀ j, w4.frozen? ⟨t.b, j, none⟩ = false := fun j => (World.frozen?_of_block (a := ⟨t.b, j, none⟩) h4.1).trans (G1.out.1 j)
    have G2 := (show Hid _ from hE4)
    clear hE4 hb4 hsz4 hk4 hins hb3
    refine hK.out _ _ h4 (fun hHeld => ?_)
    clear hK K hHeld
    try simp only [Act.put, List.setIfInBounds_toArray, List.set_cons_zero, List.set_cons_succ]
    refine wpAnyH_ready (rs := [9]) (by kernel_rfl) (by simp) ?_
    refine AllReadyH.cons (o := ⟨_, _, _, _, _, _⟩) rfl (fun K hK => ?_) AllReadyH.nil
    go_simp
    refine hK.out _ _ h4 (fun hHeld => ?_)
    clear hK K hHeld
    try simp only [Act.put, List.setIfInBounds_toArray, List.set_cons_zero, List.set_cons_succ]
    refine wpAnyH_ready (rs := [10]) (by kernel_rfl) (by simp) ?_
    refine AllReadyH.cons (o := ⟨_, _, _, _, _, _⟩) rfl (fun K hK => ?_) AllReadyH.nil
    go_simp
    refine hK.out _ _ h4 (fun hHeld => ?_)
    clear hK K hHeld
    try simp only [Act.put, List.setIfInBounds_toArray, List.set_cons_zero, List.set_cons_succ]
    refine wpAnyH_done (by kernel_rfl) ?_ _
    clear P0 P1 P2 h0 h3 h4
    show Oper.wp _ _ _ _ _ _
    go_simp
    go_wp2
    go_ret
    obtain ⟨h, -, hs, hq, hp⟩ := HH.out
    have hE := Evo.later h (hb.trans ((Below.refl _ _).drew)) (G2.out.evo0 h.1.2)
    refine ⟨rfl, _, hE, h.1.2, ?_, ?_, ?_, fun hc => by rw [show flatN 0 t = t.es from rfl, hp] at hc; cases hc⟩
    · show t.es.take q ++ (ek, ei) :: t.es.drop q = insE (ek, ei) t.es
      rw [ins_leaf hs hp, hq]
    · show _ ≤ (t.es.take q ++ (ek, ei) :: t.es.drop q).length
      simp; omega
    · show (t.es.take q ++ (ek, ei) :: t.es.drop q).length ≤ _
      simp; omega
end Go.Proofs.Ytoaekmighinmhaa

namespace Go.Proofs.Ytoaekmighinmhaa
open Go.RowKit

section
variable {n : Nat} {w W0 w1 : World} {t t1 : Nd}
def TakeV (n : Nat) (w : World) (t : Nd) (w' : World) (f : List En) : Prop :=
  ∃ t', Evo n w t w' t' ∧ WfN n t' ∧ flatN n t' = f ∧ t.es.length - 1 ≤ t'.es.length ∧ t'.es.length ≤ t.es.length
/-- the answer is written where it is to be: the tree is none of that. -/
theorem Evo.res {u v : Value} (h : Own n w t) (hb : Below w.heap.size w W0) (hlt : w.heap.size < W0.heap.size) (e : Evo n W0 t w1 t1) : Evo n w t ((w1.setCell ⟨w.heap.size, 0, none⟩ u).setCell ⟨w.heap.size, 1, none⟩ v) t1 := by
  have h0 : tc n w.heap.size t = 0 := Classical.byContradiction fun hc => by have := h.1.lt hc; omega
  have h1 : tc n w.heap.size t1 = 0 := by have := e.cnt w.heap.size hlt; omega
  have hset : ∀ a, a ≠ w.heap.size → ((w1.setCell ⟨w.heap.size, 0, none⟩ u).setCell ⟨w.heap.size, 1, none⟩ v).heap[a]? = w1.heap[a]? := fun a ha => by
    rw [Below.heap_setCell _ _ _ _ ha, Below.heap_setCell _ _ _ _ ha]
  have hz : ((w1.setCell ⟨w.heap.size, 0, none⟩ u).setCell ⟨w.heap.size, 1, none⟩ v).heap.size = w1.heap.size := by simp [World.setCell]
  refine ⟨⟨e.own.1.keep fun a ha => hset a fun hc => ha (by rw [hc]; exact h1), e.own.2⟩, e.b, ⟨e.chg.os.trans hb.os, e.chg.tape.trans hb.tape, e.chg.output.trans hb.output, ?_, fun a ha hc => ?_⟩, fun a ha => e.cnt a (by omega)⟩
  · rw [hz]; have := e.chg.size; omega
  · rw [hset a (by omega), e.chg.block a (by omega) hc, hb.block a ha]
end

set_option maxRecDepth 100000 in
set_option maxHeartbeats 4000000 in
theorem takeLast_any : ∀ (n : Nat) (t : Nd) (x : En) (f : List En) (w : World), Own n w t → WfN n t → 1 ≤ t.es.length → t.es.length ≤ 4 → flatN n t = f ++ [x] →
    Calls Try.prog 37 #[.pointer (some ⟨t.b, 0, none⟩)] w fun r w' => r = .returned (.agg #[.string x.1, .int .i64 x.2]) ∧ TakeV n w t w' f := by
  intro n
  induction n with
  | zero =>
    intro t x f w h hw hl1 hl4 hf
    have hf : t.es = f ++ [x] := hf
    obtain ⟨j, hj⟩ : ∃ j, t.es.length = j + 1 := ⟨t.es.length - 1, by omega⟩
    have hfl : f.length = j := by rw [hf] at hj; simpa using hj
    have hx : t.es[j]? = some x := by rw [hf, List.getElem?_append_right (by omega), hfl]; simp
    obtain ⟨xk, xi⟩ := x
    obtain ⟨W0, hW0⟩ : ∃ W0, w.alloc (.cells #[.string ⟨#[]⟩, .int .i64 0] 34) = W0 := ⟨_, rfl⟩
    have hbW : Below w.heap.size w W0 := by rw [← hW0]; exact (Below.refl _ _).alloc (Nat.le_refl _) _
    have hs0 : W0.heap.size = w.heap.size + 1 := by rw [← hW0]; simp
    have r0 : W0.heap[w.heap.size]? = some (.cells #[.string ⟨#[]⟩, .int .i64 0] 34) := by rw [← hW0]; exact heap_alloc_new _ _
    have hO := h.below hbW
    obtain ⟨sa, sc0, -, -, -, -, t0, -, -⟩ := hO.1.sh.view
    rw [hj] at t0
    have hlf := leaf_any W0 hO.1.sh
    rw [show t.kids.length = 0 by rw [h.1.2]; rfl] at hlf
    have htake := takeE_any t j (xk, xi) W0 hO.1.sh hO.2 hx (by omega)
    have HZ : Hid (wrap64 (j : Int) = (j : Int)) := by unfold Hid wrap64; omega
    have h0 : tc 0 w.heap.size t = 0 := Classical.byContradiction fun hc => by have := h.1.lt hc; omega
    have HH := (show Hid _ from And.intro h (And.intro hbW (And.intro hs0 (And.intro r0 (And.intro h0 (And.intro hf (And.intro hj hfl)))))))
    clear h hw hl1 hl4 hf hj hfl hx hbW hs0 r0 hO h0
    have zw := HZ.out
    go_enter Try.func37, Try.ntmps37
    go_wp2_with fail
    refine hlf.mono ?_
    rintro e w2 ⟨rfl, rfl⟩
    go_wp2_with fail
    refine htake.mono ?_
    rintro e w3 ⟨rfl, s3, hE3, ho3⟩
    clear hlf htake zw
    obtain ⟨h, hbW, hs0, r0, h0, hf, hj, hfl⟩ := HH.out
    have r3 : w3.heap[w.heap.size]? = some (.cells #[.string ⟨#[]⟩, .int .i64 0] 34) := (hE3.chg.block _ (by omega) h0).trans r0
    have q0 : w3.cell? ⟨w.heap.size, 0, none⟩ = some (.string ⟨#[]⟩) := by simp [World.cell?, r3]
    have q1 : w3.cell? ⟨w.heap.size, 1, none⟩ = some (.int .i64 0) := by simp [World.cell?, r3]
    have qf : ∀ j, w3.frozen? ⟨w.heap.size, j, none⟩ = false := fun j => by simp [World.frozen?, r3]
    have G := (show Hid _ from And.intro hE3 r3)
    clear hE3 ho3 r3 h hbW hs0 r0 h0 hf hj hfl
    go_wp2
    obtain ⟨h, hbW, hs0, r0, h0, hf, hj, hfl⟩ := HH.out
    obtain ⟨hE3, r3⟩ := G.out
    have hres := Evo.res (u := .string xk) (v := .int .i64 xi) h hbW (by omega) (hE3.evo0 h.1.2)
    obtain ⟨W4, hW4⟩ : ∃ W4, ((w3.setCell ⟨w.heap.size, 0, none⟩ (.string xk)).setCell ⟨w.heap.size, 1, none⟩ (.int .i64 xi)) = W4 := ⟨_, rfl⟩
    have r4 : W4.heap[w.heap.size]? = some (.cells #[.string xk, .int .i64 xi] 34) := by rw [← hW4, heap_setCell_at (heap_setCell_at r3)]; rfl
    rw [hW4] at hres ⊢
    have f0 : W4.cell? ⟨w.heap.size, 0, none⟩ = some (.string xk) := by simp [World.cell?, r4]
    have f1 : W4.cell? ⟨w.heap.size, 1, none⟩ = some (.int .i64 xi) := by simp [World.cell?, r4]
    refine bodyPost_ret (v := .agg #[.string xk, .int .i64 xi]) (by simp [results, Try.results37, go_sem, f0, f1]) rfl ⟨rfl, _, hres, h.1.2, ?_, ?_, ?_⟩
    · show t.es.take j ++ t.es.drop (j + 1) = f
      rw [hf, List.take_left' hfl, List.drop_of_length_le (by simp; omega), List.append_nil]
    · show _ ≤ (t.es.take j ++ t.es.drop (j + 1)).length
      simp; omega
    · show (t.es.take j ++ t.es.drop (j + 1)).length ≤ _
      simp; omega
  | succ n ih =>
    intro t x f w h hw hl1 hl4 hf
    obtain ⟨el, hel⟩ : ∃ el, t.es.length = el := ⟨_, rfl⟩
    obtain ⟨c, hc⟩ : ∃ c, t.kids[t.es.length]? = some c := ⟨_, List.getElem?_eq_getElem (by have := hw.1; omega)⟩
    have hcw := hw.2 c (List.mem_of_getElem? hc)
    have hfk := flat_kid hw hc
    rw [rgt_none (List.getElem?_eq_none (Nat.le_refl _)), List.append_nil, hf] at hfk
    obtain ⟨fc, hfc⟩ : ∃ fc, flatN n c = fc ++ [x] := by
      have hne := flat_ne hcw.1 (by omega)
      have h1 : (lftN t.es.length t.es (t.kids.map (flatN n)) ++ flatN n c).getLast? = some x := by rw [← hfk]; simp
      rw [last_app _ hne] at h1
      obtain ⟨fc, hfc⟩ := List.getLast?_eq_some_iff.1 h1
      exact ⟨fc, hfc⟩
    have hff : f = lftN t.es.length t.es (t.kids.map (flatN n)) ++ fc := by
      rw [hfc, ← List.append_assoc] at hfk
      exact List.append_cancel_right hfk
    obtain ⟨xk, xi⟩ := x
    obtain ⟨W0, hW0⟩ : ∃ W0, w.alloc (.cells #[.string ⟨#[]⟩, .int .i64 0] 34) = W0 := ⟨_, rfl⟩
    have hbW : Below w.heap.size w W0 := by rw [← hW0]; exact (Below.refl _ _).alloc (Nat.le_refl _) _
    have hs0 : W0.heap.size = w.heap.size + 1 := by rw [← hW0]; simp
    have r0 : W0.heap[w.heap.size]? = some (.cells #[.string ⟨#[]⟩, .int .i64 0] 34) := by rw [← hW0]; exact heap_alloc_new _ _
    have hO := h.below hbW
    obtain ⟨sa, sc0, -, -, -, -, t0, -, -⟩ := hO.1.sh.view
    obtain ⟨B, d, -, hd1, hd2, c1, ck, -⟩ := hO.1.sh.kidv hc
    have hkl := hw.1
    have hlf := leaf_any W0 hO.1.sh
    rw [decide_eq_false (show ¬ t.kids.length = 0 by omega)] at hlf
    have hrec := ih c (xk, xi) fc W0 (own_kid hO hc) hcw.1 (by omega) (by omega) hfc
    have h0 : tc (n + 1) w.heap.size t = 0 := Classical.byContradiction fun hc => by have := h.1.lt hc; omega
    have zel : (el : Int) < (t.kids.length : Int) := by omega
    obtain ⟨m, hm⟩ : ∃ m, t.kids.length = m := ⟨_, rfl⟩
    rw [hm] at c1 hd1 zel
    rw [hel] at t0 ck
    have HH := (show Hid _ from And.intro h (And.intro hw (And.intro hl1 (And.intro hl4 (And.intro hel (And.intro hc (And.intro hcw (And.intro hfc (And.intro hff (And.intro hbW (And.intro hs0 (And.intro r0 (And.intro hO h0)))))))))))))
    clear h hw hl1 hl4 hf hel hc hcw hfk hfc hff hbW hs0 r0 hO h0 hkl ih hm
    go_enter Try.func37, Try.ntmps37
    go_wp2_with fail
    refine hlf.mono ?_
    rintro e w2 ⟨rfl, rfl⟩
    go_wp2_with fail
    refine hrec.mono ?_
    rintro e w3 ⟨rfl, c', hEc, hcw', hcf, hc1, hc2⟩
    obtain ⟨h, hw, hl1, hl4, hel, hc, hcw, hfc, hff, hbW, hs0, r0, hO, h0⟩ := HH.out
    have hE1 := evo_kid hO hc hEc
    obtain ⟨t1, ht1⟩ : ∃ t1 : Nd, t1 = { t with kids := t.kids.set t.es.length c' } := ⟨_, rfl⟩
    rw [← ht1] at hE1
    have hilt := (List.getElem?_eq_some_iff.1 hc).1
    have hx1 : WfX n t1 (fun j => j = t.es.length) := by rw [ht1]; exact set_wfX hw hilt hcw'
    have hget : t1.kids[t.es.length]? = some c' := by rw [ht1]; exact set_get hilt
    have h1b : t1.b = t.b := by rw [ht1]
    have h1e : t1.es = t.es := by rw [ht1]
    obtain ⟨W4, hW4⟩ : ∃ W4, w3.alloc (.cells #[.string xk, .int .i64 xi] 34) = W4 := ⟨_, rfl⟩
    have hb4 : Below w3.heap.size w3 W4 := by rw [← hW4]; exact (Below.refl _ _).alloc (Nat.le_refl _) _
    have r4 : W4.heap[w3.heap.size]? = some (.cells #[.string xk, .int .i64 xi] 34) := by rw [← hW4]; exact heap_alloc_new _ _
    have hmend := mend_any W4 (hE1.own.below hb4) hx1 hget (by omega) (by rw [h1e]; omega)
    rw [h1b, h1e, hel] at hmend
    have hfl : flatN (n + 1) t1 = f := by
      rw [ht1, set_flat hw.1 hc, hcf, hff, rgt_none (List.getElem?_eq_none (Nat.le_refl _)), List.append_nil]
    have h1 : tc (n + 1) w3.heap.size t1 = 0 := Classical.byContradiction fun hcc => by have := hE1.own.1.lt hcc; omega
    have h2 : tc (n + 1) w.heap.size t1 = 0 := by have := hE1.cnt w.heap.size (by omega); omega
    have hs3 := hE1.chg.size
    have r3 : w3.heap[w.heap.size]? = some (.cells #[.string ⟨#[]⟩, .int .i64 0] 34) := (hE1.chg.block _ (by omega) h0).trans r0
    have G := (show Hid _ from And.intro hE1 (And.intro hb4 (And.intro r4 (And.intro hfl (And.intro h1 (And.intro h2 (And.intro hs3 r3)))))))
    clear h hw hl1 hl4 hel hc hcw hfc hff hbW hs0 r0 hO h0 hEc hcw' hcf hc1 hc2 hE1 ht1 hilt hx1 hget h1b h1e hb4 r4 hfl h1 h2 hs3 r3 hlf hrec
    go_wp2_with fail
    refine hmend.mono ?_
    rintro e w5 ⟨rfl, hag⟩
    obtain ⟨t2, a1, a2, a3, a4, a5⟩ := hag
    obtain ⟨hE1, hb4, r4, hfl, h1, h2, hs3, r3⟩ := G.out
    have hs0 := HH.out.2.2.2.2.2.2.2.2.2.2.1
    have hl4 := lt_of_heap r4
    have r5 := (a1.chg.block w3.heap.size hl4 h1).trans r4
    have r6 := (a1.chg.block w.heap.size (by omega) h2).trans ((hb4.block w.heap.size (by omega)).trans r3)
    have q0 : w5.cell? ⟨w.heap.size, 0, none⟩ = some (.string ⟨#[]⟩) := by simp [World.cell?, r6]
    have q1 : w5.cell? ⟨w.heap.size, 1, none⟩ = some (.int .i64 0) := by simp [World.cell?, r6]
    have qf : ∀ j, w5.frozen? ⟨w.heap.size, j, none⟩ = false := fun j => by simp [World.frozen?, r6]
    have p0 : w5.cell? ⟨w3.heap.size, 0, none⟩ = some (.string xk) := by simp [World.cell?, r5]
    have p1 : w5.cell? ⟨w3.heap.size, 1, none⟩ = some (.int .i64 xi) := by simp [World.cell?, r5]
    have G2 := (show Hid _ from And.intro a1 (And.intro a2 (And.intro a3 (And.intro a4 (And.intro a5 r6)))))
    clear a1 a2 a3 a4 a5 hE1 hb4 r4 hfl h1 h2 hs3 r3 hs0 hl4 r5 r6 hmend hW4
    go_wp2
    obtain ⟨a1, a2, a3, a4, a5, r6⟩ := G2.out
    obtain ⟨hE1, hb4, r4, hfl, h1, h2, hs3, r3⟩ := G.out
    obtain ⟨h, hw, hl1, hl4, hel, hc, hcw, hfc, hff, hbW, hs0, r0, hO, h0⟩ := HH.out
    have hres := Evo.res (u := .string xk) (v := .int .i64 xi) h hbW (by omega) ((hE1.trans (Evo.below hE1.own hb4)).trans a1)
    obtain ⟨W7, hW7⟩ : ∃ W7, ((w5.setCell ⟨w.heap.size, 0, none⟩ (.string xk)).setCell ⟨w.heap.size, 1, none⟩ (.int .i64 xi)) = W7 := ⟨_, rfl⟩
    have r7 : W7.heap[w.heap.size]? = some (.cells #[.string xk, .int .i64 xi] 34) := by rw [← hW7, heap_setCell_at (heap_setCell_at r6)]; rfl
    rw [hW7] at hres ⊢
    have f0 : W7.cell? ⟨w.heap.size, 0, none⟩ = some (.string xk) := by simp [World.cell?, r7]
    have f1 : W7.cell? ⟨w.heap.size, 1, none⟩ = some (.int .i64 xi) := by simp [World.cell?, r7]
    exact bodyPost_ret (v := .agg #[.string xk, .int .i64 xi]) (by simp [results, Try.results37, go_sem, f0, f1]) rfl ⟨rfl, _, hres, a2, a3.trans hfl, by omega, by omega⟩
end Go.Proofs.Ytoaekmighinmhaa

namespace Go.Proofs.Ytoaekmighinmhaa
open Go.RowKit

section
variable {n i : Nat} {w w' : World} {t c c' : Nd} {e x : En}
/-- what is there behind del. -/
def DelV (n : Nat) (w : World) (t : Nd) (e : En) (w' : World) : Prop :=
  ∃ t', Evo n w t w' t' ∧ WfN n t' ∧ flatN n t' = delE e (flatN n t) ∧ t.es.length - 1 ≤ t'.es.length ∧ t'.es.length ≤ t.es.length ∧ (hasE e (flatN n t) = false → t' = t)
theorem DelV.same (h : Own n w t) (hw : WfN n t) (hs : SortE (flatN n t)) (hh : hasE e (flatN n t) = false) (hb : Below w.heap.size w w') : DelV n w t e w' :=
  ⟨t, Evo.below h hb, hw, (del_gone hs (hasE_not.1 hh)).symm, Nat.sub_le _ _, Nat.le_refl _, fun _ => rfl⟩
theorem del_leaf {l : List En} (hs : SortE l) (hn : hasE e l = true) : delE e l = l.take (ahE e l) ++ l.drop (ahE e l + 1) := by
  have h1 := (ah_find hs).2 (hasE_iff.1 hn)
  have h2 := split_at h1
  have h3 : SortE (l.take (ahE e l) ++ e :: l.drop (ahE e l + 1)) := by rw [← h2]; exact hs
  have h4 := del_at h3
  rw [← h2] at h4
  exact h4
/-- another entry in an entry's stead. -/
theorem evo_es {es' : List En} (h : Own (n + 1) w t) (e1 : Ev1 w t w' { t with es := es' }) (hl : es'.length = t.es.length) : Evo (n + 1) w t w' { t with es := es' } := by
  have hS : St w (t :: []) := own_st (A := t.kids) (D := []) (mid := []) h (by simp)
  have hP : Stp w [t] w' [{ t with es := es' }] := St.at (A := []) (D := []) hS e1
  have := evo_regroup (A := t.kids) (D := []) (mid := []) (mid' := []) h (by simp) hP rfl (by simp) (by
    show _ = es'.length + 1
    rw [hl]; have := h.1.2.1; simpa using this) rfl (fun _ x hx => by cases hx)
  simpa using this
theorem flat_swap {fc : List En} (hw : t.kids.length = t.es.length + 1) (hc : t.kids[i]? = some c) (he : t.es[i]? = some e) (hfc : flatN n c = fc ++ [x]) (hfc' : flatN n c' = fc) (hs : SortE (flatN (n + 1) t)) :
    flatN (n + 1) { t with es := t.es.set i x, kids := t.kids.set i c' } = delE e (flatN (n + 1) t) := by
  have hi := (List.getElem?_eq_some_iff.1 he).1
  have hic := (List.getElem?_eq_some_iff.1 hc).1
  obtain ⟨r, hr⟩ : ∃ r, t.kids[i + 1]? = some r := ⟨_, List.getElem?_eq_getElem (by omega)⟩
  have hlen : (t.kids.map (flatN n)).length = t.es.length + 1 := by rw [List.length_map]; exact hw
  have hFi : (t.kids.map (flatN n))[i]? = some (flatN n c) := by rw [List.getElem?_map, hc]; rfl
  have hFr : (t.kids.map (flatN n))[i + 1]? = some (flatN n r) := by rw [List.getElem?_map, hr]; rfl
  have e1 := inter_turn (es := t.es) (ks := t.kids.map (flatN n)) (i := i) (a := flatN n c') (b := flatN n r) (m := x) hlen hi
  have e2 : (t.kids.set i c').map (flatN n) = (t.kids.map (flatN n)).take i ++ flatN n c' :: flatN n r :: (t.kids.map (flatN n)).drop (i + 2) := by
    rw [List.map_set, set_at _ hFi]
    congr 2
    have hj := (List.getElem?_eq_some_iff.1 hFr).1
    have h6 := List.drop_eq_getElem_cons hj
    have h7 : (t.kids.map (flatN n))[i + 1] = flatN n r := by rw [List.getElem?_eq_getElem hj] at hFr; exact Option.some.inj hFr
    rw [h7] at h6
    exact h6
  have e3 := inter_kid hlen hFi
  have e4 := rgt_step hlen he hFr
  have e5 : flatN (n + 1) t = (lftN i t.es (t.kids.map (flatN n)) ++ fc ++ [x]) ++ e :: (flatN n r ++ rgtN (i + 1) t.es (t.kids.map (flatN n))) := by
    show inter t.es (t.kids.map (flatN n)) = _
    rw [e3, e4, hfc]; simp
  rw [e5] at hs ⊢
  rw [del_at hs]
  show inter (t.es.set i x) ((t.kids.set i c').map (flatN n)) = _
  rw [e2, set_at x he, e1, hfc']
  simp
end

set_option maxRecDepth 100000 in
set_option maxHeartbeats 4000000 in
theorem del0_any (t : Nd) (e : En) (w : World) (h : Own 0 w t) (hl : t.es.length ≤ 4) (hs : SortE t.es) :
    Calls Try.prog 27 #[.pointer (some ⟨t.b, 0, none⟩), .agg #[.string e.1, .int .i64 e.2]] w fun r w' => r = .returned (.bool (hasE e t.es)) ∧ DelV 0 w t e w' := by
  obtain ⟨ek, ei⟩ := e
  obtain ⟨W0, hW0, hwW, hs0, k0, k1⟩ := box_any w ek ei
  have hO0 := h.below hwW
  have hsh := hO0.1.sh
  have hpl := place_any (ek, ei) W0 hsh hs (by omega)
  have hz : t.kids.length = 0 := by rw [h.1.2]; rfl
  have hlf := fun W (hW : Below W0.heap.size W0 W) => leaf_any W (hsh.below hW)
  rw [hz] at hlf
  obtain ⟨q, hq⟩ : ∃ q, ahE (ek, ei) t.es = q := ⟨_, rfl⟩
  rw [hq] at hpl
  cases hp : hasE (ek, ei) t.es with
  | false =>
    rw [hp] at hpl
    have hfin := fun w' hb => DelV.same (e := (ek, ei)) (w' := w') h h.1.2 hs hp hb
    clear h hO0 hsh hs hz hq hp
    go_enter Try.func27, Try.ntmps27
    go_wp2_with fail
    refine hpl.mono ?_
    rintro e w1 ⟨rfl, hb1⟩
    have hlf1 := hlf w1 hb1
    have hb := hwW.trans (hb1.mono hwW.size)
    clear hpl hlf hb1 hwW hs0 hW0 k0 k1
    go_wp2_with fail
    refine hlf1.mono ?_
    rintro e w2 ⟨rfl, rfl⟩
    go_wp2
    go_ret
    exact ⟨rfl, hfin _ hb⟩
  | true =>
    rw [hp] at hpl
    have hx : t.es[q]? = some (ek, ei) := by rw [← hq]; exact (ah_find hs).2 (hasE_iff.1 hp)
    have HH := (show Hid _ from And.intro h (And.intro hs (And.intro hq (And.intro hp hx))))
    clear h hO0 hsh hs hz hq hp hx
    go_enter Try.func27, Try.ntmps27
    go_wp2_with fail
    refine hpl.mono ?_
    rintro e w1 ⟨rfl, hb1⟩
    have hlf1 := hlf w1 hb1
    have hb := hwW.trans (hb1.mono hwW.size)
    clear hpl hlf hb1 hwW hs0 hW0 k0 k1
    go_wp2_with fail
    refine hlf1.mono ?_
    rintro e w2 ⟨rfl, rfl⟩
    clear hlf1
    have hO2 := HH.out.1.below hb
    have htake := takeE_any t q (ek, ei) w2 hO2.1.sh hO2.2 HH.out.2.2.2.2 (by omega)
    clear hO2
    go_wp2_with fail
    refine htake.mono ?_
    rintro e w3 ⟨rfl, s3, hE3, ho3⟩
    have G := (show Hid _ from hE3)
    clear hE3 ho3 htake
    go_wp2
    go_ret
    obtain ⟨h, hs, hq, hp, hx⟩ := HH.out
    have hE := Evo.later h hb (G.out.evo0 h.1.2)
    have hqi := (List.getElem?_eq_some_iff.1 hx).1
    refine ⟨rfl, _, hE, h.1.2, ?_, ?_, ?_, fun hc => by rw [show flatN 0 t = t.es from rfl, hp] at hc; cases hc⟩
    · show t.es.take q ++ t.es.drop (q + 1) = delE (ek, ei) t.es
      rw [del_leaf hs hp, hq]
    · show _ ≤ (t.es.take q ++ t.es.drop (q + 1)).length
      simp; omega
    · show (t.es.take q ++ t.es.drop (q + 1)).length ≤ _
      simp; omega
end Go.Proofs.Ytoaekmighinmhaa
