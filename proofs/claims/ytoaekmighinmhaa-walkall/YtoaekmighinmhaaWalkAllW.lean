/-
  WalkAll's walk. No conditions beyond those stated.
-/
import Derived.Test.YtoaekmighinmhaaWQ
import Derived.Test.YtoaekmighinmhaaWApp
import Derived.Test.YtoaekmighinmhaaU21
namespace Go.Proofs.Ytoaekmighinmhaa
open Go.RowKit

/-- a row that nobody wrote. -/
theorem OwE.other {w0 w w' : World} {B : Nat} {s : Value} {L : List En} (h : OwE w0 B s L w) (hb : Below w0.heap.size w0 w') (hk : ∀ b, s.ownBlock = some b → b < w.heap.size → w'.heap[b]? = w.heap[b]?) : OwE w0 B s L w' :=
  ⟨hb, own_keep h.own fun a ha => hk a (vc_ne ha) (own_lt h.own ha), h.le⟩
theorem OwE.base {w0 w1 w : World} {B : Nat} {s : Value} {L : List En} (h : OwE w1 B s L w) (hb : Below w0.heap.size w0 w1) : OwE w0 B s L w := ⟨hb.trans (h.below.mono hb.size), h.own, Nat.le_trans hb.size h.le⟩
theorem filter_snoc {l : List En} {fr to : ByteArray} {j : Nat} {x : En} (h : l[j]? = some x) : (l.take (j + 1)).filter (inE fr to) = (l.take j).filter (inE fr to) ++ if inE fr to x then [x] else [] := by
  rw [take_snoc h, List.filter_append]
  cases hx : inE fr to x <;> simp [hx]
theorem len_two (l : List En) (fr to : ByteArray) : (partE l fr to true).length = (partE l fr to false).length := by
  rw [part_up, ← part_turn l fr to, List.length_reverse]
set_option maxRecDepth 100000 in
set_option maxHeartbeats 8000000 in
theorem WalkAll_walk (v0 : Value) (acts : List Ac) (a b : Int) (hra : 0 ≤ a ∧ a < 256) (hrb : 0 ≤ b ∧ b < 256) (w : World) (ha : ActsAt w v0 acts) :
    Calls Try.prog 4 #[v0, .int .u8 a, .int .u8 b] w fun e w' => e = .returned (.bool true) ∧ Below w.heap.size w w' := by
  have hnr := fun dn w => near_any a b dn hra hrb w
  generalize frN a = fr at *
  generalize toN b = to at *
  have HNR := (show Hid _ from hnr)
  clear hnr hra hrb
  go_enter Try.func4, Try.ntmps4
  go_wp2_with fail
  refine (awake9_any w).mono ?_
  rintro e w1 ⟨rfl, hb1⟩
  have HL := (show Hid _ from laid_any v0 acts w1 (ha.below hb1))
  have HB1 := (show Hid _ from And.intro hb1 ha)
  clear hb1 ha
  go_wp2_with fail
  refine Calls.mono HL.out ?_
  rintro e w2 ⟨T, lv, l, rfl, hB, hln, hlow⟩
  obtain ⟨la, lc, rfl⟩ := hB.slice
  obtain ⟨N, hN⟩ : ∃ N, l.length = N := ⟨_, rfl⟩
  rw [hN] at hB hln ⊢
  have HB : Hid (Both w1 w2 T l (.slice la N lc) l ∧ N ≤ 60 ∧ LowE l ∧ Below w.heap.size w w2 ∧ l.length = N) := ⟨hB, hln, hlow, HB1.out.1.trans (hB.below.mono HB1.out.1.size), hN⟩
  clear hB hln hlow HL HB1 hN
  go_wp2_with fail
  refine Calls.mono (HNR.out false w2) ?_
  rintro e w3 ⟨rfl, hb3⟩
  obtain ⟨W4, hW4, hb4, hs4, r4⟩ := boxR_any w3 fr to false
  have hb34 : Below w2.heap.size w2 W4 := hb3.trans (hb4.mono hb3.size)
  have hs3 : w2.heap.size ≤ w3.heap.size := hb3.size
  have R4 := (show Hid _ from And.intro r4 hb34)
  have HWZ := (show Hid _ from hW4)
  clear hb3 hb4 r4 hb34 hW4
  go_wp2_with fail
  rw [HWZ.out]
  clear HWZ
  refine Calls.mono (HNR.out true W4) ?_
  rintro e w5 ⟨rfl, hb5⟩
  obtain ⟨W6, hW6, hb6, hs6, r6⟩ := boxR_any w5 fr to true
  have hb56 : Below W4.heap.size W4 W6 := hb5.trans (hb6.mono hb5.size)
  have hs5 : W4.heap.size ≤ w5.heap.size := hb5.size
  have R6 : Hid (Rg W6 w3.heap.size fr to false ∧ Rg W6 w5.heap.size fr to true ∧ Below w2.heap.size w2 W6) := ⟨Rg.below R4.out.1 hb56, r6, R4.out.2.trans (hb56.mono R4.out.2.size)⟩
  clear hb5 hb6 r6 hb56 R4 HNR
  go_wp2_with fail
  obtain ⟨g0, g1, g2, -, -⟩ := Rg.view R6.out.1
  obtain ⟨k0, k1, k2, -, -⟩ := Rg.view R6.out.2.1
  have P0 := fun (w' : World) (h : Below W6.heap.size W6 w') => (h.cell (lt_of_cell g0)).trans g0
  have P1 := fun (w' : World) (h : Below W6.heap.size W6 w') => (h.cell (lt_of_cell g1)).trans g1
  have P2 := fun (w' : World) (h : Below W6.heap.size W6 w') => (h.cell (lt_of_cell g2)).trans g2
  have P3 := fun (w' : World) (h : Below W6.heap.size W6 w') => (h.cell (lt_of_cell k0)).trans k0
  have P4 := fun (w' : World) (h : Below W6.heap.size W6 w') => (h.cell (lt_of_cell k1)).trans k1
  have P5 := fun (w' : World) (h : Below W6.heap.size W6 w') => (h.cell (lt_of_cell k2)).trans k2
  have h0 : (fun w' : World => Below W6.heap.size W6 w') W6.drew := (Below.refl _ _).drew
  clear g0 g1 g2 k0 k1 k2 hs6 hs4
  refine wp_region_held (S := fun w' => Below W6.heap.size W6 w') mixed ?_
  refine wpAnyH_take (i := 0) (oi := ⟨_, _, _, _, _, _⟩) (v := ?v1) rfl (by kernel_rfl) (by kernel_rfl) (by kernel_rfl) (fun _ _ _ h => h) (Or.inl ⟨by rfl, ?hy1⟩) h0 ?rest1
  case hy1 => (intro w hSw; (try dsimp only at hSw); go_simp; try with_reducible rfl)
  simp only [Act.put, List.setIfInBounds_toArray, List.set_cons_zero, List.set_cons_succ]
  refine wpAnyH_take (i := 1) (oi := ⟨_, _, _, _, _, _⟩) (v := ?v2) rfl (by kernel_rfl) (by kernel_rfl) (by kernel_rfl) (fun _ _ _ h => h) (Or.inl ⟨by rfl, ?hy2⟩) h0 ?rest2
  case hy2 => (intro w hSw; (try dsimp only at hSw); go_simp; try with_reducible rfl)
  simp only [Act.put, List.setIfInBounds_toArray, List.set_cons_zero, List.set_cons_succ]
  refine wpAnyH_take (i := 3) (oi := ⟨_, _, _, _, _, _⟩) (v := ?v3) rfl (by kernel_rfl) (by kernel_rfl) (by kernel_rfl) (fun _ _ _ h => h) (Or.inl ⟨by rfl, ?hy3⟩) h0 ?rest3
  case hy3 => (intro w hSw; (try dsimp only at hSw); go_simp; try with_reducible rfl)
  simp only [Act.put, List.setIfInBounds_toArray, List.set_cons_zero, List.set_cons_succ]
  refine wpAnyH_take (i := 4) (oi := ⟨_, _, _, _, _, _⟩) (v := ?v4) rfl (by kernel_rfl) (by kernel_rfl) (by kernel_rfl) (fun _ _ _ h => h) (Or.inl ⟨by rfl, ?hy4⟩) h0 ?rest4
  case hy4 => (intro w hSw; (try dsimp only at hSw); go_simp; try with_reducible rfl)
  simp only [Act.put, List.setIfInBounds_toArray, List.set_cons_zero, List.set_cons_succ]
  clear P0 P1 P2 P3 P4 P5
  refine wpAnyH_ready (rs := [2]) (by kernel_rfl) (by simp) ?_
  refine AllReadyH.cons (o := ⟨_, _, _, _, _, _⟩) rfl (fun K hK => ?_) AllReadyH.nil
  go_simp
  refine (WNew_any W6.drew T fr to false).mono ?_
  rintro e w7 ⟨X, rfl, hk7, hX7, hb7⟩
  have h3 : Below W6.heap.size W6 w7 := Below.drop_drew hb7
  have hX7' : W6.heap.size ≤ X := hX7
  have hl7 : X < w7.heap.size := lt_of_heap hk7
  clear hb7 hX7
  refine hK.out _ _ h3 (fun hHeld => ?_)
  clear hK K hHeld
  try simp only [Act.put, List.setIfInBounds_toArray, List.set_cons_zero, List.set_cons_succ]
  refine wpAnyH_ready (rs := [5]) (by kernel_rfl) (by simp) ?_
  refine AllReadyH.cons (o := ⟨_, _, _, _, _, _⟩) rfl (fun K hK => ?_) AllReadyH.nil
  go_simp
  refine (WNew_any w7 T fr to true).mono ?_
  rintro e wc ⟨Y, rfl, hk8, hX8, hb8⟩
  have h4 : Below W6.heap.size W6 wc := h3.trans (hb8.mono h3.size)
  have h3s := h3.size
  have HC : Hid (Wk wc X T fr to false none ∧ Wk wc Y T fr to true none ∧ X ≠ Y ∧ w2.heap.size ≤ X ∧ w2.heap.size ≤ Y ∧ Below w2.heap.size w2 wc ∧ Rg wc w3.heap.size fr to false) := by
    have := R6.out.2.2.size
    exact ⟨Wk.below hk7 hb8, hk8, by omega, by omega, by omega, R6.out.2.2.trans (h4.mono R6.out.2.2.size), Rg.below R6.out.1 h4⟩
  clear hk7 hk8 hb8
  refine hK.out _ _ h4 (fun hHeld => ?_)
  clear hK K hHeld
  try simp only [Act.put, List.setIfInBounds_toArray, List.set_cons_zero, List.set_cons_succ]
  refine wpAnyH_ready (rs := [6]) (by kernel_rfl) (by simp) ?_
  refine AllReadyH.cons (o := ⟨_, _, _, _, _, _⟩) rfl (fun K hK => ?_) AllReadyH.nil
  go_simp
  refine hK.out _ _ h4 (fun hHeld => ?_)
  clear hK K hHeld
  try simp only [Act.put, List.setIfInBounds_toArray, List.set_cons_zero, List.set_cons_succ]
  refine wpAnyH_ready (rs := [7]) (by kernel_rfl) (by simp) ?_
  refine AllReadyH.cons (o := ⟨_, _, _, _, _, _⟩) rfl (fun K hK => ?_) AllReadyH.nil
  go_simp
  refine hK.out _ _ h4 (fun hHeld => ?_)
  clear hK K hHeld
  try simp only [Act.put, List.setIfInBounds_toArray, List.set_cons_zero, List.set_cons_succ]
  refine wpAnyH_done (by kernel_rfl) ?_ _
  clear h0 h3 h4 h3s hX7' hX8 R6
  go_wp2_with fail
  go_loopg [13, 17, 53] N (fun gg sv _ iv wr => ∃ (j : Nat), j ≤ N ∧ N - j ≤ gg ∧ iv = .int .i64 j ∧ Aside (OwE wc wc.heap.size sv ((l.take j).filter (inE fr to)) wr))
  case atStart => exact ⟨0, Nat.zero_le _, by omega, rfl, OwE.nil (Below.refl _ _) (Nat.le_refl _)⟩
  case round =>
    obtain ⟨j, hjN, hgg, rfl, HR⟩ := hrel
    have HQ := (show Hid _ from HR.out)
    clear HR
    by_cases hj : j < N
    · obtain ⟨hB, -, -, -, hN⟩ := HB.out
      obtain ⟨BR, hrow⟩ := hB.row
      have hb2r : Below w2.heap.size w2 wr := HC.out.2.2.2.2.2.1.trans (HQ.out.below.mono HC.out.2.2.2.2.2.1.size)
      have hrw := own_keep (W' := wr) hrow fun a ha => hb2r.block a (own_lt hrow ha)
      obtain ⟨⟨xk, xi⟩, hy⟩ : ∃ y, l[j]? = some y := ⟨_, List.getElem?_eq_getElem (by omega)⟩
      obtain ⟨B, c, hv, hc1, hc2, e0, e1, -⟩ := row_entry hrw hy
      rw [hN] at hv hc1
      obtain ⟨rfl, rfl⟩ : la = some ⟨B, 0, none⟩ ∧ lc = c := by
        simp only [Value.slice.injEq, true_and] at hv; exact hv
      dsimp only at e0 e1
      have zj : (j : Int) < (N : Int) := by omega
      obtain ⟨WA, hWA, hbA, hsA, rA⟩ := boxE_any wr xk xi
      have rR := Rg.below (Rg.below HC.out.2.2.2.2.2.2 HQ.out.below) hbA
      obtain ⟨g0, g1, g2, -, -⟩ := Rg.view rR
      obtain ⟨x0, x1, xf, xl⟩ := row2_of rA
      have HK := (show Hid _ from And.intro hjN (And.intro hgg (And.intro (filter_snoc (fr := fr) (to := to) hy) (And.intro rA (HQ.out.same hbA)))))
      have hlen : ((l.take j).filter (inE fr to)).length ≤ 60 := Nat.le_trans (List.length_filter_le _ _) (by rw [List.length_take]; have := HB.out.2.1; omega)
      have HLE := (show Hid _ from hlen)
      clear hB hrow hb2r hrw hy hv hN hjN hgg hbA rR rA HQ hlen
      have hin := In_any (xk, xi) fr to false WA
      cases hi : inE fr to (xk, xi) with
      | true =>
        rw [hi] at hin
        have HI := (show Hid _ from And.intro hin hi)
        clear hin hi
        go_wp2_with fail
        refine Calls.mono HI.out.1 ?_
        rintro e w7 ⟨rfl, hb7⟩
        have H7 := (show Hid _ from HK.out.2.2.2.2.same hb7)
        have hs7 := hb7.size
        have hwc7 : wc.heap.size ≤ w7.heap.size := H7.out.below.size
        obtain ⟨x0, x1, xf, xl⟩ := row2_of (Bx.below HK.out.2.2.2.1 hb7)
        clear hb7 g0 g1 g2
        go_wp2_with (first | (at_builtin; refine append_en2 rfl (.tmp 60) (.tmp 62) rfl H7.out hwc7 (xk, xi) rfl _ rfl rfl (by have := HLE.out; omega) ?_; intro s1 u1 h1 hz1 hk1 ho1; have H1 := (show Hid _ from h1); clear h1 hz1 hk1 ho1))
        go_roundg (N - (j + 1))
        case measure => (obtain ⟨h6, h7, -⟩ := HK.out; clear HK; omega)
        case rel =>
          obtain ⟨h6, h7, h8, -⟩ := HK.out
          refine ⟨j + 1, by omega, by omega, by simp, ?_⟩
          rw [h8, HI.out.2, if_pos rfl]; exact H1.out
      | false =>
        rw [hi] at hin
        have HI := (show Hid _ from And.intro hin hi)
        clear hin hi
        go_wp2_with fail
        refine Calls.mono HI.out.1 ?_
        rintro e w7 ⟨rfl, hb7⟩
        have H7 := (show Hid _ from HK.out.2.2.2.2.same hb7)
        clear hb7 g0 g1 g2 x0 x1 xf xl
        go_wp2
        go_roundg (N - (j + 1))
        case measure => (obtain ⟨h6, h7, -⟩ := HK.out; clear HK; omega)
        case rel =>
          obtain ⟨h6, h7, h8, -⟩ := HK.out
          refine ⟨j + 1, by omega, by omega, by simp, ?_⟩
          rw [h8, HI.out.2, if_neg Bool.false_ne_true, List.append_nil]; exact H7.out
    · obtain rfl : N = j := by omega
      obtain ⟨wl, rfl⟩ : ∃ wl, wl = wr := ⟨_, rfl⟩
      obtain ⟨J, hJ⟩ : ∃ J, partE l fr to false = J := ⟨_, rfl⟩
      obtain ⟨K, hKe⟩ : ∃ K, partE l fr to true = K := ⟨_, rfl⟩
      have hin0 : (l.take N).filter (inE fr to) = J := by rw [List.take_of_length_le (Nat.le_of_eq HB.out.2.2.2.2), ← hJ]; rfl
      have HQ2 := (show Hid _ from HQ.out)
      have hqq := HQ.out
      rw [hin0] at hqq
      have HI : Hid (OwE wc wc.heap.size u13 J wl) := hqq
      have hJl : J.length ≤ 60 := by rw [← hJ]; exact Nat.le_trans (len_part _ _ _ _) (by have := HB.out.2.1; have := HB.out.2.2.2.2; omega)
      have hKl : K.length = J.length := by rw [← hKe, ← hJ]; exact len_two l fr to
      have hKr : K.reverse = J := by rw [← hKe, ← hJ]; exact part_turn l fr to
      have hsl : SortE l := Both.sort HB.out.1
      have hnJ : ∀ j, nextE l fr to false (markE J j) = J[j]? := fun j => by rw [← hJ]; exact next_mark hsl fr to false j
      have hnK : ∀ j, nextE l fr to true (markE K j) = K[j]? := fun j => by rw [← hKe]; exact next_mark hsl fr to true j
      have HP := (show Hid _ from And.intro hJl (And.intro hKl (And.intro hKr (And.intro hnJ hnK))))
      have hwcl : wc.heap.size ≤ wl.heap.size := HI.out.below.size
      have hXc : X < wc.heap.size := lt_of_heap HC.out.1
      have hYc : Y < wc.heap.size := lt_of_heap HC.out.2.1
      have hX2 : w2.heap.size ≤ X := HC.out.2.2.2.1
      have hY2 : w2.heap.size ≤ Y := HC.out.2.2.2.2.1
      have hXY : X ≠ Y := HC.out.2.2.1
      have L0 : Hid (Wk wl X T fr to false (markE J 0) ∧ Wk wl Y T fr to true (markE K 0) ∧ OwE w2 wc.heap.size u13 J wl) := ⟨by rw [mark_zero]; exact Wk.below HC.out.1 HI.out.below, by rw [mark_zero]; exact Wk.below HC.out.2.1 HI.out.below, HI.out.base HC.out.2.2.2.2.2.1⟩
      have hi13 : ∀ g, u13.ownBlock = some g → g < wl.heap.size := fun g hg => (HI.out.own.lt g hg).2
      have HI13 := (show Hid _ from hi13)
      have zj : ¬ (N : Int) < (N : Int) := by omega
      clear hin0 HQ2 hqq HQ hJl hKl hKr hsl hnJ hnK hJ hKe HC HI hi13 hgg hj hjN
      go_wp2_with fail
      go_loopg [14, 15, 18, 19, 20, 21, 65] 70 (fun gg su sd _ _ _ _ iv wq => ∃ (j : Nat), j ≤ 70 ∧ 70 - j ≤ gg ∧ iv = .int .i64 j ∧ Aside (wl.heap.size ≤ wq.heap.size ∧ Wk wq X T fr to false (markE J j) ∧ Wk wq Y T fr to true (markE K j) ∧ OwE w2 wc.heap.size u13 J wq ∧ OwE w2 wl.heap.size su (J.take j) wq ∧ OwE w2 wl.heap.size sd (K.take j).reverse wq ∧ (∀ g, su.ownBlock = some g → sd.ownBlock ≠ some g)))
      case atStart => exact ⟨0, Nat.zero_le _, by omega, rfl, Nat.le_refl _, L0.out.1, L0.out.2.1, L0.out.2.2, OwE.nil L0.out.2.2.below L0.out.2.2.below.size, OwE.nil L0.out.2.2.below L0.out.2.2.below.size, fun g hg => by cases hg⟩
      case round =>
        obtain ⟨j, hjN, hgg, rfl, HR⟩ := hrel
        have HQ := (show Hid _ from HR.out)
        clear HR L0
        by_cases hj : j < 70
        · have zj : (j : Int) < 70 := by omega
          obtain ⟨F, ht⟩ := Both.tree HB.out.1
          have hn1 := WNext_on ht HB.out.2.2.1 HQ.out.2.2.2.1.below hX2 HQ.out.2.1
          rw [HP.out.2.2.2.1, mark_step] at hn1
          have hn2 := fun (wx : World) (hb : Below w2.heap.size w2 wx) (hk : Wk wx Y T fr to true (markE K j)) => WNext_on ht HB.out.2.2.1 hb hY2 hk
          rw [HP.out.2.2.2.2, mark_step] at hn2
          have HN1 := (show Hid _ from hn1)
          have HN2 := (show Hid _ from hn2)
          have hwlq : wl.heap.size ≤ wr.heap.size := HQ.out.1
          clear ht hn1 hn2
          by_cases hjJ : j < J.length
          · obtain ⟨⟨xk, xi⟩, hx⟩ : ∃ x, J[j]? = some x := ⟨_, List.getElem?_eq_getElem hjJ⟩
            obtain ⟨⟨yk, yi⟩, hy⟩ : ∃ y, K[j]? = some y := ⟨_, List.getElem?_eq_getElem (by rw [HP.out.2.1]; exact hjJ)⟩
            have HN1' : Hid (Calls Try.prog 17 #[.pointer (some ⟨X, 0, none⟩)] wr fun r w' => r = .returned (.tuple #[.agg #[.string xk, .int .i64 xi], .bool true]) ∧ Wk w' X T fr to false (markE J (j + 1)) ∧ Below w2.heap.size w2 w' ∧ Far (fun a => a = X) wr w') := by have h := HN1.out; rw [hx] at h; exact h
            have HN2' : Hid (∀ wx : World, Below w2.heap.size w2 wx → Wk wx Y T fr to true (markE K j) → Calls Try.prog 17 #[.pointer (some ⟨Y, 0, none⟩)] wx fun r w' => r = .returned (.tuple #[.agg #[.string yk, .int .i64 yi], .bool true]) ∧ Wk w' Y T fr to true (markE K (j + 1)) ∧ Below w2.heap.size w2 w' ∧ Far (fun a => a = Y) wx w') := by have h := HN2.out; rw [hy] at h; exact h
            have HXY := (show Hid _ from And.intro (take_snoc hx) (take_snoc hy))
            clear HN1 HN2 hx hy hjJ
            go_wp2_with fail
            refine Calls.mono HN1'.out ?_
            rintro e w6 ⟨rfl, hk6, hb6, hf6⟩
            obtain ⟨W7, hW7, hb7, hs7, r7⟩ := boxE_any w6 xk xi
            have hs6 := hf6.size
            have Q7 : Hid (Wk W7 X T fr to false (markE J (j + 1)) ∧ Wk W7 Y T fr to true (markE K j) ∧ OwE w2 wc.heap.size u13 J W7 ∧ OwE w2 wl.heap.size u14 (J.take j) W7 ∧ OwE w2 wl.heap.size u15 (K.take j).reverse W7 ∧ (∀ g, u14.ownBlock = some g → u15.ownBlock ≠ some g)) := by
              obtain ⟨-, i1, i2, i3, i4, i5, i6⟩ := HQ.out
              exact ⟨Wk.below hk6 hb7, Wk.below (Wk.far i2 hf6 (by omega)) hb7, (i3.far hf6 (by omega) hX2).same hb7, (i4.far hf6 (by omega) hX2).same hb7, (i5.far hf6 (by omega) hX2).same hb7, i6⟩
            obtain ⟨x0, x1, xf, xl⟩ := row2_of r7
            have hwl7 : wl.heap.size ≤ W7.heap.size := by omega
            clear hk6 hb6 hf6 hb7 r7 HN1' HQ
            go_wp2_with (first | (at_builtin; refine append_en2 rfl (.tmp 73) (.tmp 75) rfl Q7.out.2.2.2.1 hwl7 (xk, xi) rfl _ rfl hs7 (by rw [List.length_take]; omega) ?_; intro s1 u1 h1 hz1 hk1 ho1; have H1 := (show Hid _ from And.intro h1 (And.intro hk1 ho1)); clear h1 hk1 ho1))
            have Q8 : Hid (Wk u1 X T fr to false (markE J (j + 1)) ∧ Wk u1 Y T fr to true (markE K j) ∧ OwE w2 wc.heap.size u13 J u1 ∧ OwE w2 wl.heap.size s1 (J.take (j + 1)) u1 ∧ OwE w2 wl.heap.size u15 (K.take j).reverse u1 ∧ (∀ g, s1.ownBlock = some g → u15.ownBlock ≠ some g)) := by
              obtain ⟨i1, i2, i3, i4, i5, i6⟩ := Q7.out
              obtain ⟨h1, hk1, ho1⟩ := H1.out
              refine ⟨(hk1 X (by omega) (i4.ne (.inl (by omega)))).trans i1, (hk1 Y (by omega) (i4.ne (.inl (by omega)))).trans i2, i3.other h1.below fun b hb hlt => hk1 b hlt fun e => ?_, by rw [HXY.out.1]; exact h1, i5.other h1.below fun b hb hlt => hk1 b hlt fun e => i6 b e hb, fun g hg e => ?_⟩
              · have q1 := HI13.out b hb
                have q2 := (i4.own.lt b e).1
                omega
              · rcases ho1 g hg with h | h
                · exact i6 g h e
                · have := (i5.own.lt g e).2
                  omega
            clear Q7 H1 x0 x1 xf xl
            refine Calls.mono (HN2'.out _ Q8.out.2.2.1.below Q8.out.2.1) ?_
            rintro e w8 ⟨rfl, hk8, hb8, hf8⟩
            obtain ⟨W9, hW9, hb9, hs9, r9⟩ := boxE_any w8 yk yi
            have hs8 := hf8.size
            have Q9 : Hid (Wk W9 X T fr to false (markE J (j + 1)) ∧ Wk W9 Y T fr to true (markE K (j + 1)) ∧ OwE w2 wc.heap.size u13 J W9 ∧ OwE w2 wl.heap.size s1 (J.take (j + 1)) W9 ∧ OwE w2 wl.heap.size u15 (K.take j).reverse W9) := by
              obtain ⟨i1, i2, i3, i4, i5, i6⟩ := Q8.out
              exact ⟨Wk.below (Wk.far i1 hf8 hXY) hb9, Wk.below hk8 hb9, (i3.far hf8 (by omega) hY2).same hb9, (i4.far hf8 (by omega) hY2).same hb9, (i5.far hf8 (by omega) hY2).same hb9⟩
            obtain ⟨x0, x1, xf, xl⟩ := row2_of r9
            have hwl9 : wl.heap.size ≤ W9.heap.size := by omega
            clear hk8 hb8 hf8 hb9 r9 HN2' Q8
            go_wp2_with (first | (at_builtin; refine prepend_en rfl (.tmp 84) (.tmp 85) rfl Q9.out.2.2.2.2 hwl9 (yk, yi) rfl _ rfl hs9 (by rw [List.length_reverse, List.length_take]; omega) ?_; intro s2 u2 h1 hz2 hk1 ho1; have H1 := (show Hid _ from And.intro h1 (And.intro hk1 ho1)); clear h1 hk1 ho1))
            have Q10 : Hid (wl.heap.size ≤ u2.heap.size ∧ Wk u2 X T fr to false (markE J (j + 1)) ∧ Wk u2 Y T fr to true (markE K (j + 1)) ∧ OwE w2 wc.heap.size u13 J u2 ∧ OwE w2 wl.heap.size s1 (J.take (j + 1)) u2 ∧ OwE w2 wl.heap.size s2 (K.take (j + 1)).reverse u2 ∧ (∀ g, s1.ownBlock = some g → s2.ownBlock ≠ some g)) := by
              obtain ⟨i1, i2, i3, i4, i5⟩ := Q9.out
              obtain ⟨h1, hk1, ho1⟩ := H1.out
              refine ⟨by omega, (hk1 X (by omega)).trans i1, (hk1 Y (by omega)).trans i2, i3.other h1.below fun b hb hlt => hk1 b hlt, i4.other h1.below fun b hb hlt => hk1 b hlt, by rw [HXY.out.2, List.reverse_append]; exact h1, fun g hg e => ?_⟩
              have q1 := (i4.own.lt g hg).2
              have q2 := ho1 g e
              omega
            clear Q9 H1 x0 x1 xf xl
            go_roundg (70 - (j + 1))
            case measure => omega
            case rel => exact ⟨j + 1, by omega, by omega, by simp, Q10.out⟩
          · have hx : J[j]? = none := List.getElem?_eq_none (by omega)
            have hy : K[j]? = none := List.getElem?_eq_none (by have := HP.out.2.1; omega)
            have HN1' : Hid (Calls Try.prog 17 #[.pointer (some ⟨X, 0, none⟩)] wr fun r w' => r = .returned (.tuple #[.agg #[.string ⟨#[]⟩, .int .i64 0], .bool false]) ∧ Wk w' X T fr to false (markE J (j + 1)) ∧ Below w2.heap.size w2 w' ∧ Far (fun a => a = X) wr w') := by have h := HN1.out; rw [hx] at h; exact h
            have HN2' : Hid (∀ wx : World, Below w2.heap.size w2 wx → Wk wx Y T fr to true (markE K j) → Calls Try.prog 17 #[.pointer (some ⟨Y, 0, none⟩)] wx fun r w' => r = .returned (.tuple #[.agg #[.string ⟨#[]⟩, .int .i64 0], .bool false]) ∧ Wk w' Y T fr to true (markE K (j + 1)) ∧ Below w2.heap.size w2 w' ∧ Far (fun a => a = Y) wx w') := by have h := HN2.out; rw [hy] at h; exact h
            have HXY : Hid (J.take (j + 1) = J.take j ∧ K.take (j + 1) = K.take j) := ⟨by rw [List.take_add_one, hx]; simp, by rw [List.take_add_one, hy]; simp⟩
            clear HN1 HN2 hx hy hjJ
            go_wp2_with fail
            refine Calls.mono HN1'.out ?_
            rintro e w6 ⟨rfl, hk6, hb6, hf6⟩
            obtain ⟨W7, hW7, hb7, hs7, r7⟩ := boxE_any w6 ⟨#[]⟩ 0
            have HWZ := (show Hid _ from hW7)
            have hs6 := hf6.size
            have Q7 : Hid (Wk W7 X T fr to false (markE J (j + 1)) ∧ Wk W7 Y T fr to true (markE K j) ∧ OwE w2 wc.heap.size u13 J W7 ∧ OwE w2 wl.heap.size u14 (J.take j) W7 ∧ OwE w2 wl.heap.size u15 (K.take j).reverse W7 ∧ (∀ g, u14.ownBlock = some g → u15.ownBlock ≠ some g)) := by
              obtain ⟨-, i1, i2, i3, i4, i5, i6⟩ := HQ.out
              exact ⟨Wk.below hk6 hb7, Wk.below (Wk.far i2 hf6 (by omega)) hb7, (i3.far hf6 (by omega) hX2).same hb7, (i4.far hf6 (by omega) hX2).same hb7, (i5.far hf6 (by omega) hX2).same hb7, i6⟩
            clear hk6 hb6 hf6 hb7 r7 HN1' HQ hW7
            go_wp2_with fail
            rw [HWZ.out]
            clear HWZ
            refine Calls.mono (HN2'.out _ Q7.out.2.2.1.below Q7.out.2.1) ?_
            rintro e w8 ⟨rfl, hk8, hb8, hf8⟩
            have hb9 : Below w8.heap.size w8 (w8.alloc (.cells #[.string ⟨#[]⟩, .int .i64 0] 34)) := (Below.refl _ _).alloc (Nat.le_refl _) _
            have hs8 := hf8.size
            have Q9 : Hid (wl.heap.size ≤ (w8.alloc (.cells #[.string ⟨#[]⟩, .int .i64 0] 34)).heap.size ∧ Wk (w8.alloc (.cells #[.string ⟨#[]⟩, .int .i64 0] 34)) X T fr to false (markE J (j + 1)) ∧ Wk (w8.alloc (.cells #[.string ⟨#[]⟩, .int .i64 0] 34)) Y T fr to true (markE K (j + 1)) ∧ OwE w2 wc.heap.size u13 J (w8.alloc (.cells #[.string ⟨#[]⟩, .int .i64 0] 34)) ∧ OwE w2 wl.heap.size u14 (J.take (j + 1)) (w8.alloc (.cells #[.string ⟨#[]⟩, .int .i64 0] 34)) ∧ OwE w2 wl.heap.size u15 (K.take (j + 1)).reverse (w8.alloc (.cells #[.string ⟨#[]⟩, .int .i64 0] 34)) ∧ (∀ g, u14.ownBlock = some g → u15.ownBlock ≠ some g)) := by
              obtain ⟨i1, i2, i3, i4, i5, i6⟩ := Q7.out
              rw [HXY.out.1, HXY.out.2]
              have hs9 := hb9.size
              exact ⟨by omega, Wk.below (Wk.far i1 hf8 hXY) hb9, Wk.below hk8 hb9, (i3.far hf8 (by omega) hY2).same hb9, (i4.far hf8 (by omega) hY2).same hb9, (i5.far hf8 (by omega) hY2).same hb9, i6⟩
            clear hk8 hb8 hf8 hb9 HN2' Q7
            go_wp2
            go_roundg (70 - (j + 1))
            case measure => omega
            case rel => exact ⟨j + 1, by omega, by omega, by simp, Q9.out⟩
        · obtain rfl : j = 70 := by omega
          obtain ⟨-, -, -, i3, i4, i5, -⟩ := HQ.out
          have hJ70 : J.take 70 = J := List.take_of_length_le (by have := HP.out.1; omega)
          have hK70 : (K.take 70).reverse = J := by rw [List.take_of_length_le (by have := HP.out.1; have := HP.out.2.1; omega)]; exact HP.out.2.2.1
          rw [hJ70] at i4
          rw [hK70] at i5
          have hl6 : J.length ≤ 1000000 := by have := HP.out.1; omega
          have hs1 := Same_any J J _ _ _ _ wr i4.own i3.own hl6
          rw [decide_eq_true (rfl : J = J)] at hs1
          have HS1 := (show Hid _ from hs1)
          have HE := (show Hid _ from And.intro i3 (And.intro i5 hl6))
          clear i3 i4 i5 hJ70 hK70 hl6 hs1 HQ hgg hj hjN
          go_wp2_with fail
          refine Calls.mono HS1.out ?_
          rintro e w6 ⟨rfl, hb6⟩
          have hs2 := Same_any J J _ _ _ _ w6 (HE.out.2.1.same hb6).own (HE.out.1.same hb6).own HE.out.2.2
          rw [decide_eq_true (rfl : J = J)] at hs2
          have HS2 := (show Hid _ from hs2)
          have H6 := (show Hid _ from (HE.out.1.same hb6).below)
          clear hs2 hb6 HS1 HE
          go_wp2_with fail
          refine Calls.mono HS2.out ?_
          rintro e w7 ⟨rfl, hb7⟩
          have HF : Hid (Below w.heap.size w w7) := HB.out.2.2.2.1.trans ((H6.out.trans (hb7.mono H6.out.size)).mono HB.out.2.2.2.1.size)
          clear hb7 H6 HS2
          go_wp2
          go_ret
          exact ⟨rfl, HF.out⟩
end Go.Proofs.Ytoaekmighinmhaa
