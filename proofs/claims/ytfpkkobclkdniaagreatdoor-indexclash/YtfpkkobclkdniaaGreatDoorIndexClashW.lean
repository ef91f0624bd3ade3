/-
  IndexClash's walk. No conditions beyond those stated.
-/
import Derived.Test.YtfpkkobclkdniaaGreatDoorU24
import Derived.Test.YtfpkkobclkdniaaGreatDoorIFilled
import Derived.Test.YtfpkkobclkdniaaGreatDoorIClash
namespace Go.Proofs.YtfpkkobclkdniaaGreatDoor
open Go.RowKit

theorem box2 {w W : World} {a b : Value} (h : w.alloc (.cells #[a, b] 58) = W) : Below w.heap.size w W ∧ W.heap[w.heap.size]? = some (.cells #[a, b] 58 (0, 0)) := by
  subst h
  exact ⟨(Below.refl _ _).alloc (Nat.le_refl _) _, heap_alloc_new _ _⟩
set_option maxRecDepth 100000 in
set_option maxHeartbeats 16000000 in
theorem IndexClash_walk (n : Int) (h0 : 0 ≤ n) (v1 : Value) (ls : List (List UInt8)) (v2 : Value) (en : List En) (c3 : Bool) (w : World) (hl : BssAt w v1 ls) (he : EnsAt w v2 en) (hE : PEnv w ∧ Tabs w) :
    Calls Tryz.prog 6 #[.int .u8 n, v1, v2, .bool c3] w fun e w' => e = .returned (.bool true) ∧ Below w.heap.size w w' := by
  obtain ⟨hE, hT⟩ := hE
  obtain ⟨nm, path, uu, ps, S⟩ := specK n h0 true
  have haw := iawake_true w hE
  obtain ⟨la, lcap, rfl, -, -⟩ := hl.slice
  obtain ⟨ea, ecap, rfl, hec1, hec2⟩ := he.slice
  have het := he.take 30
  obtain ⟨G, hG⟩ : ∃ G, min 30 en.length = G := ⟨_, rfl⟩
  obtain ⟨E, hEn⟩ : ∃ E, en.length = E := ⟨_, rfl⟩
  have hGl : (en.take 30).length = G := by rw [List.length_take, hG]
  obtain ⟨et, hett⟩ : ∃ et, en.take 30 = et := ⟨_, rfl⟩
  rw [hG, hett] at het
  rw [hett] at hGl
  rw [hEn] at hec1 hG ⊢
  have hm0 : 0 ≤ min (E : Int) 30 := by omega
  have hm1 : min (E : Int) 30 ≤ (ecap : Int) := by omega
  have hmn : (min (E : Int) 30).toNat = G := by omega
  have HH := (show Hid _ from And.intro hl (And.intro het (And.intro hE (And.intro hT (And.intro S (And.intro hGl (show G ≤ 30 by omega)))))))
  clear hl he het hE hT S hG hec2 hGl hett hEn
  go_enter Tryz.func6, Tryz.ntmps6
  go_wp2_with fail
  refine haw.mono ?_
  rintro e w1 ⟨rfl, hb1⟩
  have hfil := Filled_any _ ls w1 (HH.out.1.below hb1) (HH.out.2.2.2.1.below hb1)
  obtain ⟨B, hBd⟩ : ∃ B, w1.heap.size = B := ⟨_, rfl⟩
  obtain ⟨q, hq⟩ : ∃ q, min 30 ls.length = q := ⟨_, rfl⟩
  rw [hBd, hq] at hfil
  have H1 := (show Hid _ from hb1)
  clear haw hb1 hBd hq
  go_wp2_with fail
  refine hfil.mono ?_
  rintro e w4 ⟨M, rs, rfl, h4, f4⟩
  have H4 := (show Hid _ from And.intro h4 f4)
  clear hfil h4 f4
  cases c3 with
  | false =>
    have hens := HH.out.2.1.below (H1.out.trans (H4.out.1.b.mono H1.out.size))
    obtain ⟨hN, hN30⟩ := HH.out.2.2.2.2.2
    have hcl := Clash_any et _ w4 hens (by omega)
    obtain ⟨l, hl⟩ : ∃ l, et = l := ⟨_, rfl⟩
    obtain ⟨a, ha⟩ : ∃ a, ea = a := ⟨_, rfl⟩
    obtain ⟨N, hNN⟩ : ∃ N, G = N := ⟨_, rfl⟩
    rw [hl, ha, hNN] at hcl hens
    rw [hl, hNN] at hN
    have hN5 : N ≤ 500 := by omega
    have H7 := (show Hid _ from And.intro hens (And.intro hN (H1.out.trans (H4.out.1.b.mono H1.out.size))))
    rw [ha]
    rw [hNN] at hmn
    clear hens hN hN30 hl ha hNN HH H1 H4
    go_wp2_with fail
    refine hcl.mono ?_
    rintro e w8 ⟨ck, ci, ok, rfl, hca, hb8⟩
    obtain ⟨W9, hW9⟩ : ∃ W, w8.alloc (.cells #[.string ck, .int .i64 ci] 58) = W := ⟨_, rfl⟩
    obtain ⟨hb9, r9⟩ := box2 hW9
    obtain ⟨hens, hN, hbw⟩ := H7.out
    have hb89 := hb8.trans (hb9.mono hb8.size)
    obtain ⟨Z, hZ⟩ : ∃ Z, w8.heap.size = Z := ⟨_, rfl⟩
    rw [hZ] at r9
    have H9 := (show Hid _ from And.intro (hens.below hb89) (And.intro hN (And.intro (hbw.trans (hb89.mono hbw.size)) (And.intro r9 hca))))
    clear hcl hca hb8 hb9 r9 hens hN hbw hb89 H7
    try clear hm0 hm1 hmn hec1
    go_wp2_with fail
    try rw [hW9]
    try rw [hZ]
    clear hW9 hZ
    go_loopg [14] N (fun gg i wq => ∃ m : Nat, m ≤ N ∧ N - m ≤ gg ∧ i = .int .i64 ((m : Int) + 1) ∧ Aside (Below W9.heap.size W9 wq ∧ ∀ q, 0 < q → q < m + 1 → ¬ Cl l q))
    case atStart => exact ⟨0, Nat.zero_le _, by omega, by simp, Below.refl _ _, fun q h0 h1 => by omega⟩
    case round =>
      obtain ⟨m, hm, hgg, rfl, A⟩ := hrel
      obtain ⟨hb, hno⟩ := A.out
      obtain ⟨hens, hN, hbw, r9, hca⟩ := H9.out
      have r1 := (hb.block _ (lt_of_heap r9)).trans r9
      by_cases hlt : m + 1 < N
      · obtain ⟨⟨xk, xi⟩, hx⟩ : ∃ x, l[m + 1]? = some x := ⟨_, List.getElem?_eq_getElem (by omega)⟩
        obtain ⟨⟨yk, yi⟩, hy⟩ : ∃ y, l[m]? = some y := ⟨_, List.getElem?_eq_getElem (by omega)⟩
        obtain ⟨b, o, rfl, c0, c1⟩ := (hens.below hb).at hx
        obtain ⟨b', o', e', d0, -⟩ := (hens.below hb).at hy
        simp only [Option.some.injEq, Addr.mk.injEq, and_true] at e'
        obtain ⟨rfl, rfl⟩ := e'
        have zj : wrap64 (m : Int) = (m : Int) := by unfold wrap64; omega
        have zjl : (m : Int) < (N : Int) := by omega
        have zj1 : (m : Int) + 1 < (N : Int) := by omega
        have zj2 : (0 : Int) ≤ (m : Int) + 1 := by omega
        dsimp only at c0 c1 d0
        have hck : Cl l (m + 1) ↔ xk = yk := cl_is hx hy
        have G0 := cell_regrown c0
        have G1 := cell_regrown d0
        by_cases hxy : xk = yk
        · subst hxy
          obtain ⟨rfl, rfl, rfl⟩ := hca.at (Nat.succ_pos m) (hck.2 rfl) hx hno
          have HK := (show Hid _ from And.intro hb (And.intro hbw (And.intro r1 (And.intro c0 c1))))
          clear hb hno hens hN hbw r9 hca r1 hx hy c0 c1 d0 hck A H9
          go_wp2_with fail
          refine wp_region_quiet_below mixedE (by kernel_rfl) ?_
          repeat go_big_quiet_step (fail)
          refine wpQuiet_nil ?_
          rintro w' ⟨⟨dq, osq⟩, hw'⟩
          have hb' : Below wr.heap.size wr w' := by rw [hw']; exact below_regrown _ dq osq
          obtain ⟨hb, hbw, r1, c0, c1⟩ := HK.out
          have k0 := (hb'.cell (lt_of_cell c0)).trans c0
          have k1 := (hb'.cell (lt_of_cell c1)).trans c1
          obtain ⟨e0, e1, -⟩ := row2_ofI ((hb'.block _ (lt_of_heap r1)).trans r1)
          have HF := (show Hid (Below w.heap.size w w') from hbw.trans ((hb.trans (hb'.mono hb.size)).mono hbw.size))
          clear hw' G0 G1 hb' hb hbw r1 c0 c1 HK
          have G0 := cell_regrown k0
          have G1 := cell_regrown k1
          have G2 := cell_regrown e0
          have G3 := cell_regrown e1
          clear k0 k1 e0 e1
          go_wp2_with fail
          refine wp_region_quiet_below mixedE (by kernel_rfl) ?_
          repeat go_big_quiet_step (fail)
          refine wpQuiet_nil ?_
          rintro w'' ⟨⟨dq2, osq2⟩, hw''⟩
          have HB2 : Hid (Below w'.heap.size w' w'') := by rw [hw'']; exact below_regrown _ dq2 osq2
          clear hw'' G0 G1 G2 G3
          go_wp2
          go_ret
          exact ⟨rfl, HF.out.trans (HB2.out.mono HF.out.size)⟩
        · have hxy' : (xk.toList == yk.toList) = false := by rw [beq_eq_false_iff_ne]; exact fun h => hxy (text_ext h)
          have HK := (show Hid _ from And.intro hb (And.intro hno (show ¬ Cl l (m + 1) from fun h => hxy (hck.1 h))))
          clear hb hno hens hN hbw r9 hca r1 hx hy c0 c1 d0 hck A
          go_wp2_with fail
          refine wp_region_quiet_below mixedE (by kernel_rfl) ?_
          repeat go_big_quiet_step (fail)
          refine wpQuiet_nil ?_
          rintro w' ⟨⟨dq, osq⟩, hw'⟩
          have HQ : Hid (Below wr.heap.size wr w') := by rw [hw']; exact below_regrown _ dq osq
          clear hw' G0 G1
          go_wp2
          go_roundg (N - (m + 1))
          case measure => omega
          case rel => exact ⟨m + 1, by omega, by omega, by go_num, HK.out.1.trans (HQ.out.mono HK.out.1.size), cl_more HK.out.2.1 HK.out.2.2⟩
      · have zj1 : ¬ (m : Int) + 1 < (N : Int) := by omega
        obtain ⟨rfl, rfl, rfl⟩ := hca.no fun q h0 h1 => hno q h0 (by omega)
        obtain ⟨e0, e1, -⟩ := row2_ofI r1
        have HF := (show Hid (Below w.heap.size w wr) from hbw.trans (hb.mono hbw.size))
        clear hb hno hens hN hbw r9 hca r1 A H9
        go_wp2
        go_ret
        exact ⟨rfl, HF.out⟩
  | true =>
    have hsp := HH.out.2.2.2.2.1.spec w4
    go_wp2_with fail
    refine hsp.mono ?_
    rintro e w5 ⟨rfl, hb5⟩
    obtain ⟨h4, f4⟩ := H4.out
    have h5 := h4.below hb5
    obtain ⟨hM, g, hm, hg⟩ := h5.p
    have hlof := HH.out.2.2.2.2.1.lof M q g rs _ w5 hm hg h5.h.2.1 f4.nice (by have := h5.h.2.2.2.2; omega)
    have hpl := Nat.le_trans (ofP_len ps rs) h5.h.2.2.2.2
    obtain ⟨l, hL⟩ : ∃ L, ofP ps rs = L := ⟨_, rfl⟩
    rw [hL] at hlof hpl
    have H5 := (show Hid _ from And.intro (H1.out.trans (h5.b.mono H1.out.size)) hpl)
    clear hsp hb5 h4 f4 h5 hM hm hg hpl hL hm0 hm1 hmn hec1
    go_wp2_with fail
    refine hlof.mono ?_
    rintro e w6 ⟨va, rfl, how⟩
    obtain ⟨a, cap, rfl⟩ := how.slice
    have hens := EnsAt.of_own how.own (by have := H5.out.2; omega)
    obtain ⟨N, hN⟩ : ∃ N, l.length = N := ⟨_, rfl⟩
    have hN5 : N ≤ 500 := by have := H5.out.2; omega
    rw [hN] at hens ⊢
    have hcl := Clash_any l _ w6 hens (by omega)
    have H7 := (show Hid _ from And.intro hens (And.intro hN (H5.out.1.trans (how.below.mono H5.out.1.size))))
    clear hlof how hens hN HH H1 H4 H5
    go_wp2_with fail
    refine hcl.mono ?_
    rintro e w8 ⟨ck, ci, ok, rfl, hca, hb8⟩
    obtain ⟨W9, hW9⟩ : ∃ W, w8.alloc (.cells #[.string ck, .int .i64 ci] 58) = W := ⟨_, rfl⟩
    obtain ⟨hb9, r9⟩ := box2 hW9
    obtain ⟨hens, hN, hbw⟩ := H7.out
    have hb89 := hb8.trans (hb9.mono hb8.size)
    obtain ⟨Z, hZ⟩ : ∃ Z, w8.heap.size = Z := ⟨_, rfl⟩
    rw [hZ] at r9
    have H9 := (show Hid _ from And.intro (hens.below hb89) (And.intro hN (And.intro (hbw.trans (hb89.mono hbw.size)) (And.intro r9 hca))))
    clear hcl hca hb8 hb9 r9 hens hN hbw hb89 H7
    try clear hm0 hm1 hmn hec1
    go_wp2_with fail
    try rw [hW9]
    try rw [hZ]
    clear hW9 hZ
    go_loopg [14] N (fun gg i wq => ∃ m : Nat, m ≤ N ∧ N - m ≤ gg ∧ i = .int .i64 ((m : Int) + 1) ∧ Aside (Below W9.heap.size W9 wq ∧ ∀ q, 0 < q → q < m + 1 → ¬ Cl l q))
    case atStart => exact ⟨0, Nat.zero_le _, by omega, by simp, Below.refl _ _, fun q h0 h1 => by omega⟩
    case round =>
      obtain ⟨m, hm, hgg, rfl, A⟩ := hrel
      obtain ⟨hb, hno⟩ := A.out
      obtain ⟨hens, hN, hbw, r9, hca⟩ := H9.out
      have r1 := (hb.block _ (lt_of_heap r9)).trans r9
      by_cases hlt : m + 1 < N
      · obtain ⟨⟨xk, xi⟩, hx⟩ : ∃ x, l[m + 1]? = some x := ⟨_, List.getElem?_eq_getElem (by omega)⟩
        obtain ⟨⟨yk, yi⟩, hy⟩ : ∃ y, l[m]? = some y := ⟨_, List.getElem?_eq_getElem (by omega)⟩
        obtain ⟨b, o, rfl, c0, c1⟩ := (hens.below hb).at hx
        obtain ⟨b', o', e', d0, -⟩ := (hens.below hb).at hy
        simp only [Option.some.injEq, Addr.mk.injEq, and_true] at e'
        obtain ⟨rfl, rfl⟩ := e'
        have zj : wrap64 (m : Int) = (m : Int) := by unfold wrap64; omega
        have zjl : (m : Int) < (N : Int) := by omega
        have zj1 : (m : Int) + 1 < (N : Int) := by omega
        have zj2 : (0 : Int) ≤ (m : Int) + 1 := by omega
        dsimp only at c0 c1 d0
        have hck : Cl l (m + 1) ↔ xk = yk := cl_is hx hy
        have G0 := cell_regrown c0
        have G1 := cell_regrown d0
        by_cases hxy : xk = yk
        · subst hxy
          obtain ⟨rfl, rfl, rfl⟩ := hca.at (Nat.succ_pos m) (hck.2 rfl) hx hno
          have HK := (show Hid _ from And.intro hb (And.intro hbw (And.intro r1 (And.intro c0 c1))))
          clear hb hno hens hN hbw r9 hca r1 hx hy c0 c1 d0 hck A H9
          go_wp2_with fail
          refine wp_region_quiet_below mixedE (by kernel_rfl) ?_
          repeat go_big_quiet_step (fail)
          refine wpQuiet_nil ?_
          rintro w' ⟨⟨dq, osq⟩, hw'⟩
          have hb' : Below wr.heap.size wr w' := by rw [hw']; exact below_regrown _ dq osq
          obtain ⟨hb, hbw, r1, c0, c1⟩ := HK.out
          have k0 := (hb'.cell (lt_of_cell c0)).trans c0
          have k1 := (hb'.cell (lt_of_cell c1)).trans c1
          obtain ⟨e0, e1, -⟩ := row2_ofI ((hb'.block _ (lt_of_heap r1)).trans r1)
          have HF := (show Hid (Below w.heap.size w w') from hbw.trans ((hb.trans (hb'.mono hb.size)).mono hbw.size))
          clear hw' G0 G1 hb' hb hbw r1 c0 c1 HK
          have G0 := cell_regrown k0
          have G1 := cell_regrown k1
          have G2 := cell_regrown e0
          have G3 := cell_regrown e1
          clear k0 k1 e0 e1
          go_wp2_with fail
          refine wp_region_quiet_below mixedE (by kernel_rfl) ?_
          repeat go_big_quiet_step (fail)
          refine wpQuiet_nil ?_
          rintro w'' ⟨⟨dq2, osq2⟩, hw''⟩
          have HB2 : Hid (Below w'.heap.size w' w'') := by rw [hw'']; exact below_regrown _ dq2 osq2
          clear hw'' G0 G1 G2 G3
          go_wp2
          go_ret
          exact ⟨rfl, HF.out.trans (HB2.out.mono HF.out.size)⟩
        · have hxy' : (xk.toList == yk.toList) = false := by rw [beq_eq_false_iff_ne]; exact fun h => hxy (text_ext h)
          have HK := (show Hid _ from And.intro hb (And.intro hno (show ¬ Cl l (m + 1) from fun h => hxy (hck.1 h))))
          clear hb hno hens hN hbw r9 hca r1 hx hy c0 c1 d0 hck A
          go_wp2_with fail
          refine wp_region_quiet_below mixedE (by kernel_rfl) ?_
          repeat go_big_quiet_step (fail)
          refine wpQuiet_nil ?_
          rintro w' ⟨⟨dq, osq⟩, hw'⟩
          have HQ : Hid (Below wr.heap.size wr w') := by rw [hw']; exact below_regrown _ dq osq
          clear hw' G0 G1
          go_wp2
          go_roundg (N - (m + 1))
          case measure => omega
          case rel => exact ⟨m + 1, by omega, by omega, by go_num, HK.out.1.trans (HQ.out.mono HK.out.1.size), cl_more HK.out.2.1 HK.out.2.2⟩
      · have zj1 : ¬ (m : Int) + 1 < (N : Int) := by omega
        obtain ⟨rfl, rfl, rfl⟩ := hca.no fun q h0 h1 => hno q h0 (by omega)
        obtain ⟨e0, e1, -⟩ := row2_ofI r1
        have HF := (show Hid (Below w.heap.size w wr) from hbw.trans (hb.mono hbw.size))
        clear hb hno hens hN hbw r9 hca r1 A H9
        go_wp2
        go_ret
        exact ⟨rfl, HF.out⟩
end Go.Proofs.YtfpkkobclkdniaaGreatDoor
