/-
  TreeRaw's walk. No conditions beyond those stated.
-/
import Derived.Test.YtgnhillnikjnfaaBBoth
namespace Go.Proofs.Ytgnhillnikjnfaa
open Go.RowKit

/-- entries that came in. -/
def EnsAt (W : World) (s : Value) (l : List En) : Prop :=
  ∃ (a : Option Addr) (cap : Nat), s = .slice a l.length cap ∧ l.length ≤ cap ∧ cap ≤ 9223372036854775807 ∧
    (l ≠ [] → ∃ b o, a = some ⟨b, o, none⟩ ∧ ∀ (j : Nat) (x : En), l[j]? = some x → W.cell? ⟨b, o + j * 2, none⟩ = some (.string x.1) ∧ W.cell? ⟨b, o + j * 2 + 1, none⟩ = some (.int .i64 x.2))
theorem EnsAt.below {W W' : World} {s : Value} {l : List En} (h : EnsAt W s l) (hb : Below W.heap.size W W') : EnsAt W' s l := by
  obtain ⟨a, cap, h1, h2, h3, h5⟩ := h
  refine ⟨a, cap, h1, h2, h3, fun hne => ?_⟩
  obtain ⟨b, o, h6, h7⟩ := h5 hne
  exact ⟨b, o, h6, fun j e hj => by
    obtain ⟨c1, c2⟩ := h7 j e hj
    exact ⟨(hb.cell (lt_of_cell c1)).trans c1, (hb.cell (lt_of_cell c2)).trans c2⟩⟩
theorem EnsAt.slice {W : World} {s : Value} {l : List En} (h : EnsAt W s l) : ∃ a cap, s = .slice a l.length cap ∧ l.length ≤ cap ∧ cap ≤ 9223372036854775807 := by
  obtain ⟨a, cap, h1, h2, h3, _⟩ := h
  exact ⟨a, cap, h1, h2, h3⟩
theorem EnsAt.take {W : World} {a : Option Addr} {n cap : Nat} {l : List En} (h : EnsAt W (.slice a n cap) l) (m : Nat) : EnsAt W (.slice a (min m l.length) cap) (l.take m) := by
  obtain ⟨a', cap', h1, h2, h3, h5⟩ := h
  simp only [Value.slice.injEq] at h1
  refine ⟨a, cap, by rw [List.length_take], by rw [List.length_take]; omega, by omega, fun hne => ?_⟩
  obtain ⟨b, o, h6, h7⟩ := h5 (fun e => hne (by rw [e]; simp))
  refine ⟨b, o, h1.1.trans h6, fun j e hj => h7 j e ?_⟩
  rw [List.getElem?_take] at hj
  split at hj
  · exact hj
  · cases hj
theorem EnsAt.at {W : World} {a : Option Addr} {n cap : Nat} {l : List En} (h : EnsAt W (.slice a n cap) l) {j : Nat} {x : En} (hj : l[j]? = some x) :
    ∃ b o, a = some ⟨b, o, none⟩ ∧ W.cell? ⟨b, o + j * 2, none⟩ = some (.string x.1) ∧ W.cell? ⟨b, o + j * 2 + 1, none⟩ = some (.int .i64 x.2) := by
  obtain ⟨a', cap', h1, h2, h3, h5⟩ := h
  obtain ⟨b, o, h6, h7⟩ := h5 (fun e => by rw [e] at hj; simp at hj)
  obtain ⟨c1, c2⟩ := h7 j x hj
  simp only [Value.slice.injEq] at h1
  exact ⟨b, o, h1.1.trans h6, c1, c2⟩
set_option maxRecDepth 100000 in
set_option maxHeartbeats 8000000 in
theorem TreeRaw_walk (v0 : Value) (ens : List En) (rk : ByteArray) (ri : Int) (w : World) (ha : EnsAt w v0 ens) :
    Calls Try.prog 9 #[v0, .agg #[.string rk, .int .i64 ri]] w fun e w' => e = .returned (.bool true) ∧ Below w.heap.size w w' := by
  obtain ⟨WB, hWB, hbB, hsB, j0, j1⟩ := box_any w rk ri
  obtain ⟨a, cap, rfl, hc1, hc2⟩ := ha.slice
  have hat := (ha.below hbB).take 60
  obtain ⟨N, hN⟩ : ∃ N, min 60 ens.length = N := ⟨_, rfl⟩
  rw [hN] at hat
  have hNl : (ens.take 60).length = N := by rw [List.length_take, hN]
  obtain ⟨al, has⟩ : ∃ al, ens.take 60 = al := ⟨_, rfl⟩
  rw [has] at hat hNl
  have hm0 : 0 ≤ min (ens.length : Int) 60 := by omega
  have hm1 : min (ens.length : Int) 60 ≤ (cap : Int) := by omega
  have hmn : (min (ens.length : Int) 60).toNat = N := by omega
  have hN80 : N ≤ 60 := by omega
  have HH := (show Hid _ from And.intro hat (And.intro hNl (And.intro hbB (And.intro j0 (And.intro j1 hsB)))))
  have haw := awake_any WB
  clear hat ha has hN hNl hbB hsB j0 j1
  go_enter Try.func9, Try.ntmps9
  go_wp2_with fail
  refine haw.mono ?_
  rintro e w1 ⟨rfl, hB1⟩
  clear haw
  go_wp2_with fail
  refine (New_any w1).mono ?_
  rintro e w2 ⟨T, rfl, ht2, hb2⟩
  have H2 : Hid (Both WB w2 T [] (.slice none 0 0) []) := Both.new hB1 ht2 hb2
  clear ht2 hb2 hB1
  go_wp2_with fail
  go_loopg [6, 8, 9, 10, 27] N (fun gg lv _ _ _ i wr => ∃ (k : Nat) (l : List En), k ≤ N ∧ N - k ≤ gg ∧ i = .int .i64 k ∧ Aside (Both WB wr T l lv l ∧ l.length ≤ k))
  case atStart => exact ⟨0, [], Nat.zero_le _, by omega, rfl, H2.out, Nat.le_refl _⟩
  case round =>
    obtain ⟨k, l, hk, hgg, rfl, A⟩ := hrel
    obtain ⟨hT, hl⟩ := A.out
    clear A H2
    obtain ⟨la, lc, rfl⟩ := hT.slice
    obtain ⟨L, hL⟩ : ∃ L, l.length = L := ⟨_, rfl⟩
    rw [hL] at hT hl ⊢
    by_cases hlt : k < N
    · obtain ⟨hat, hNl, -⟩ := HH.out
      obtain ⟨⟨ek, ei⟩, he⟩ : ∃ e, al[k]? = some e := ⟨_, List.getElem?_eq_getElem (by omega)⟩
      obtain ⟨b, o, rfl, c0, c1⟩ := (hat.below hT.below).at he
      simp only at c0 c1
      have zk : (k : Int) < (N : Int) := by omega
      obtain ⟨W6, hW6, hb6, hs6, n0, n1⟩ := box_any wr ek ei
      have H6 : Hid (Both WB W6 T l (.slice la L lc) l ∧ l.length ≤ k) := ⟨hT.same hb6, by omega⟩
      have HK := (show Hid _ from And.intro hk hgg)
      have hwith := H6.out.1.With (ek, ei) true (by have := H6.out.2; omega)
      obtain ⟨z, hz⟩ : ∃ z, hasE (ek, ei) l = z := ⟨_, rfl⟩
      obtain ⟨y, hy⟩ : ∃ y, (!z) = y := ⟨_, rfl⟩
      rw [hz, show (z != true) = !z by cases z <;> rfl, hy] at hwith
      have HY : Hid ((!z) = y) := hy
      have HW := (show Hid _ from hwith)
      have HZ : Hid (hasE (ek, ei) l = z) := hz
      clear hat hNl he hT hl hb6 hk hgg hL hwith hz hy
      go_wp2_with fail
      refine Calls.mono HW.out ?_
      rintro e w7 ⟨v7, rfl, ht7, hb7⟩
      have n0' := (hb7.cell (p := ⟨wr.heap.size, 0, none⟩) (by show wr.heap.size < _; omega)).trans n0
      have n1' := (hb7.cell (p := ⟨wr.heap.size, 1, none⟩) (by show wr.heap.size < _; omega)).trans n1
      have hadd := ht7.add (ek, ei) (by have := H6.out.2; omega)
      rw [HZ.out, HY.out] at hadd
      have HA := (show Hid _ from hadd)
      clear hadd ht7 hb7 n0 n1 HW
      go_wp2_with fail
      refine Calls.mono HA.out ?_
      rintro e w8 ⟨rfl, ht8⟩
      have H8 : Hid (Both WB w8 T (insE (ek, ei) l) v7 (insE (ek, ei) l) ∧ (insE (ek, ei) l).length ≤ k + 1) := ⟨ht8, by have := H6.out.2; have := len_with (ek, ei) false l; show (withL _ _ _).length ≤ _; omega⟩
      clear ht8 HA H6 HZ
      go_wp2
      go_roundg (N - (k + 1))
      case measure => (have := HK.out; clear hm0 hm1 hmn; omega)
      case rel =>
        obtain ⟨z1, z2⟩ := HK.out
        clear HH hm0 hm1 hmn
        exact ⟨k + 1, insE (ek, ei) l, by omega, by omega, by simp, H8.out⟩
    · obtain rfl : N = k := by omega
      obtain ⟨wo, rfl⟩ : ∃ wo, wo = wr := ⟨_, rfl⟩
      obtain ⟨-, -, hbB, j0, j1, hsB⟩ := HH.out
      have J0 := (hT.below.cell (p := ⟨w.heap.size, 0, none⟩) (by show w.heap.size < _; omega)).trans j0
      have J1 := (hT.below.cell (p := ⟨w.heap.size, 1, none⟩) (by show w.heap.size < _; omega)).trans j1
      obtain ⟨BR, hr⟩ := hT.row
      have hwith := With_any l _ BR (rk, ri) false wo hr (by omega)
      obtain ⟨z, hz⟩ : ∃ z, hasE (rk, ri) l = z := ⟨_, rfl⟩
      rw [hz, show (z != false) = z by cases z <;> rfl] at hwith
      have HW := (show Hid _ from hwith)
      have HT : Hid (Both WB wo T l (.slice la L lc) l ∧ l.length = L ∧ L ≤ N ∧ hasE (rk, ri) l = z ∧ Below w.heap.size w WB ∧ WB.heap.size = w.heap.size + 1) := ⟨hT, hL, hl, hz, hbB, hsB⟩
      have hwo : w.heap.size < wo.heap.size := by have := hT.below.size; omega
      have zk : ¬ (N : Int) < (N : Int) := by omega
      clear hbB j0 j1 hsB hr hwith hz hT hL hl hk hgg hlt hm0 hm1 hmn
      go_wp2_with fail
      refine Calls.mono HW.out ?_
      rintro e w4 ⟨v4, rfl, ho4⟩
      have H4 : Hid (Both WB w4 T l (.slice la L lc) l) := HT.out.1.same ho4.below
      have K0 := (ho4.below.cell (p := ⟨w.heap.size, 0, none⟩) hwo).trans J0
      have K1 := (ho4.below.cell (p := ⟨w.heap.size, 1, none⟩) hwo).trans J1
      obtain ⟨F, hF⟩ := H4.out.tree
      have hhas := HasT_any (rk, ri) w4 hF
      rw [HT.out.2.2.2.1] at hhas
      have HS := (show Hid _ from hhas)
      have hall := fun (W : World) (hb : Below w4.heap.size w4 W) => All_any W (hF.below hb) (by have := HT.out; omega)
      have HA := (show Hid _ from hall)
      clear ho4 hF hhas hall J0 J1 HW
      go_wp2_with fail
      refine Calls.mono HS.out ?_
      rintro e w5 ⟨rfl, hb5⟩
      have H5 : Hid (Below w4.heap.size w4 w5) := hb5
      clear hb5 HS K0 K1
      go_wp2_with fail
      refine Calls.mono (HA.out _ H5.out) ?_
      rintro e w6 ⟨v6, rfl, B6, ho6⟩
      have H6 : Hid (Both WB w6 T l (.slice la L lc) l) := (H4.out.same H5.out).same ho6.below
      obtain ⟨BR, hr⟩ := H6.out.row
      have hsame := Same_any l l B6 BR v6 (.slice la L lc) w6 ho6.own hr (by have := HT.out; omega)
      rw [decide_eq_true rfl] at hsame
      have HS := (show Hid _ from hsame)
      clear hr hsame ho6 HA H4 H5
      go_wp2_with fail
      refine Calls.mono HS.out ?_
      rintro e w7 ⟨rfl, hb7⟩
      have H7 : Hid (Both WB w7 T l (.slice la L lc) l) := H6.out.same hb7
      clear hb7 H6 HS
      go_wp2_with fail
      go_loopg [13, 14, 15] L (fun gg iv _ _ wr => ∃ i : Nat, i ≤ L ∧ i ≤ gg ∧ iv = .int .i64 i ∧ Aside (Both WB wr T l (.slice la L lc) l))
      case atStart => exact ⟨L, Nat.le_refl _, Nat.le_refl _, rfl, H7.out⟩
      case round =>
        obtain ⟨i, hi, hgg, rfl, A⟩ := hrel
        have hT := A.out
        clear A H7
        by_cases hi0 : i = 0
        · have HX : Hid (Below WB.heap.size WB wr) := hT.below
          have zi : ¬ (0 : Int) < (i : Int) := by omega
          clear hT
          go_wp2
          go_ret
          exact ⟨rfl, HT.out.2.2.2.2.1.trans (HX.out.mono HT.out.2.2.2.2.1.size)⟩
        · obtain ⟨i', hi'⟩ : ∃ i', i = i' + 1 := ⟨i - 1, by omega⟩
          have zi : (0 : Int) < (i : Int) := by omega
          have zi1 : (i : Int) - 1 = (i' : Int) := by omega
          have zil : i' < L := by omega
          obtain ⟨BR, hr⟩ := hT.row
          have hL := HT.out.2.1
          obtain ⟨⟨xk, xi⟩, hx⟩ : ∃ x, l[i']? = some x := ⟨_, List.getElem?_eq_getElem (by omega)⟩
          obtain ⟨Q, c, hv, hc3, hc4, d0, d1, -⟩ := row_entry hr hx
          rw [hL] at hv hc3
          obtain ⟨rfl, rfl⟩ : la = some ⟨Q, 0, none⟩ ∧ lc = c := by
            simp only [Value.slice.injEq, true_and] at hv; exact hv
          dsimp only at d0 d1
          obtain ⟨F, hF⟩ := hT.tree
          have hs := hF.sort
          have hbef := BeforeT_any (xk, xi) wr hF
          by_cases hi1 : i' = 0
          · have hnone : beforeE (xk, xi) l = none := before_low fun x hxm => by
              subst hi1
              cases l with
              | nil => cases hxm
              | cons u l =>
                obtain rfl : u = (xk, xi) := by simpa using hx
                rcases List.mem_cons.1 hxm with rfl | hxm
                · exact ltE_irrefl
                · exact ltE_asymm ((List.pairwise_cons.1 hs).1 x hxm)
            rw [hnone, retO_none] at hbef
            subst hi1
            rw [Nat.zero_mul] at d0 d1
            have zi2 : (i : Int) - 1 = 0 := by omega
            clear zi1
            have HBF := (show Hid _ from hbef)
            have HTr : Hid (Both WB wr T l (.slice (some ⟨Q, 0, none⟩) L lc) l) := hT
            have hd : decide ((1 : Int) < (i : Int)) = false := decide_eq_false (by omega)
            have hd2 : ¬ (1 : Int) < (i : Int) := by omega
            have HI : Hid (i = 0 + 1) := hi'
            clear hT hr hL hx hv hF hs hbef hnone hi'
            go_wp2_with fail
            refine Calls.mono HBF.out ?_
            rintro e w8 ⟨rfl, hb8⟩
            obtain ⟨W9, hW9, hb9, hs9, m0, m1⟩ := box_any w8 ⟨#[]⟩ 0
            have H9 : Hid (Both WB W9 T l (.slice (some ⟨Q, 0, none⟩) L lc) l) := (HTr.out.same hb8).same hb9
            have HW9 := (show Hid _ from hW9)
            clear hb8 hb9 hs9 HTr HBF d0 d1 hW9
            go_wp2_with fail
            rw [HW9.out]
            go_quiet (fail)
            go_wp2_with fail
            go_roundg 0
            case measure => have := HI.out; omega
            case rel =>
              have hB0 : Below W9.heap.size W9 W9 := Below.refl _ _
              exact ⟨0, by omega, Nat.le_refl _, by simp, H9.out.same ⟨hB0.os, hB0.tape, hB0.output, hB0.size, hB0.block⟩⟩
          · obtain ⟨i2, hi2⟩ : ∃ i2, i' = i2 + 1 := ⟨i' - 1, by omega⟩
            have zi2 : (i : Int) - 2 = (i2 : Int) := by omega
            have zi2l : i2 < L := by omega
            obtain ⟨⟨yk, yi⟩, hy⟩ : ∃ y, l[i2]? = some y := ⟨_, List.getElem?_eq_getElem (by omega)⟩
            have hsome : beforeE (xk, xi) l = some (yk, yi) := before_at hs hy (by rw [← hi2]; exact hx)
            rw [hsome, retO_some] at hbef
            have HBF := (show Hid _ from hbef)
            have HTr : Hid (Both WB wr T l (.slice (some ⟨Q, 0, none⟩) L lc) l) := hT
            have HY : Hid (l[i2]? = some (yk, yi) ∧ l.length = L) := ⟨hy, hL⟩
            have hd : decide ((1 : Int) < (i : Int)) = true := decide_eq_true (by omega)
            have hd2 : (1 : Int) < (i : Int) := by omega
            have HI : Hid (i = i' + 1) := hi'
            clear hT hr hL hx hv hF hs hbef hsome hy hi2 hi'
            go_wp2_with fail
            refine Calls.mono HBF.out ?_
            rintro e w8 ⟨rfl, hb8⟩
            obtain ⟨W9, hW9, hb9, hs9, m0, m1⟩ := box_any w8 yk yi
            have H9 : Hid (Both WB W9 T l (.slice (some ⟨Q, 0, none⟩) L lc) l) := (HTr.out.same hb8).same hb9
            obtain ⟨BR, hr⟩ := H9.out.row
            obtain ⟨Q', c', hv, -, -, e0, e1, -⟩ := row_entry hr HY.out.1
            rw [HY.out.2] at hv
            obtain ⟨rfl, rfl⟩ : Q = Q' ∧ lc = c' := by
              simp only [Value.slice.injEq, Option.some.injEq, Addr.mk.injEq, true_and, and_true] at hv; exact hv
            dsimp only at e0 e1
            clear hb8 hb9 hs9 HTr HBF d0 d1 hr hv
            go_wp2_with fail
            go_quiet (fail)
            go_wp2_with fail
            go_roundg i'
            case measure => have := HI.out; omega
            case rel =>
              have hB0 : Below W9.heap.size W9 W9 := Below.refl _ _
              exact ⟨i', by omega, Nat.le_refl _, by simp, H9.out.same ⟨hB0.os, hB0.tape, hB0.output, hB0.size, hB0.block⟩⟩
end Go.Proofs.Ytgnhillnikjnfaa
