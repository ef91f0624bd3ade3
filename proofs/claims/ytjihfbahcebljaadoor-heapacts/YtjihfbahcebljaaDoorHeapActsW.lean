/-
  HeapActs's walk. No conditions beyond those stated.
-/
import Derived.Test.YtjihfbahcebljaaDoorHLoop
namespace Go.Proofs.YtjihfbahcebljaaDoor
open Go.RowKit

set_option maxRecDepth 100000 in
set_option maxHeartbeats 8000000 in
theorem HeapActs_walk (v0 : Value) (acts : List Ac) (c1 : Int) (wc1 : (Lit.int .i64 c1).wf = true) (w : World) (ha : ActsAt w v0 acts) (hT : Tabs w) :
    Calls Tryd.prog 3 #[v0, .int .i64 c1] w fun e w' => e = .returned (.bool true) ∧ Below w.heap.size w w' := by
  obtain ⟨a, cap, rfl, hc1, hc2⟩ := ha.slice
  have hat := ha.take 60
  obtain ⟨N, hN⟩ : ∃ N, min 60 acts.length = N := ⟨_, rfl⟩
  rw [hN] at hat
  have hNl : (acts.take 60).length = N := by rw [List.length_take, hN]
  obtain ⟨al, has⟩ : ∃ al, acts.take 60 = al := ⟨_, rfl⟩
  rw [has] at hat hNl
  have hm0 : 0 ≤ min (acts.length : Int) 60 := by omega
  have hm1 : min (acts.length : Int) 60 ≤ (cap : Int) := by omega
  have hmn : (min (acts.length : Int) 60).toNat = N := by omega
  have hN80 : N ≤ 60 := by omega
  obtain ⟨zc, hzc⟩ : ∃ zc, c1 = zc := ⟨_, rfl⟩
  rw [hzc] at wc1 ⊢
  have HH := (show Hid _ from And.intro hat hT)
  have haw := hawake_true w
  have hmm := @run_makeMap Tryd.prog
  clear hat ha hT has hN
  go_enter Tryd.func3, Tryd.ntmps3
  go_wp2_with fail
  refine haw.mono ?_
  rintro e w1 ⟨rfl, hB1⟩
  clear haw
  go_wp2_with fail
  refine (NewH_any w1).mono ?_
  rintro e w2 ⟨rfl, h2, hb2⟩
  obtain ⟨B, hBd⟩ : ∃ B, w1.heap.size = B := ⟨_, rfl⟩
  rw [hBd] at h2
  have hB2 : Below w.heap.size w w2 := hB1.trans (hb2.mono hB1.size)
  have zB : w.heap.size ≤ B := by have := hB1.size; omega
  have hw2 : Below w2.heap.size w2 (w2.alloc (.map #[] 0)) := (Below.refl _ _).alloc (Nat.le_refl _) _
  have H2 : Hid (Lop B w2.heap.size w (w2.alloc (.map #[] 0)) [] 0 0) := ⟨h2.below hw2, pair_made h2.base_le, hB2.trans (hw2.mono hB2.size)⟩
  obtain ⟨M, hM⟩ : ∃ M, w2.heap.size = M := ⟨_, rfl⟩
  rw [hM] at H2
  rw [hBd]
  clear h2 hB2 hb2 hBd hB1 hw2
  go_wp2_with fail
  try rw [hM]
  go_loopg [7, 9, 10, 11, 12, 13, 14, 15, 16, 33] N (fun gg s9 _ _ _ _ _ _ _ _ i wr => ∃ (k : Nat) (rs : List Rec) (last : Int), k ≤ N ∧ N - k ≤ gg ∧ i = .int .i64 k ∧ s9 = .int .i64 last ∧ last ≤ k ∧ rs.length ≤ k ∧ Aside (Lop B M w wr rs last k))
  case atStart => exact ⟨0, [], 0, Nat.zero_le _, by omega, rfl, rfl, by simp, by simp, H2⟩
  case round =>
    obtain ⟨k, rs, last, hk, hgg, rfl, rfl, hlk, hrk, A⟩ := hrel
    by_cases hlt : k < N
    · obtain ⟨hat, hT⟩ := HH.out
      have hs : Lop B M w wr rs last k := A
      obtain ⟨⟨kd, id, eb, bs⟩, he⟩ : ∃ e, al[k]? = some e := ⟨_, List.getElem?_eq_getElem (by omega)⟩
      obtain ⟨b, o, ba, bc, rfl, -, c0, c1, c2, z0, z1, z2, z3, hbs⟩ := (hat.below hs.b).at he
      simp only at c0 c1 c2 z0 z1 z2 z3 hbs
      have zk : (k : Int) < (N : Int) := by omega
      have hw1 : ∀ ob, Below wr.heap.size wr (wr.alloc ob) := fun ob => (Below.refl _ _).alloc (Nat.le_refl _) _
      have hdo := fun ob => do_any kd id bs ba bc (wr.alloc ob) (hs.below (hw1 ob)).h (hs.below (hw1 ob)).p (by omega) (by omega) (by omega) z0 z2 (hbs.below (hw1 ob)) ((hT.below hs.b).below (hw1 ob))
      clear hat hT hs he hbs
      go_wp2_with fail
      refine (hdo _).mono ?_
      rintro e w3 ⟨rs', last', rfl, h3, hp3, hb3, hl3, hr3⟩
      have hs : Lop B M w wr rs last k := A
      have H4 : Hid (Lop B M w w3 rs' last' (k + 1)) := ⟨h3, hp3, (hs.below (hw1 _)).b.trans (hb3.mono zB)⟩
      clear hdo h3 hp3 hb3 hs hw1
      have zl61 : last' ≤ 61 := by omega
      have ZZ : Hid (N - (k + 1) < gk ∧ k + 1 ≤ N ∧ last' ≤ ((k + 1 : Nat) : Int) ∧ rs'.length ≤ k + 1) := ⟨by omega, by omega, by omega, by omega⟩
      have hn62 : k + 1 < 1000 := by omega
      clear hm0 hm1 hmn hc1 hc2 hNl hgg hlk hrk hl3 hr3 hk hlt z0 z1 z2 z3
      have h4 : Lop B M w w3 rs' last' (k + 1) := H4
      obtain ⟨hM4, g, hm4, hg4⟩ := h4.p
      have hlen : ∀ ty, (Builtin.len_ #[26] ty #[.map (some M)]).run Tryd.prog w3 = .ok (.int .i64 (rs'.length : Int)) w3 := fun ty => by
        obtain ⟨D, e1, e2, _⟩ := hm4
        rw [← e2]
        exact e1.len Tryd.underlying26 ty
      have hL := LenH_any w3 h4.h
      have hLa := LastH_any w3 h4.h
      have hl0 : 0 ≤ last' := h4.h.2.2.2.1
      obtain ⟨L, hLd⟩ : ∃ L : Nat, last' + 2 = (L : Int) := ⟨(last' + 2).toNat, by omega⟩
      have zl1 : Hid (wrap64 (last' + 1) = last' + 1) := wrap64_small (by omega) (by omega)
      have HM : Hid (MapOn mkV w3 M (k + 1) g rs'.length) := hm4
      have HG : Hid (Lp w3 g rs') := hg4
      have HL : Hid (last' + 2 = (L : Int)) := hLd
      clear hLd c0 c1 c2
      clear h4 hm4 hg4
      go_wp2_with fail
      refine hL.mono ?_
      rintro e w4 ⟨rfl, e4⟩
      rw [e4]
      clear e4 w4
      go_wp2_with fail
      refine hLa.mono ?_
      rintro e w4 ⟨rfl, e4⟩
      rw [e4]
      clear e4 w4
      clear hL hLa hlen
      go_wp2_with fail
      go_loopg [12, 13, 14, 15, 16] L (fun gg i _ _ _ _ wr => ∃ j : Nat, j ≤ L ∧ L - j ≤ gg ∧ i = .int .i64 j ∧ Aside (Below w3.heap.size w3 wr))
      case atStart => exact ⟨0, Nat.zero_le _, by omega, rfl, Below.refl _ _⟩
      case round =>
        obtain ⟨j, hj, hgj, rfl, AB⟩ := hrel
        have hLd : last' + 2 = (L : Int) := HL
        by_cases hjl : (j : Int) ≤ last' + 1
        · have h4 : Lop B M w w3 rs' last' (k + 1) := H4
          have zJ : (j : Int) ≤ 200 := by omega
          have y1 : -1000000 ≤ (j : Int) + 1 := by omega
          have y2 : (j : Int) + 1 ≤ 1000000 := by omega
          have y3 : -1000000 ≤ (j : Int) := by omega
          have y4 : (j : Int) ≤ 1000000 := by omega
          have YY : Hid (L - (j + 1) < gk ∧ j + 1 ≤ L ∧ L - (j + 1) ≤ L - (j + 1)) := ⟨by omega, by omega, Nat.le_refl _⟩
          clear hgj hj
          have zj : IntKind.i64.wrap ((j : Int) + 1) = (j : Int) + 1 := wrap_small y1 y2
          have zj2 : wrap64 ((j : Int) + 1) = (j : Int) + 1 := wrap64_small y1 y2
          have zwf : (Lit.int .i64 (j : Int)).wf = true := wf_small y3 y4
          have zl1' : wrap64 (last' + 1) = last' + 1 := zl1
          clear y1 y2 y3 y4 zJ hLd
          have hgt := GetH_any (j : Int) wr ((h4.h).below AB.out)
          obtain ⟨y, hy⟩ : ∃ y, getR (j : Int) rs' = y := ⟨_, rfl⟩
          have hgy := (HG : Lp w3 g rs') (j : Int)
          rw [hy] at hgt hgy
          clear h4 hy
          cases y with
          | none =>
            have hgi : g (j : Int) = none := by
              have h6 := hgy.1
              cases hgj : g (j : Int) with
              | none => rfl
              | some m => rw [hgj] at h6; cases h6
            clear hgy
            go_wp2_with fail
            refine hgt.mono ?_
            rintro e w5 ⟨l, f, rfl, hl5, hb5⟩
            have hl5 : Lies 5 w5 zeroH l f := hl5
            obtain ⟨a1, e1, a2, e2, rfl, rfl⟩ := hl5.slices
            have hw5 : Below w3.heap.size w3 w5 := AB.out.trans (hb5.mono AB.out.size)
            have hz5 := hw5.size
            have hA : ∀ ob, Below w5.heap.size w5 (w5.alloc ob) := fun ob => (Below.refl _ _).alloc (Nat.le_refl _) _
            have hmA : ∀ ob, MapOn mkV (w5.alloc ob) M (k + 1) g rs'.length := fun ob => map_kept HM.out (below_kept (hw5.trans ((hA ob).mono hz5)))
            have hA2 : ∀ ob ob2, Below w5.heap.size w5 ((w5.alloc ob).alloc ob2) := fun ob ob2 => (hA ob).alloc (by simp) _
            have hsm := fun ob ob2 => same_self (hl5.below (hA2 ob ob2)) (lies_zero (n := 5) (W := (w5.alloc ob).alloc ob2))
            have H5 := (show Hid _ from And.intro hw5 hz5)
            clear hgt hl5 hb5
            simp only [Option.getD_none, Option.isSome_none]
            go_wp2_with (first | (at_lookup; refine wpList_mlook_ok_none rfl _ _ 26 rfl 38 Tryd.underlying26 (zeroValueV _) M (k + 1) g rs'.length rfl (hmA _) (j : Int) zwf rfl hgi ?_) | fail)
            refine (hsm _ _).mono ?_
            rintro e w6 ⟨rfl, hb6⟩
            have H6 := (show Hid _ from (H5.out.1.trans ((hA2 _ _).mono H5.out.2)).trans (hb6.mono (Nat.le_trans H5.out.2 (hA2 _ _).size)))
            clear hsm hb6 hmA hA hA2 hw5
            go_wp2
            go_roundg (L - (j + 1))
            case measure => exact YY.out.1
            case rel => exact ⟨j + 1, YY.out.2.1, YY.out.2.2, by go_num, H6.out⟩
          | some y =>
            obtain ⟨m, hgi, hmv⟩ : ∃ m, g (j : Int) = some m ∧ m.v = y := by
              have := hgy.1
              cases hgj : g (j : Int) with
              | none => rw [hgj] at this; cases this
              | some m => rw [hgj] at this; exact ⟨m, rfl, by simpa using this⟩
            have hlm : Lies 3 w3 m.v (.slice m.al m.v.list.length m.cl) (.slice m.af m.v.fields.length m.cf) := hgy.2 m hgi
            subst hmv
            clear hgy
            go_wp2_with fail
            refine hgt.mono ?_
            rintro e w5 ⟨l, f, rfl, hl5, hb5⟩
            have hl5 : Lies 5 w5 m.v l f := hl5
            obtain ⟨a1, e1, a2, e2, rfl, rfl⟩ := hl5.slices
            have hw5 : Below w3.heap.size w3 w5 := AB.out.trans (hb5.mono AB.out.size)
            have hz5 := hw5.size
            have hA : ∀ ob, Below w5.heap.size w5 (w5.alloc ob) := fun ob => (Below.refl _ _).alloc (Nat.le_refl _) _
            have hmA : ∀ ob, MapOn mkV (w5.alloc ob) M (k + 1) g rs'.length := fun ob => map_kept HM.out (below_kept (hw5.trans ((hA ob).mono hz5)))
            have hA2 : ∀ ob ob2, Below w5.heap.size w5 ((w5.alloc ob).alloc ob2) := fun ob ob2 => (hA ob).alloc (by simp) _
            have hsm := fun ob ob2 => same_self (hl5.below (hA2 ob ob2)) (Rep.le (hlm.below (hw5.trans ((hA2 ob ob2).mono hz5))) (by decide : 3 ≤ 5))
            have H5 := (show Hid _ from And.intro hw5 hz5)
            clear hgt hl5 hb5
            simp only [Option.getD_some, Option.isSome_some]
            go_wp2_with (first | (at_lookup; refine wpList_mlook_ok_some rfl _ _ 26 rfl 38 Tryd.underlying26 (zeroValueV _) M (k + 1) g rs'.length rfl (hmA _) (j : Int) zwf rfl m hgi ?_; unfold mkV) | fail)
            refine (hsm _ _).mono ?_
            rintro e w6 ⟨rfl, hb6⟩
            have H6 := (show Hid _ from (H5.out.1.trans ((hA2 _ _).mono H5.out.2)).trans (hb6.mono (Nat.le_trans H5.out.2 (hA2 _ _).size)))
            clear hsm hb6 hmA hA hA2 hw5
            go_wp2
            go_roundg (L - (j + 1))
            case measure => exact YY.out.1
            case rel => exact ⟨j + 1, YY.out.2.1, YY.out.2.2, by go_num, H6.out⟩
        · have zl1' : wrap64 (last' + 1) = last' + 1 := zl1
          clear hLd hgj hj
          go_wp2
          go_roundg (N - (k + 1))
          case measure => exact ZZ.out.1
          case rel => exact ⟨k + 1, rs', last', ZZ.out.2.1, Nat.le_refl _, by go_num, rfl, ZZ.out.2.2.1, ZZ.out.2.2.2, Lop.below (H4 : Lop B M w w3 rs' last' (k + 1)) AB.out⟩
    · obtain rfl : k = N := by omega
      have zk : ¬ (k : Int) < (k : Int) := by omega
      have hs : Lop B M w wr rs last k := A
      obtain ⟨hM4, g, hm4, hg4⟩ := hs.p
      have hgt := GetH_any zc wr hs.h
      obtain ⟨p, hp⟩ : ∃ p, (getR zc rs).isSome = p := ⟨_, rfl⟩
      rw [hp] at hgt
      have hgp := hg4.isSome zc
      rw [hp] at hgp
      have H9 := (show Hid _ from And.intro hs (And.intro hm4 hp))
      clear hs hm4 hg4 hp
      go_wp2_with fail
      refine hgt.mono ?_
      rintro e w5 ⟨l, f, rfl, hl5, hb5⟩
      obtain ⟨a1, e1, a2, e2, rfl, rfl⟩ := hl5.slices
      have hA : ∀ ob, Below w5.heap.size w5 (w5.alloc ob) := fun ob => (Below.refl _ _).alloc (Nat.le_refl _) _
      have hA2 : ∀ ob ob2, Below w5.heap.size w5 ((w5.alloc ob).alloc ob2) := fun ob ob2 => (hA ob).alloc (by simp) _
      have hmA : ∀ ob, MapOn mkV (w5.alloc ob) M k g rs.length := fun ob => map_kept H9.out.2.1 (below_kept (hb5.trans ((hA ob).mono hb5.size)))
      have hset := fun ob ob2 => SetH_any zc zeroH (.slice none 0 0) (.slice none 0 0) ((w5.alloc ob).alloc ob2) ((H9.out.1.h.below hb5).below (hA2 ob ob2)) lies_zero
      rw [H9.out.2.2] at hset
      have H10 := (show Hid _ from And.intro hb5 hb5.size)
      clear hl5 hb5 hgt
      cases hgi : g zc with
      | none =>
        rw [hgi] at hgp
        obtain rfl : p = false := hgp.symm
        clear hgp
        go_wp2_with (first | (at_lookup; refine wpList_mlook_ok_none rfl _ _ 26 rfl 38 Tryd.underlying26 (zeroValueV _) M k g rs.length rfl (hmA _) zc wc1 rfl hgi ?_) | fail)
        refine (hset _ _).mono ?_
        rintro e w6 ⟨rfl, h6, -, hb6⟩
        have hdel := DelH_any zc w6 h6
        rw [show (getR zc (setR zc zeroH rs)).isSome = false by rw [get_setR, if_pos rfl, H9.out.2.2]; rfl] at hdel
        have hB6 : Below w.heap.size w w6 := (H9.out.1.b.trans (H10.out.1.mono H9.out.1.b.size)).trans (((hA2 _ _).mono (by have := H9.out.1.b.size; have := H10.out.2; omega)).trans (hb6.mono zB))
        have H11 := (show Hid _ from hB6)
        clear hset h6 hb6 hmA hA hA2 hB6
        go_wp2_with fail
        refine hdel.mono ?_
        rintro e w7 ⟨rfl, -, -, hb7⟩
        have H12 := (show Hid _ from H11.out.trans (hb7.mono zB))
        clear hdel hb7
        go_wp2
        go_ret
        exact ⟨rfl, H12.out⟩
      | some m =>
        rw [hgi] at hgp
        obtain rfl : p = true := hgp.symm
        clear hgp
        go_wp2_with (first | (at_lookup; refine wpList_mlook_ok_some rfl _ _ 26 rfl 38 Tryd.underlying26 (zeroValueV _) M k g rs.length rfl (hmA _) zc wc1 rfl m hgi ?_; unfold mkV) | fail)
        refine (hset _ _).mono ?_
        rintro e w6 ⟨rfl, h6, -, hb6⟩
        have hdel := DelH_any zc w6 h6
        rw [show (getR zc (setR zc zeroH rs)).isSome = true by rw [get_setR, if_pos rfl, H9.out.2.2]; rfl] at hdel
        have hB6 : Below w.heap.size w w6 := (H9.out.1.b.trans (H10.out.1.mono H9.out.1.b.size)).trans (((hA2 _ _).mono (by have := H9.out.1.b.size; have := H10.out.2; omega)).trans (hb6.mono zB))
        have H11 := (show Hid _ from hB6)
        clear hset h6 hb6 hmA hA hA2 hB6
        go_wp2_with fail
        refine hdel.mono ?_
        rintro e w7 ⟨rfl, -, -, hb7⟩
        have H12 := (show Hid _ from H11.out.trans (hb7.mono zB))
        clear hdel hb7
        go_wp2
        go_ret
        exact ⟨rfl, H12.out⟩
end Go.Proofs.YtjihfbahcebljaaDoor
