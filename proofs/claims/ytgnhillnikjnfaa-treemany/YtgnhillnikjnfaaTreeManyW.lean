/-
  TreeMany's walk. No conditions beyond those stated.
-/
import Derived.Test.YtgnhillnikjnfaaBBoth
namespace Go.Proofs.Ytgnhillnikjnfaa
open Go.RowKit

theorem Tree.delz {w0 w : World} {T : Nat} {l : List En} (h : Tree w0 w T l) (hn : l.length ≤ 1000000) (e : En) : Calls Try.prog 15 #[.pointer (some ⟨T, 0, none⟩), .agg #[.string e.1, .int .i64 e.2]] w fun r w' => ∃ (z : Bool) (l' : List En), r = .returned (.bool z) ∧ Tree w0 w' T l' ∧ l'.length + (if z = true then 1 else 0) = l.length :=
  (DelT_any e w h.1 hn).mono fun r w' ⟨k1, k2, k3⟩ => ⟨hasE e l, delE e l, k1, h.step k2 k3, by
    cases he : hasE e l with
    | true => simpa using len_delE h.1.sort (hasE_iff.1 he)
    | false => rw [del_gone h.1.sort (hasE_not.1 he)]; simp⟩
set_option maxRecDepth 100000 in
set_option maxHeartbeats 8000000 in
theorem TreeMany_walk (n : Int) (hn : 0 ≤ n ∧ n < 65536) (st : Int) (hst : 0 ≤ st ∧ st < 256) (go : Int) (hgo : 0 ≤ go ∧ go < 65536) (w : World) :
    Calls Try.prog 6 #[.int .u16 n, .int .u8 st, .int .u16 go] w fun e w' => e = .returned (.bool true) ∧ Below w.heap.size w w' := by
  have haw := awake_any w
  go_enter Try.func6, Try.ntmps6
  go_wp2_with fail
  refine haw.mono ?_
  rintro e w1 ⟨rfl, hB1⟩
  clear haw
  go_wp2_with fail
  refine (New_any w1).mono ?_
  rintro e w2 ⟨T, rfl, ht2, hb2⟩
  have H3 : Hid (Tree w w2 T []) := ⟨ht2.mono fun a ha => Nat.le_trans hB1.size ha, hB1.trans (hb2.mono hB1.size)⟩
  clear ht2 hb2 hB1
  obtain ⟨K, hK⟩ : ∃ K : Nat, 1 + n % 400 = (K : Int) := ⟨(1 + n % 400).toNat, by omega⟩
  have hK4 : K ≤ 400 := by omega
  go_wp2_with fail
  clear hK hn
  go_loopg [9] K (fun gg iv wr => ∃ (j : Nat) (l : List En), j ≤ K ∧ K - j ≤ gg ∧ iv = .int .i64 j ∧ Aside (Tree w wr T l ∧ l.length ≤ j))
  case atStart => exact ⟨0, [], Nat.zero_le _, by omega, rfl, H3.out, Nat.le_refl _⟩
  case round =>
    obtain ⟨j, l, hj, hgg, rfl, A⟩ := hrel
    have H4 : Hid (Tree w wr T l ∧ l.length ≤ j) := A.out
    clear A H3
    by_cases hjK : j < K
    · have hadd := fun (i : Int) => AddT_any (⟨#[]⟩, i) wr H4.out.1.1 (by have := H4.out.2; omega)
      have HA := (show Hid _ from hadd)
      have zj : (j : Int) < (K : Int) := by omega
      clear hadd
      go_wp2_with fail
      refine Calls.mono (HA.out _) ?_
      rintro e w5 ⟨rfl, ht5, hf5⟩
      have H5 : Hid (∃ l' : List En, Tree w w5 T l' ∧ l'.length ≤ j + 1) := ⟨_, H4.out.1.step ht5 hf5, by have := H4.out.2; exact Nat.le_trans (len_with _ false l) (by omega)⟩
      clear ht5 hf5 HA H4
      go_wp2
      go_roundg (K - (j + 1))
      case measure => omega
      case rel =>
        obtain ⟨l', h1, h2⟩ := H5.out
        exact ⟨j + 1, l', by omega, by omega, by simp, h1, h2⟩
    · obtain rfl : K = j := by omega
      obtain ⟨wo, rfl⟩ : ∃ wo, wo = wr := ⟨_, rfl⟩
      have zj : ¬ (K : Int) < (K : Int) := by omega
      obtain ⟨L, hL⟩ : ∃ L, l.length = L := ⟨_, rfl⟩
      have hLK : L ≤ 400 := by have := H4.out.2; omega
      have hright := right_any wo H4.out.1.1 (by omega)
      have HR := (show Hid _ from hright)
      have HL : Hid (l.length = L) := hL
      clear hright hj hgg hjK hL
      go_wp2_with fail
      refine Calls.mono HR.out ?_
      rintro e w5 ⟨rfl, hb5⟩
      have H5 : Hid (Tree w w5 T l) := H4.out.1.same hb5
      have hlen := LenT_any w5 H5.out.1
      rw [HL.out] at hlen
      have hall := All_any w5 H5.out.1 (by have := HL.out; omega)
      have HN := (show Hid _ from hlen)
      have HA := (show Hid _ from hall)
      clear hb5 hlen hall HR H4
      go_wp2_with fail
      refine Calls.mono HN.out ?_
      rintro e w6 ⟨rfl, hw6⟩
      subst hw6
      clear HN
      go_wp2_with fail
      refine Calls.mono HA.out ?_
      rintro e w7 ⟨v7, rfl, B7, ho7⟩
      obtain ⟨va, vc1, rfl⟩ := ho7.slice
      rw [HL.out]
      have H7 : Hid (Tree w w7 T l) := H5.out.same ho7.below
      have hlen := LenT_any w7 H7.out.1
      rw [HL.out] at hlen
      have HN := (show Hid _ from hlen)
      clear ho7 hlen HA H5
      go_wp2_with fail
      refine Calls.mono HN.out ?_
      rintro e w8 ⟨rfl, hw8⟩
      subst hw8
      clear HN
      obtain ⟨Q, hQ⟩ : ∃ Q : Nat, K / 2 = Q := ⟨_, rfl⟩
      have hq1 : (K : Int).tdiv 2 = (Q : Int) := by rw [← hQ]; rfl
      have hq2 : (K : Int) / 2 = (Q : Int) := by omega
      have hQK : Q ≤ 400 := by omega
      clear hQ
      go_wp2_with fail
      go_loopg [11, 12] Q (fun gg cv iv wr => ∃ (j c : Nat) (m : List En), j ≤ Q ∧ Q - j ≤ gg ∧ c ≤ j ∧ iv = .int .i64 j ∧ cv = .int .i64 c ∧ Aside (Tree w wr T m ∧ m.length + c = L))
      case atStart => exact ⟨0, 0, l, Nat.zero_le _, by omega, Nat.le_refl _, rfl, rfl, H7.out, HL.out⟩
      case round =>
        obtain ⟨j, c, m, hj, hgg, hcj, rfl, rfl, A⟩ := hrel
        have H8 : Hid (Tree w wr T m ∧ m.length + c = L) := A.out
        clear A H7
        by_cases hjQ : j < Q
        · have hdel := fun (i : Int) => H8.out.1.delz (by have := H8.out.2; omega) (⟨#[]⟩, i)
          have HD := (show Hid _ from hdel)
          have zj : (j : Int) < (Q : Int) := by omega
          clear hdel
          go_wp2_with fail
          refine Calls.mono (HD.out _) ?_
          rintro e w9 ⟨z, m', rfl, ht9, hm9⟩
          have H9 : Hid (Tree w w9 T m' ∧ m'.length + (if z = true then 1 else 0) = m.length) := ⟨ht9, hm9⟩
          clear ht9 hm9 HD
          cases z with
          | true =>
            go_wp2
            go_roundg (Q - (j + 1))
            case measure => omega
            case rel =>
              obtain ⟨h1, h2⟩ := H9.out
              have h3 := H8.out.2
              exact ⟨j + 1, c + 1, m', by omega, by omega, by omega, by simp, by simp, h1, by simp at h2; omega⟩
          | false =>
            go_wp2
            go_roundg (Q - (j + 1))
            case measure => omega
            case rel =>
              obtain ⟨h1, h2⟩ := H9.out
              have h3 := H8.out.2
              exact ⟨j + 1, c, m', by omega, by omega, by omega, by simp, rfl, h1, by simp at h2; omega⟩
        · obtain rfl : Q = j := by omega
          obtain ⟨wp, rfl⟩ : ∃ wp, wp = wr := ⟨_, rfl⟩
          have zj : ¬ (Q : Int) < (Q : Int) := by omega
          obtain ⟨M, hM⟩ : ∃ M, m.length = M := ⟨_, rfl⟩
          have hMc : M + c = L := by rw [← hM]; exact H8.out.2
          have hall := All_any wp H8.out.1.1 (by omega)
          have HA := (show Hid _ from hall)
          have HM : Hid (m.length = M) := hM
          clear hall hM hj hgg hjQ
          go_wp2_with fail
          refine Calls.mono HA.out ?_
          rintro e w5 ⟨v5, rfl, B5, ho5⟩
          obtain ⟨xa, xc, rfl⟩ := ho5.slice
          rw [HM.out]
          have H9 : Hid (Tree w w5 T m ∧ OwE wp B5 (.slice xa M xc) m w5) := ⟨H8.out.1.same ho5.below, by rw [← HM.out]; exact ho5⟩
          clear ho5 HA H8
          go_wp2_with fail
          go_loopg [14, 72] M (fun gg _ iv wr => ∃ i : Nat, i ≤ M ∧ M - i ≤ gg ∧ iv = .int .i64 i ∧ Aside (Below w5.heap.size w5 wr))
          case atStart => exact ⟨0, Nat.zero_le _, by omega, rfl, Below.refl _ _⟩
          case round =>
            obtain ⟨i, hi, hgg, rfl, A⟩ := hrel
            have hb := A.out
            clear A
            obtain ⟨hT, ho⟩ := H9.out
            have hT' := hT.same hb
            by_cases hiM : i < M
            · have hM := HM.out
              obtain ⟨⟨xk, xi⟩, hx⟩ : ∃ x, m[i]? = some x := ⟨_, List.getElem?_eq_getElem (by omega)⟩
              have hr := (ho.same hb).own
              obtain ⟨R, rc, hv, hc3, hc4, d0, d1, -⟩ := row_entry hr hx
              rw [hM] at hv hc3
              obtain ⟨rfl, rfl⟩ : xa = some ⟨R, 0, none⟩ ∧ xc = rc := by
                simp only [Value.slice.injEq, true_and] at hv; exact hv
              dsimp only at d0 d1
              have hhas : hasE (xk, xi) m = true := hasE_iff.2 (List.mem_of_getElem? hx)
              have hHas := fun (d : Nat) (os : Array Obj) => Calls.regrown_of (HasT_any (xk, xi) (Go.Sort.grow (redrawn wr d) os) (hT'.1.below (below_regrown _ d os)))
              rw [hhas] at hHas
              have G0 := cell_regrown d0
              have G1 := cell_regrown d1
              have zi : (i : Int) < (M : Int) := by omega
              have hs := hT.1.sort
              have HB : Hid (Below w5.heap.size w5 wr) := hb
              have HI : Hid (i ≤ M ∧ M - i ≤ gk) := ⟨hi, hgg⟩
              by_cases hi0 : i = 0
              · subst hi0
                rw [Nat.zero_mul] at d0 d1 G0
                rw [Nat.zero_mul] at G1
                clear hT hT' ho hr hv hhas hs hx hb hi hgg hM
                go_wp2_with fail
                refine wp_region_quiet_below mixed (by kernel_rfl) ?_
                iterate 21 go_big_quiet_step (fail)
                go_big_quiet_step (exact hHas _ _)
                iterate 2 go_big_quiet_step (fail)
                refine wpQuiet_nil ?_
                rintro w' ⟨⟨dq, osq⟩, hw'⟩
                have HB2 : Hid (Below w5.heap.size w5 w') := HB.out.trans ((show Below wr.heap.size wr w' by rw [hw']; exact below_regrown _ dq osq).mono HB.out.size)
                clear hw' G0 G1 hHas d0 d1
                go_wp2
                go_roundg (M - (0 + 1))
                case measure => have := HI.out; omega
                case rel => have := HI.out; exact ⟨0 + 1, by omega, by omega, by simp, HB2.out⟩
              · obtain ⟨i', rfl⟩ : ∃ i', i = i' + 1 := ⟨i - 1, by omega⟩
                obtain ⟨⟨pk, pi⟩, hp⟩ : ∃ x, m[i']? = some x := ⟨_, List.getElem?_eq_getElem (by omega)⟩
                obtain ⟨R', rc', hv', -, -, e0, e1, -⟩ := row_entry hr hp
                rw [hM] at hv'
                obtain ⟨rfl, rfl⟩ : R = R' ∧ xc = rc' := by
                  simp only [Value.slice.injEq, Option.some.injEq, Addr.mk.injEq, true_and, and_true] at hv'; exact hv'
                dsimp only at e0 e1
                have hlt : cmpE (pk, pi) (xk, xi) < 0 := by
                  obtain ⟨q1, q2⟩ := List.getElem?_eq_some_iff.1 hp
                  obtain ⟨q3, q4⟩ := List.getElem?_eq_some_iff.1 hx
                  have := List.pairwise_iff_getElem.1 hs i' (i' + 1) q1 q3 (by omega)
                  rwa [q2, q4] at this
                have hBel := fun (d : Nat) (os : Array Obj) => Calls.regrown_of (Below_any (pk, pi) (xk, xi) (Go.Sort.grow (redrawn wr d) os))
                rw [decide_eq_true hlt] at hBel
                have G2 := cell_regrown e0
                have G3 := cell_regrown e1
                have hi'M : i' < M := by omega
                clear hT hT' ho hr hv hv' hhas hs hx hp hb hi hgg hM hi0 hlt
                go_wp2_with fail
                refine wp_region_quiet_below mixed (by kernel_rfl) ?_
                iterate 12 go_big_quiet_step (fail)
                go_big_quiet_step (exact hBel _ _)
                iterate 8 go_big_quiet_step (fail)
                go_big_quiet_step (exact hHas _ _)
                iterate 2 go_big_quiet_step (fail)
                refine wpQuiet_nil ?_
                rintro w' ⟨⟨dq, osq⟩, hw'⟩
                have HB2 : Hid (Below w5.heap.size w5 w') := HB.out.trans ((show Below wr.heap.size wr w' by rw [hw']; exact below_regrown _ dq osq).mono HB.out.size)
                clear hw' G0 G1 G2 G3 hHas hBel d0 d1 e0 e1
                go_wp2
                go_roundg (M - (i' + 1 + 1))
                case measure => have := HI.out; omega
                case rel => have := HI.out; exact ⟨i' + 1 + 1, by omega, by omega, by simp, HB2.out⟩
            · obtain rfl : M = i := by omega
              have H10 : Hid (Tree w wr T m) := hT'
              have hright := right_any wr hT'.1 (by have := HM.out; omega)
              have HR := (show Hid _ from hright)
              have zi : ¬ (M : Int) < (M : Int) := by omega
              have zLc : (L : Int) - (c : Int) = (M : Int) := by omega
              clear hT hT' ho hb hright hi hgg hiM
              go_wp2_with fail
              refine Calls.mono HR.out ?_
              rintro e w6 ⟨rfl, hb6⟩
              have H11 : Hid (Tree w w6 T m) := H10.out.same hb6
              have hlen := LenT_any w6 H11.out.1
              rw [HM.out] at hlen
              have HL2 := (show Hid _ from hlen)
              clear hb6 hlen HR H10
              go_wp2_with fail
              refine Calls.mono HL2.out ?_
              rintro e w7 ⟨rfl, hw7⟩
              subst hw7
              go_wp2_with fail
              refine Calls.mono HL2.out ?_
              rintro e w8 ⟨rfl, hw8⟩
              subst hw8
              go_wp2
              go_ret
              exact ⟨rfl, H11.out.2⟩
end Go.Proofs.Ytgnhillnikjnfaa
