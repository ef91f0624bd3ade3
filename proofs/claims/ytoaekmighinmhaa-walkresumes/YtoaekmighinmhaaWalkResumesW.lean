/-
  WalkResumes's walk. No conditions beyond those stated.
-/
import Derived.Test.YtoaekmighinmhaaU27
namespace Go.Proofs.Ytoaekmighinmhaa
open Go.RowKit

set_option maxRecDepth 100000 in
set_option maxHeartbeats 4000000 in
theorem WalkResumes_walk (v0 : Value) (acts : List Ac) (a b : Int) (hra : 0 ≤ a ∧ a < 256) (hrb : 0 ≤ b ∧ b < 256) (dn : Bool) (n : Int) (hn : 0 ≤ n ∧ n < 256) (w : World) (ha : ActsAt w v0 acts) :
    Calls Try.prog 5 #[v0, .int .u8 a, .int .u8 b, .bool dn, .int .u8 n] w fun e w' => e = .returned (.bool true) ∧ Below w.heap.size w w' := by
  obtain ⟨N, hN⟩ : ∃ N : Nat, n % 40 = (N : Int) := ⟨(n % 40).toNat, by omega⟩
  have hN40 : N < 40 := by omega
  have hNt : n.tmod 40 = (N : Int) := by rw [Int.tmod_eq_emod_of_nonneg hn.1]; exact hN
  have hnr := fun w => near_any a b dn hra hrb w
  generalize frN a = fr at *
  generalize toN b = to at *
  have HNR := (show Hid _ from hnr)
  clear hnr hra hrb hN hn
  go_enter Try.func5, Try.ntmps5
  go_wp2_with fail
  refine (awake9_any w).mono ?_
  rintro e w1 ⟨rfl, hb1⟩
  have HL := (show Hid _ from laid_any v0 acts w1 (ha.below hb1))
  have HB1 := (show Hid _ from And.intro hb1 ha)
  clear hb1 ha
  go_wp2_with fail
  refine Calls.mono HL.out ?_
  rintro e w2 ⟨T, lv, l, rfl, hB, hln, hlow⟩
  have HB : Hid (Both w1 w2 T l lv l ∧ l.length ≤ 60 ∧ LowE l ∧ Below w.heap.size w w2) := ⟨hB, hln, hlow, HB1.out.1.trans (hB.below.mono HB1.out.1.size)⟩
  clear hB hln hlow HL
  clear HB1
  go_wp2_with fail
  refine Calls.mono (HNR.out w2) ?_
  rintro e w3 ⟨rfl, hb3⟩
  obtain ⟨W4, hW4, hb4, hs4, r4⟩ := boxR_any w3 fr to dn
  have hb34 : Below w2.heap.size w2 W4 := hb3.trans (hb4.mono hb3.size)
  have R4 := (show Hid _ from And.intro r4 hb34)
  have hs3 : w2.heap.size ≤ w3.heap.size := hb3.size
  obtain ⟨g0, g1, g2, -, -⟩ := Rg.view r4
  clear hb3 hb4 r4 hb34 HNR
  go_wp2_with fail
  refine (WNew_any W4 T fr to dn).mono ?_
  rintro e w5 ⟨X, rfl, hk5, hX, hb5⟩
  have K5 : Hid (Wk w5 X T fr to dn none ∧ Below w2.heap.size w2 w5 ∧ Rg w5 w3.heap.size fr to dn) := ⟨hk5, R4.out.2.trans (hb5.mono R4.out.2.size), Rg.below R4.out.1 hb5⟩
  clear hk5 hb5 R4 g0 g1 g2
  go_wp2_with fail
  go_loopg [42] N (fun gg iv wr => ∃ (j : Nat) (m : Option En), j ≤ N ∧ N - j ≤ gg ∧ iv = .int .u8 j ∧ Aside (Wk wr X T fr to dn m ∧ Below w2.heap.size w2 wr ∧ Rg wr w3.heap.size fr to dn))
  case atStart => exact ⟨0, none, Nat.zero_le _, by omega, rfl, K5.out⟩
  case round =>
    obtain ⟨j, m, hjN, hgg, rfl, HR⟩ := hrel
    have HQ := (show Hid _ from HR.out)
    clear HR K5
    by_cases hj : j < N
    · have zj : (j : Int) < (N : Int) := by omega
      have zw : ((j : Int) + 1) % 256 = (j : Int) + 1 := by omega
      obtain ⟨F, ht⟩ := Both.tree HB.out.1
      have HN := (show Hid _ from WNext_on ht HB.out.2.2.1 HQ.out.2.1 (by omega) HQ.out.1)
      clear ht
      go_wp2_with fail
      refine Calls.mono HN.out ?_
      rintro e w6 ⟨rfl, hk6, hb6, hf6⟩
      have H6 := (show Hid _ from And.intro hk6 (And.intro hb6 (Rg.far HQ.out.2.2 hf6 (by omega))))
      clear hk6 hb6 hf6 HN HQ
      go_wp2
      go_roundg (N - (j + 1))
      case measure => omega
      case rel => exact ⟨j + 1, _, by omega, by omega, by simp, H6.out⟩
    · obtain rfl : N = j := by omega
      have zj : ¬ (N : Int) < (N : Int) := by omega
      obtain ⟨wo, rfl⟩ : ∃ wo, wo = wr := ⟨_, rfl⟩
      have hXl : X < wo.heap.size := lt_of_heap HQ.out.1
      have hRl : w3.heap.size < wo.heap.size := lt_of_heap HQ.out.2.2
      obtain ⟨g0, g1, g2, -, -⟩ := Rg.view HQ.out.2.2
      have P0 := fun (w' : World) (h : w'.heap[w3.heap.size]? = wo.heap[w3.heap.size]?) => (World.cell?_of_block (a := ⟨w3.heap.size, 0, none⟩) h).trans g0
      have P1 := fun (w' : World) (h : w'.heap[w3.heap.size]? = wo.heap[w3.heap.size]?) => (World.cell?_of_block (a := ⟨w3.heap.size, 1, none⟩) h).trans g1
      have P2 := fun (w' : World) (h : w'.heap[w3.heap.size]? = wo.heap[w3.heap.size]?) => (World.cell?_of_block (a := ⟨w3.heap.size, 2, none⟩) h).trans g2
      have h0 : (fun w' : World => w'.heap[w3.heap.size]? = wo.heap[w3.heap.size]?) wo.drew := rfl
      have HM := (show Hid _ from WMark_any (w := wo.drew) (WkR.below HQ.out.1 (Below.refl _ _).drew))
      have HRS := (show Hid _ from fun (wc : World) => WResume_any wc T fr to dn (orE m).1 (orE m).2 m.isSome)
      have hm := mkO_or m
      obtain ⟨mk, hmk⟩ : ∃ x, (orE m).1 = x := ⟨_, rfl⟩
      obtain ⟨mi, hmi⟩ : ∃ x, (orE m).2 = x := ⟨_, rfl⟩
      obtain ⟨mb, hmb⟩ : ∃ x, m.isSome = x := ⟨_, rfl⟩
      have HMM := (show Hid _ from And.intro hm (And.intro hmk (And.intro hmi hmb)))
      rw [hmk, hmi, hmb] at HM HRS
      clear hm hmk hmi hmb g0 g1 g2
      go_wp2_with fail
      refine wp_region_held (S := fun w' => w'.heap[w3.heap.size]? = wo.heap[w3.heap.size]?) mixed ?_
      refine wpAnyH_take (i := 0) (oi := ⟨_, _, _, _, _, _⟩) (v := ?v1) rfl (by kernel_rfl) (by kernel_rfl) (by kernel_rfl) (fun _ _ _ h => h) (Or.inl ⟨by rfl, ?hy1⟩) h0 ?rest1
      case hy1 => (intro w hSw; (try dsimp only at hSw); go_simp; try with_reducible rfl)
      simp only [Act.put, List.setIfInBounds_toArray, List.set_cons_zero, List.set_cons_succ]
      refine wpAnyH_take (i := 1) (oi := ⟨_, _, _, _, _, _⟩) (v := ?v2) rfl (by kernel_rfl) (by kernel_rfl) (by kernel_rfl) (fun _ _ _ h => h) (Or.inl ⟨by rfl, ?hy2⟩) h0 ?rest2
      case hy2 => (intro w hSw; (try dsimp only at hSw); go_simp; try with_reducible rfl)
      simp only [Act.put, List.setIfInBounds_toArray, List.set_cons_zero, List.set_cons_succ]
      refine wpAnyH_take (i := 2) (oi := ⟨_, _, _, _, _, _⟩) (v := ?v3) rfl (by kernel_rfl) (by kernel_rfl) (by kernel_rfl) (fun _ _ _ h => h) (Or.inl ⟨by rfl, ?hy3⟩) h0 ?rest3
      case hy3 => (intro w hSw; (try dsimp only at hSw); go_simp; try with_reducible rfl)
      simp only [Act.put, List.setIfInBounds_toArray, List.set_cons_zero, List.set_cons_succ]
      refine wpAnyH_ready (rs := [3]) (by kernel_rfl) (by simp) ?_
      refine AllReadyH.cons (o := ⟨_, _, _, _, _, _⟩) rfl (fun K hK => ?_) AllReadyH.nil
      go_simp
      refine Calls.mono HM.out ?_
      rintro e w6 ⟨rfl, hb6⟩
      have hb6' : Below wo.heap.size wo w6 := Below.drop_drew hb6
      have h6 : w6.heap[w3.heap.size]? = wo.heap[w3.heap.size]? := hb6'.block _ hRl
      have HB6 := (show Hid _ from hb6')
      clear hb6 hb6' HM
      refine hK.out _ _ h6 (fun hHeld => ?_)
      clear hK K hHeld
      try simp only [Act.put, List.setIfInBounds_toArray, List.set_cons_zero, List.set_cons_succ]
      refine wpAnyH_ready (rs := [4]) (by kernel_rfl) (by simp) ?_
      refine AllReadyH.cons (o := ⟨_, _, _, _, _, _⟩) rfl (fun K hK => ?_) AllReadyH.nil
      go_simp
      refine Calls.mono (HRS.out w6) ?_
      rintro e w7 ⟨Y, rfl, hk7, hY, hb7⟩
      have h7 : w7.heap[w3.heap.size]? = wo.heap[w3.heap.size]? := (hb7.block _ (by have := HB6.out.size; omega)).trans h6
      have hb67 : Below wo.heap.size wo w7 := HB6.out.trans (hb7.mono HB6.out.size)
      have hYl : wo.heap.size ≤ Y := Nat.le_trans HB6.out.size hY
      have H7 : Hid (Wk w7 X T fr to dn m ∧ Wk w7 Y T fr to dn m ∧ Below w2.heap.size w2 w7) := ⟨Wk.below HQ.out.1 hb67, by
        obtain ⟨q1, q2, q3, q4⟩ := HMM.out
        rw [← q2, ← q3, ← q4, q1] at hk7
        exact hk7, HQ.out.2.1.trans (hb67.mono HQ.out.2.1.size)⟩
      clear hk7 hY hb7 hb67 HRS HB6
      refine hK.out _ _ h7 (fun hHeld => ?_)
      clear hK K hHeld
      try simp only [Act.put, List.setIfInBounds_toArray, List.set_cons_zero, List.set_cons_succ]
      refine wpAnyH_ready (rs := [5]) (by kernel_rfl) (by simp) ?_
      refine AllReadyH.cons (o := ⟨_, _, _, _, _, _⟩) rfl (fun K hK => ?_) AllReadyH.nil
      go_simp
      refine hK.out _ _ h7 (fun hHeld => ?_)
      clear hK K hHeld
      try simp only [Act.put, List.setIfInBounds_toArray, List.set_cons_zero, List.set_cons_succ]
      refine wpAnyH_done (by kernel_rfl) ?_ _
      clear P0 P1 P2 h0 h6 h7 HQ
      have HMY := (show Hid _ from WMark_any H7.out.2.1)
      obtain ⟨q1, q2, q3, q4⟩ := HMM.out
      rw [q2, q3, q4] at HMY
      have HMX := (show Hid _ from fun (wc : World) (hc : Below w7.heap.size w7 wc) => WMark_any (WkR.below H7.out.1 hc))
      rw [q2, q3, q4] at HMX
      clear q1 q2 q3 q4 HMM
      go_wp2_with fail
      refine Calls.mono HMY.out ?_
      rintro e w8 ⟨rfl, hb8⟩
      have HB8 := (show Hid _ from hb8)
      clear hb8 HMY
      go_wp2_with fail
      refine Calls.mono (HMX.out w8 HB8.out) ?_
      rintro e w9 ⟨rfl, hb9⟩
      have hb79 : Below w7.heap.size w7 w9 := HB8.out.trans (hb9.mono HB8.out.size)
      have H9 : Hid (Wk w9 X T fr to dn m ∧ Wk w9 Y T fr to dn m ∧ Below w2.heap.size w2 w9) := ⟨Wk.below H7.out.1 hb79, Wk.below H7.out.2.1 hb79, H7.out.2.2.trans (hb79.mono H7.out.2.2.size)⟩
      clear hb9 hb79 HB8 HMX H7
      go_wp2_with fail
      go_loopg [16, 17, 18, 19, 61] 70 (fun gg _ _ _ _ iv wq => ∃ (j : Nat) (m : Option En), j ≤ 70 ∧ 70 - j ≤ gg ∧ iv = .int .i64 j ∧ Aside (Wk wq X T fr to dn m ∧ Wk wq Y T fr to dn m ∧ Below w2.heap.size w2 wq))
      case atStart => exact ⟨0, m, Nat.zero_le _, by omega, rfl, H9.out⟩
      case round =>
        obtain ⟨j, m, hjN, hgg, rfl, HR⟩ := hrel
        have HQ := (show Hid _ from HR.out)
        clear HR H9
        by_cases hj : j < 70
        · have zj : (j : Int) < 70 := by omega
          obtain ⟨F, ht⟩ := Both.tree HB.out.1
          have HT := (show Hid _ from And.intro ht HB.out.2.2.1)
          have HN := (show Hid _ from next_letters (WNext_on ht HB.out.2.2.1 HQ.out.2.2 (by omega) HQ.out.2.1))
          have HN2 := (show Hid _ from fun (wc : World) (hc : Below w2.heap.size w2 wc) (hx : Wk wc X T fr to dn m) => next_letters (WNext_on ht HB.out.2.2.1 hc (show w2.heap.size ≤ X by omega) hx))
          obtain ⟨xk, xi, hx⟩ : ∃ xk xi, orE (nextE l fr to dn m) = (xk, xi) := ⟨_, _, rfl⟩
          obtain ⟨xz, hz⟩ : ∃ z, (nextE l fr to dn m).isSome = z := ⟨_, rfl⟩
          rw [hx, hz] at HN HN2
          clear ht hx hz
          go_wp2_with fail
          refine Calls.mono HN.out ?_
          rintro e w10 ⟨rfl, hk10, hb10, hf10⟩
          obtain ⟨W11, hW11, hb11, hs11, r11⟩ := boxE_any w10 xk xi
          have hx11 : Wk W11 X T fr to dn m := Wk.below (Wk.far HQ.out.1 hf10 (by omega)) hb11
          have H11 := (show Hid _ from And.intro hx11 (And.intro (Wk.below hk10 hb11) (And.intro (hb10.trans (hb11.mono hb10.size)) r11)))
          have hXl11 : X < w10.heap.size := Nat.lt_of_lt_of_le (lt_of_heap HQ.out.1) hf10.size
          clear hk10 hb10 hf10 hb11 hx11 r11 HN HQ
          go_wp2_with fail
          refine Calls.mono (HN2.out W11 H11.out.2.2.1 H11.out.1) ?_
          rintro e w12 ⟨rfl, hk12, hb12, hf12⟩
          obtain ⟨W13, hW13, hb13, hs13, r13⟩ := boxE_any w12 xk xi
          have hY12 := Wk.far H11.out.2.1 hf12 (show Y ≠ X by omega)
          have H13 := (show Hid _ from And.intro (Wk.below hk12 hb13) (And.intro (Wk.below hY12 hb13) (hb12.trans (hb13.mono hb12.size))))
          obtain ⟨x0, x1, xf, xl⟩ := row2_of (Bx.below (Bx.far H11.out.2.2.2 hf12 (by omega)) hb13)
          obtain ⟨y0, y1, yf, yl⟩ := row2_of r13
          clear hk12 hb12 hf12 hb13 hY12 r13 H11 HN2 HT
          go_wp2
          go_roundg (70 - (j + 1))
          case measure => omega
          case rel => exact ⟨j + 1, _, by omega, by omega, by simp, H13.out⟩
        · obtain rfl : j = 70 := by omega
          have HF : Hid (Below w.heap.size w wr) := HB.out.2.2.2.trans (HQ.out.2.2.mono HB.out.2.2.2.size)
          clear HQ HB hgg hj hjN
          go_wp2
          go_ret
          exact ⟨rfl, HF.out⟩
end Go.Proofs.Ytoaekmighinmhaa
