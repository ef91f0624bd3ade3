/-
  TreeActs's walk. No conditions beyond those stated.
-/
import Derived.Test.YtgnhillnikjnfaaBBothP
namespace Go.Proofs.Ytgnhillnikjnfaa
open Go.RowKit

set_option maxRecDepth 100000 in
set_option maxHeartbeats 8000000 in
theorem TreeActs_walk (v0 : Value) (acts : List Ac) (w : World) (ha : ActsAt w v0 acts) :
    Calls Try.prog 3 #[v0] w fun e w' => e = .returned (.bool true) ∧ Below w.heap.size w w' := by
  obtain ⟨a, cap, rfl, hc1, hc2⟩ := ha.slice
  have hat := ha.take 120
  obtain ⟨N, hN⟩ : ∃ N, min 120 acts.length = N := ⟨_, rfl⟩
  rw [hN] at hat
  have hNl : (acts.take 120).length = N := by rw [List.length_take, hN]
  obtain ⟨al, has⟩ : ∃ al, acts.take 120 = al := ⟨_, rfl⟩
  rw [has] at hat hNl
  have hm0 : 0 ≤ min (acts.length : Int) 120 := by omega
  have hm1 : min (acts.length : Int) 120 ≤ (cap : Int) := by omega
  have hmn : (min (acts.length : Int) 120).toNat = N := by omega
  have hN80 : N ≤ 120 := by omega
  have HH := (show Hid _ from And.intro hat hNl)
  have haw := awake_any w
  clear hat ha has hN hNl
  go_enter Try.func3, Try.ntmps3
  go_wp2_with fail
  refine haw.mono ?_
  rintro e w1 ⟨rfl, hB1⟩
  clear haw
  go_wp2_with fail
  refine (New_any w1).mono ?_
  rintro e w2 ⟨T, rfl, ht2, hb2⟩
  have H2 : Hid (Both w w2 T [] (.slice none 0 0) []) := Both.new hB1 ht2 hb2
  clear ht2 hb2 hB1
  go_wp2_with fail
  go_loopg [4, 6, 7, 8, 9, 10, 11, 12, 13, 14, 26] N (fun gg lv _ _ _ _ _ _ _ _ _ i wr => ∃ (k : Nat) (l : List En), k ≤ N ∧ N - k ≤ gg ∧ i = .int .i64 k ∧ Aside (Both w wr T l lv l ∧ l.length ≤ k))
  case atStart => exact ⟨0, [], Nat.zero_le _, by omega, rfl, H2.out, Nat.le_refl _⟩
  case round =>
    obtain ⟨k, l, hk, hgg, rfl, A⟩ := hrel
    obtain ⟨hT, hl⟩ := A.out
    clear A H2
    obtain ⟨la, lc, rfl⟩ := hT.slice
    obtain ⟨L, hL⟩ : ∃ L, l.length = L := ⟨_, rfl⟩
    rw [hL] at hT hl ⊢
    by_cases hlt : k < N
    · obtain ⟨hat, hNl⟩ := HH.out
      obtain ⟨⟨kd, ky, id⟩, he⟩ : ∃ e, al[k]? = some e := ⟨_, List.getElem?_eq_getElem (by omega)⟩
      obtain ⟨b, o, rfl, hok, c0, c1, c2⟩ := (hat.below hT.below).at he
      simp only at c0 c1 c2
      have zk : (k : Int) < (N : Int) := by omega
      obtain ⟨W4, hW4, hb4, hs4, m0, m1, m2⟩ := boxA_any wr kd ky id
      have hent := Ent_any ⟨kd, ky, id⟩ hok W4
      obtain ⟨ek, ei, hee⟩ : ∃ ek ei, Ac.ent ⟨kd, ky, id⟩ = (ek, ei) := ⟨_, _, rfl⟩
      rw [hee] at hent
      have HE := (show Hid _ from hent)
      have H4 : Hid (BothP w W4 T l (.slice la L lc) l (fun a => False ∨ a = wr.heap.size) ∧ l.length ≤ k) := ⟨hT.p.more hb4 (Nat.le_refl _) (by omega), by omega⟩
      have rA4 : W4.heap[wr.heap.size]? = some (.cells #[.int .u8 kd, .int .u8 ky, .int .u8 id] 28 (0, 0)) := by rw [← hW4]; exact heap_alloc_new _ _
      have HK := (show Hid _ from And.intro hk hgg)
      clear hat hNl he hT hl hb4 hent hok hk hgg hee hL
      go_wp2_with fail
      refine Calls.mono HE.out ?_
      rintro e w5 ⟨rfl, hb5⟩
      have m0' := (hb5.cell (p := ⟨wr.heap.size, 0, none⟩) (by show wr.heap.size < _; omega)).trans m0
      obtain ⟨W6, hW6, hb6, hs6, n0, n1⟩ := box_any w5 ek ei
      have hlt5 : wr.heap.size < w5.heap.size := by have := hb5.size; omega
      have q0 := (hb6.cell (p := ⟨wr.heap.size, 0, none⟩) hlt5).trans m0'
      have rA6 := (hb6.block _ hlt5).trans ((hb5.block _ (lt_of_heap rA4)).trans rA4)
      have rE6 : W6.heap[w5.heap.size]? = some (.cells #[.string ek, .int .i64 ei] 30 (0, 0)) := by rw [← hW6]; exact heap_alloc_new _ _
      have H6 : Hid (BothP w W6 T l (.slice la L lc) l (fun a => (False ∨ a = wr.heap.size) ∨ a = w5.heap.size) ∧ l.length ≤ k) := ⟨(H4.out.1.same hb5).more hb6 (Nat.le_refl _) (by omega), H4.out.2⟩
      have HR6 := (show Hid _ from And.intro rA6 rE6)
      clear hb5 hb6 H4 HE m0 m1 m2 m0' c0 c1 c2 hs4 rA4 rA6 rE6
      by_cases hkd2 : kd < 140
      · have hkd3 : decide (kd < 140) = true := decide_eq_true hkd2
        have hwith := H6.out.1.With (ek, ei) true (by have := H6.out.2; omega)
        obtain ⟨y, hy⟩ : ∃ y, (! hasE (ek, ei) l) = y := ⟨_, rfl⟩
        rw [show (hasE (ek, ei) l != true) = y by rw [← hy]; cases hasE (ek, ei) l <;> rfl] at hwith
        have HY : Hid ((! hasE (ek, ei) l) = y) := hy
        have HW := (show Hid _ from hwith)
        clear hwith hy
        go_wp2_with fail
        refine Calls.mono HW.out ?_
        rintro e w7 ⟨v7, rfl, ht7, hb7⟩
        have n0' := (hb7.cell (p := ⟨w5.heap.size, 0, none⟩) (by show w5.heap.size < _; omega)).trans n0
        have n1' := (hb7.cell (p := ⟨w5.heap.size, 1, none⟩) (by show w5.heap.size < _; omega)).trans n1
        have q0' := (hb7.cell (p := ⟨wr.heap.size, 0, none⟩) (by show wr.heap.size < _; omega)).trans q0
        have hadd := ht7.add (ek, ei) (by have := H6.out.2; omega)
        rw [HY.out] at hadd
        have HA := (show Hid _ from hadd)
        have HR7 := (show Hid _ from And.intro ((hb7.block _ (lt_of_heap HR6.out.1)).trans HR6.out.1) ((hb7.block _ (lt_of_heap HR6.out.2)).trans HR6.out.2))
        clear hadd ht7 hb7 n0 n1 q0 HW HR6
        go_wp2_with fail
        refine Calls.mono HA.out ?_
        rintro e w8 ⟨rfl, ht8, hk8⟩
        have rA8 := (hk8 _ (.inl (.inr rfl))).trans HR7.out.1
        have rE8 := (hk8 _ (.inr rfl)).trans HR7.out.2
        have H8 : Hid (Both w w8 T (insE (ek, ei) l) v7 (insE (ek, ei) l) ∧ (insE (ek, ei) l).length ≤ k + 1) := ⟨ht8.both, by have := H6.out.2; exact Nat.le_trans (len_with (ek, ei) false l) (by omega)⟩
        have HR8 := (show Hid _ from And.intro rA8 rE8)
        have hmem : hasE (ek, ei) (insE (ek, ei) l) = true := hasE_iff.2 (mem_insE.2 (.inl rfl))
        clear ht8 hk8 HA H6 HR7 rA8 rE8 n0' n1' q0' HY
        obtain ⟨m, hm⟩ : ∃ m, insE (ek, ei) l = m := ⟨_, rfl⟩
        rw [hm] at H8 hmem
        clear hm
        obtain ⟨F, hF⟩ := H8.out.1.tree
        have hfirst := FirstT_any w8 hF
        have hlst := fun (W : World) (hb : Below w8.heap.size w8 W) => LastT_any W (hF.below hb)
        have hlen := fun (W : World) (hb : Below w8.heap.size w8 W) => LenT_any W (hF.below hb)
        have hhas := fun (W : World) (hb : Below w8.heap.size w8 W) => HasT_any (ek, ei) W (hF.below hb)
        rw [hmem] at hhas
        obtain ⟨M, hM⟩ : ∃ M, m.length = M := ⟨_, rfl⟩
        obtain ⟨va, vc1, rfl⟩ := H8.out.1.slice
        rw [hM] at hlen H8 ⊢
        have HLS := (show Hid _ from hlst)
        have HLN := (show Hid _ from hlen)
        have HHS := (show Hid _ from hhas)
        have HM : Hid (m.length = M) := hM
        clear hlst hlen hhas hF hmem
        rcases m with _ | ⟨⟨hk, hi⟩, mr⟩
        · rw [show retO (([] : List En).head?) = .tuple #[.agg #[.string ⟨#[]⟩, .int .i64 0], .bool false] from rfl] at hfirst
          have HFS := (show Hid _ from hfirst)
          clear hfirst
          obtain rfl : 0 = M := hM
          go_wp2_with fail
          refine Calls.mono HFS.out ?_
          rintro e w9 ⟨rfl, hb9⟩
          have H9 : Hid (Below w8.heap.size w8 (w9.alloc (.cells #[.string ⟨#[]⟩, .int .i64 0] 30))) := hb9.alloc hb9.size _
          clear hb9 HFS
          go_wp2_with fail
          have HLS0 : Hid (∀ (W : World), Below w8.heap.size w8 W → Calls Try.prog 17 #[.pointer (some ⟨T, 0, none⟩)] W fun r w' => r = .returned (.tuple #[.agg #[.string ⟨#[]⟩, .int .i64 0], .bool false]) ∧ Below W.heap.size W w') := HLS
          refine Calls.mono (HLS0.out _ H9.out) ?_
          rintro e w10 ⟨rfl, hb10⟩
          obtain ⟨WY, hWY⟩ : ∃ WY, w10.alloc (.cells #[.string ⟨#[]⟩, .int .i64 0] 30) = WY := ⟨_, rfl⟩
          have rY : WY.heap[w10.heap.size]? = some (.cells #[.string ⟨#[]⟩, .int .i64 0] 30 (0, 0)) := by rw [← hWY]; exact heap_alloc_new _ _
          have hbY : Below w10.heap.size w10 WY := by rw [← hWY]; exact (Below.refl _ _).alloc (Nat.le_refl _) _
          have hb9Y := hb10.trans (hbY.mono hb10.size)
          have rX := (hb9Y.block w9.heap.size (by simp)).trans (heap_alloc_new w9 (.cells #[.string ⟨#[]⟩, .int .i64 0] 30))
          have hb11 : Below w8.heap.size w8 WY := H9.out.trans (hb9Y.mono H9.out.size)
          have rA := (hb11.block _ (lt_of_heap HR8.out.1)).trans HR8.out.1
          have rE := (hb11.block _ (lt_of_heap HR8.out.2)).trans HR8.out.2
          have H11 : Hid (Below w8.heap.size w8 WY) := hb11
          have HWY : Hid (w10.alloc (.cells #[.string ⟨#[]⟩, .int .i64 0] 30) = WY) := hWY
          obtain ⟨x0, x1, -, -⟩ := row2_of rX
          obtain ⟨y0, y1, -, -⟩ := row2_of rY
          obtain ⟨e0, e1, -, -⟩ := row2_of rE
          have a0 : WY.cell? ⟨wr.heap.size, 0, none⟩ = some (.int .u8 kd) := by simp [World.cell?, rA]
          have hLen := fun (d : Nat) (os : Array Obj) => Calls.regrown_of (v := .int .i64 0) ((HLN.out (Go.Sort.grow (redrawn WY d) os) (hb11.trans ((below_regrown WY d os).mono hb11.size))).mono fun r w' ⟨h1, h2⟩ => ⟨h1, by subst h2; exact Below.refl _ _⟩)
          have hHas := fun (d : Nat) (os : Array Obj) => Calls.regrown_of (HHS.out (Go.Sort.grow (redrawn WY d) os) (hb11.trans ((below_regrown WY d os).mono hb11.size)))
          have G0 := cell_regrown e0
          have G1 := cell_regrown e1
          have G2 := cell_regrown x0
          have G3 := cell_regrown x1
          have G4 := cell_regrown y0
          have G5 := cell_regrown y1
          have G6 := cell_regrown a0
          clear hWY rY hbY hb9Y rX hb11 rE hb10 HLS0 HLS rA H9 HHS HLN HR8
          rcases y with _ | _
          · go_wp2_with fail
            rw [HWY.out]
            refine wp_region_quiet_below mixed (by kernel_rfl) ?_
            dsimp only [List.append]
            iterate 5 go_big_quiet_step (fail)
            go_big_quiet_step (exact hLen _ _)
            iterate 7 go_big_quiet_step (fail)
            go_big_quiet_step (exact hHas _ _)
            repeat go_big_quiet_step (fail)
            refine wpQuiet_nil ?_
            rintro w' ⟨⟨dq, osq⟩, hw'⟩
            have H12 : Hid (Below w8.heap.size w8 w') := H11.out.trans ((show Below WY.heap.size WY w' by rw [hw']; exact below_regrown _ dq osq).mono H11.out.size)
            clear hw' G0 G1 G2 G3 G4 G5 G6 hLen hHas e0 e1 x0 x1 y0 y1 a0 HWY H11
            go_wp2
            go_roundg (N - (k + 1))
            case measure => (have := HK.out; clear hm0 hm1 hmn; omega)
            case rel =>
              obtain ⟨z1, z2⟩ := HK.out
              clear HH hm0 hm1 hmn
              exact ⟨k + 1, [], by omega, by omega, by simp, H8.out.1.same H12.out, Nat.zero_le _⟩
          · go_wp2_with fail
            rw [HWY.out]
            refine wp_region_quiet_below mixed (by kernel_rfl) ?_
            dsimp only [List.append]
            iterate 5 go_big_quiet_step (fail)
            go_big_quiet_step (exact hLen _ _)
            iterate 7 go_big_quiet_step (fail)
            go_big_quiet_step (exact hHas _ _)
            repeat go_big_quiet_step (fail)
            refine wpQuiet_nil ?_
            rintro w' ⟨⟨dq, osq⟩, hw'⟩
            have H12 : Hid (Below w8.heap.size w8 w') := H11.out.trans ((show Below WY.heap.size WY w' by rw [hw']; exact below_regrown _ dq osq).mono H11.out.size)
            clear hw' G0 G1 G2 G3 G4 G5 G6 hLen hHas e0 e1 x0 x1 y0 y1 a0 HWY H11
            go_wp2
            go_roundg (N - (k + 1))
            case measure => (have := HK.out; clear hm0 hm1 hmn; omega)
            case rel =>
              obtain ⟨z1, z2⟩ := HK.out
              clear HH hm0 hm1 hmn
              exact ⟨k + 1, [], by omega, by omega, by simp, H8.out.1.same H12.out, Nat.zero_le _⟩
        · rw [show retO (((hk, hi) :: mr).head?) = .tuple #[.agg #[.string hk, .int .i64 hi], .bool true] from rfl] at hfirst
          have HFS := (show Hid _ from hfirst)
          obtain ⟨⟨tk, ti⟩, hlast⟩ : ∃ x, ((hk, hi) :: mr).getLast? = some x := ⟨_, List.getLast?_eq_some_getLast (by simp)⟩
          have HLS0 : Hid (∀ (W : World), Below w8.heap.size w8 W → Calls Try.prog 17 #[.pointer (some ⟨T, 0, none⟩)] W fun r w' => r = .returned (.tuple #[.agg #[.string tk, .int .i64 ti], .bool true]) ∧ Below W.heap.size W w') := by
            have h := HLS.out
            rw [hlast] at h
            exact h
          obtain ⟨M', rfl⟩ : ∃ M', M = M' + 1 := ⟨mr.length, by rw [← hM]; rfl⟩
          have hx0 : ((hk, hi) :: mr)[0]? = some (hk, hi) := rfl
          have hx1 : ((hk, hi) :: mr)[M']? = some (tk, ti) := by rw [← hlast, List.getLast?_eq_getElem?, hM]; rfl
          obtain ⟨BR, hr⟩ := H8.out.1.row
          obtain ⟨R, rc, hv, hc3, hc4, d0, d1, -⟩ := row_entry hr hx0
          rw [hM] at hv hc3
          obtain ⟨rfl, rfl⟩ : va = some ⟨R, 0, none⟩ ∧ vc1 = rc := by
            simp only [Value.slice.injEq, true_and] at hv; exact hv
          obtain ⟨R', rc', hv', -, -, f0, f1, -⟩ := row_entry hr hx1
          rw [hM] at hv'
          obtain ⟨rfl, rfl⟩ : R = R' ∧ vc1 = rc' := by
            simp only [Value.slice.injEq, Option.some.injEq, Addr.mk.injEq, true_and, and_true] at hv'; exact hv'
          dsimp only at d0 d1 f0 f1
          rw [Nat.zero_mul] at d0 d1
          have hM1 : M' ≤ 120 := by have := H8.out.2; clear hm0 hm1 hmn; omega
          have HD := (show Hid _ from And.intro d0 (And.intro d1 (And.intro f0 f1)))
          clear hfirst hlast hx0 hx1 hr hv hv' hc4 hM HLS d0 d1 f0 f1
          go_wp2_with fail
          refine Calls.mono HFS.out ?_
          rintro e w9 ⟨rfl, hb9⟩
          obtain ⟨WX, hWX, hbX, hsX, x0', x1'⟩ := box_any w9 hk hi
          have rX0 : WX.heap[w9.heap.size]? = some (.cells #[.string hk, .int .i64 hi] 30 (0, 0)) := by rw [← hWX]; exact heap_alloc_new _ _
          have H9 : Hid (Below w8.heap.size w8 WX) := hb9.trans (hbX.mono hb9.size)
          have HX := (show Hid _ from rX0)
          clear hb9 hbX hsX x0' x1' rX0 HFS
          go_wp2_with fail
          refine Calls.mono (HLS0.out _ H9.out) ?_
          rintro e w10 ⟨rfl, hb10⟩
          obtain ⟨WY, hWY, hbY, hsY, y0, y1⟩ := box_any w10 tk ti
          have hb9Y := hb10.trans (hbY.mono hb10.size)
          have rX := (hb9Y.block _ (lt_of_heap HX.out)).trans HX.out
          have hb11 : Below w8.heap.size w8 WY := H9.out.trans (hb9Y.mono H9.out.size)
          have rA := (hb11.block _ (lt_of_heap HR8.out.1)).trans HR8.out.1
          have rE := (hb11.block _ (lt_of_heap HR8.out.2)).trans HR8.out.2
          have H11 : Hid (Below w8.heap.size w8 WY) := hb11
          obtain ⟨x0, x1, -, -⟩ := row2_of rX
          obtain ⟨e0, e1, -, -⟩ := row2_of rE
          obtain ⟨d0', d1', f0', f1'⟩ := HD.out
          have d0 := (hb11.cell (lt_of_cell d0')).trans d0'
          have d1 := (hb11.cell (lt_of_cell d1')).trans d1'
          have f0 := (hb11.cell (lt_of_cell f0')).trans f0'
          have f1 := (hb11.cell (lt_of_cell f1')).trans f1'
          have a0 : WY.cell? ⟨wr.heap.size, 0, none⟩ = some (.int .u8 kd) := by simp [World.cell?, rA]
          have hLen := fun (d : Nat) (os : Array Obj) => Calls.regrown_of (v := .int .i64 ((M' + 1 : Nat) : Int)) ((HLN.out (Go.Sort.grow (redrawn WY d) os) (hb11.trans ((below_regrown WY d os).mono hb11.size))).mono fun r w' ⟨h1, h2⟩ => ⟨h1, by subst h2; exact Below.refl _ _⟩)
          have hHas := fun (d : Nat) (os : Array Obj) => Calls.regrown_of (HHS.out (Go.Sort.grow (redrawn WY d) os) (hb11.trans ((below_regrown WY d os).mono hb11.size)))
          have G0 := cell_regrown e0
          have G1 := cell_regrown e1
          have G2 := cell_regrown x0
          have G3 := cell_regrown x1
          have G4 := cell_regrown y0
          have G5 := cell_regrown y1
          have G6 := cell_regrown a0
          have G7 := cell_regrown d0
          have G8 := cell_regrown d1
          have G9 := cell_regrown f0
          have GA := cell_regrown f1
          clear hbY hsY hb9Y rX hb11 rE hb10 HLS0 rA H9 HHS HLN HR8 HX HD d0' d1' f0' f1'
          rcases y with _ | _
          · go_wp2_with fail
            refine wp_region_quiet_below mixed (by kernel_rfl) ?_
            dsimp only [List.append]
            iterate 5 go_big_quiet_step (fail)
            go_big_quiet_step (exact hLen _ _)
            iterate 7 go_big_quiet_step (fail)
            go_big_quiet_step (exact hHas _ _)
            repeat go_big_quiet_step (fail)
            refine wpQuiet_nil ?_
            rintro w' ⟨⟨dq, osq⟩, hw'⟩
            have H12 : Hid (Below w8.heap.size w8 w') := H11.out.trans ((show Below WY.heap.size WY w' by rw [hw']; exact below_regrown _ dq osq).mono H11.out.size)
            clear hw' G0 G1 G2 G3 G4 G5 G6 hLen hHas e0 e1 x0 x1 y0 y1 a0 H11 G7 G8 G9 GA d0 d1 f0 f1
            go_wp2
            go_roundg (N - (k + 1))
            case measure => (have := HK.out; clear hm0 hm1 hmn; omega)
            case rel =>
              obtain ⟨z1, z2⟩ := HK.out
              clear HH hm0 hm1 hmn
              exact ⟨k + 1, _, by omega, by omega, by simp, H8.out.1.same H12.out, by rw [HM.out]; exact H8.out.2⟩
          · go_wp2_with fail
            refine wp_region_quiet_below mixed (by kernel_rfl) ?_
            dsimp only [List.append]
            iterate 5 go_big_quiet_step (fail)
            go_big_quiet_step (exact hLen _ _)
            iterate 7 go_big_quiet_step (fail)
            go_big_quiet_step (exact hHas _ _)
            repeat go_big_quiet_step (fail)
            refine wpQuiet_nil ?_
            rintro w' ⟨⟨dq, osq⟩, hw'⟩
            have H12 : Hid (Below w8.heap.size w8 w') := H11.out.trans ((show Below WY.heap.size WY w' by rw [hw']; exact below_regrown _ dq osq).mono H11.out.size)
            clear hw' G0 G1 G2 G3 G4 G5 G6 hLen hHas e0 e1 x0 x1 y0 y1 a0 H11 G7 G8 G9 GA d0 d1 f0 f1
            go_wp2
            go_roundg (N - (k + 1))
            case measure => (have := HK.out; clear hm0 hm1 hmn; omega)
            case rel =>
              obtain ⟨z1, z2⟩ := HK.out
              clear HH hm0 hm1 hmn
              exact ⟨k + 1, _, by omega, by omega, by simp, H8.out.1.same H12.out, by rw [HM.out]; exact H8.out.2⟩
      · have hkd3 : decide (kd < 140) = false := decide_eq_false hkd2
        have hwith := H6.out.1.With (ek, ei) false (by have := H6.out.2; omega)
        obtain ⟨y, hy⟩ : ∃ y, (hasE (ek, ei) l) = y := ⟨_, rfl⟩
        rw [show (hasE (ek, ei) l != false) = y by rw [← hy]; cases hasE (ek, ei) l <;> rfl] at hwith
        have HY : Hid ((hasE (ek, ei) l) = y) := hy
        have HW := (show Hid _ from hwith)
        clear hwith hy
        go_wp2_with fail
        refine Calls.mono HW.out ?_
        rintro e w7 ⟨v7, rfl, ht7, hb7⟩
        have n0' := (hb7.cell (p := ⟨w5.heap.size, 0, none⟩) (by show w5.heap.size < _; omega)).trans n0
        have n1' := (hb7.cell (p := ⟨w5.heap.size, 1, none⟩) (by show w5.heap.size < _; omega)).trans n1
        have q0' := (hb7.cell (p := ⟨wr.heap.size, 0, none⟩) (by show wr.heap.size < _; omega)).trans q0
        have hadd := ht7.del (ek, ei) (by have := H6.out.2; omega)
        rw [HY.out] at hadd
        have HA := (show Hid _ from hadd)
        have HR7 := (show Hid _ from And.intro ((hb7.block _ (lt_of_heap HR6.out.1)).trans HR6.out.1) ((hb7.block _ (lt_of_heap HR6.out.2)).trans HR6.out.2))
        clear hadd ht7 hb7 n0 n1 q0 HW HR6
        go_wp2_with fail
        refine Calls.mono HA.out ?_
        rintro e w8 ⟨rfl, ht8, hk8⟩
        have rA8 := (hk8 _ (.inl (.inr rfl))).trans HR7.out.1
        have rE8 := (hk8 _ (.inr rfl)).trans HR7.out.2
        have H8 : Hid (Both w w8 T (delE (ek, ei) l) v7 (delE (ek, ei) l) ∧ (delE (ek, ei) l).length ≤ k + 1) := ⟨ht8.both, by have := H6.out.2; exact Nat.le_trans (len_with (ek, ei) true l) (by omega)⟩
        have HR8 := (show Hid _ from And.intro rA8 rE8)
        have hmem : hasE (ek, ei) (delE (ek, ei) l) = false := by rw [← Bool.not_eq_true, hasE_iff, mem_delE]; exact fun h => h.2 rfl
        clear ht8 hk8 HA H6 HR7 rA8 rE8 n0' n1' q0' HY
        obtain ⟨m, hm⟩ : ∃ m, delE (ek, ei) l = m := ⟨_, rfl⟩
        rw [hm] at H8 hmem
        clear hm
        obtain ⟨F, hF⟩ := H8.out.1.tree
        have hfirst := FirstT_any w8 hF
        have hlst := fun (W : World) (hb : Below w8.heap.size w8 W) => LastT_any W (hF.below hb)
        have hlen := fun (W : World) (hb : Below w8.heap.size w8 W) => LenT_any W (hF.below hb)
        have hhas := fun (W : World) (hb : Below w8.heap.size w8 W) => HasT_any (ek, ei) W (hF.below hb)
        rw [hmem] at hhas
        obtain ⟨M, hM⟩ : ∃ M, m.length = M := ⟨_, rfl⟩
        obtain ⟨va, vc1, rfl⟩ := H8.out.1.slice
        rw [hM] at hlen H8 ⊢
        have HLS := (show Hid _ from hlst)
        have HLN := (show Hid _ from hlen)
        have HHS := (show Hid _ from hhas)
        have HM : Hid (m.length = M) := hM
        clear hlst hlen hhas hF hmem
        rcases m with _ | ⟨⟨hk, hi⟩, mr⟩
        · rw [show retO (([] : List En).head?) = .tuple #[.agg #[.string ⟨#[]⟩, .int .i64 0], .bool false] from rfl] at hfirst
          have HFS := (show Hid _ from hfirst)
          clear hfirst
          obtain rfl : 0 = M := hM
          go_wp2_with fail
          refine Calls.mono HFS.out ?_
          rintro e w9 ⟨rfl, hb9⟩
          have H9 : Hid (Below w8.heap.size w8 (w9.alloc (.cells #[.string ⟨#[]⟩, .int .i64 0] 30))) := hb9.alloc hb9.size _
          clear hb9 HFS
          go_wp2_with fail
          have HLS0 : Hid (∀ (W : World), Below w8.heap.size w8 W → Calls Try.prog 17 #[.pointer (some ⟨T, 0, none⟩)] W fun r w' => r = .returned (.tuple #[.agg #[.string ⟨#[]⟩, .int .i64 0], .bool false]) ∧ Below W.heap.size W w') := HLS
          refine Calls.mono (HLS0.out _ H9.out) ?_
          rintro e w10 ⟨rfl, hb10⟩
          obtain ⟨WY, hWY⟩ : ∃ WY, w10.alloc (.cells #[.string ⟨#[]⟩, .int .i64 0] 30) = WY := ⟨_, rfl⟩
          have rY : WY.heap[w10.heap.size]? = some (.cells #[.string ⟨#[]⟩, .int .i64 0] 30 (0, 0)) := by rw [← hWY]; exact heap_alloc_new _ _
          have hbY : Below w10.heap.size w10 WY := by rw [← hWY]; exact (Below.refl _ _).alloc (Nat.le_refl _) _
          have hb9Y := hb10.trans (hbY.mono hb10.size)
          have rX := (hb9Y.block w9.heap.size (by simp)).trans (heap_alloc_new w9 (.cells #[.string ⟨#[]⟩, .int .i64 0] 30))
          have hb11 : Below w8.heap.size w8 WY := H9.out.trans (hb9Y.mono H9.out.size)
          have rA := (hb11.block _ (lt_of_heap HR8.out.1)).trans HR8.out.1
          have rE := (hb11.block _ (lt_of_heap HR8.out.2)).trans HR8.out.2
          have H11 : Hid (Below w8.heap.size w8 WY) := hb11
          have HWY : Hid (w10.alloc (.cells #[.string ⟨#[]⟩, .int .i64 0] 30) = WY) := hWY
          obtain ⟨x0, x1, -, -⟩ := row2_of rX
          obtain ⟨y0, y1, -, -⟩ := row2_of rY
          obtain ⟨e0, e1, -, -⟩ := row2_of rE
          have a0 : WY.cell? ⟨wr.heap.size, 0, none⟩ = some (.int .u8 kd) := by simp [World.cell?, rA]
          have hLen := fun (d : Nat) (os : Array Obj) => Calls.regrown_of (v := .int .i64 0) ((HLN.out (Go.Sort.grow (redrawn WY d) os) (hb11.trans ((below_regrown WY d os).mono hb11.size))).mono fun r w' ⟨h1, h2⟩ => ⟨h1, by subst h2; exact Below.refl _ _⟩)
          have hHas := fun (d : Nat) (os : Array Obj) => Calls.regrown_of (HHS.out (Go.Sort.grow (redrawn WY d) os) (hb11.trans ((below_regrown WY d os).mono hb11.size)))
          have G0 := cell_regrown e0
          have G1 := cell_regrown e1
          have G2 := cell_regrown x0
          have G3 := cell_regrown x1
          have G4 := cell_regrown y0
          have G5 := cell_regrown y1
          have G6 := cell_regrown a0
          clear hWY rY hbY hb9Y rX hb11 rE hb10 HLS0 HLS rA H9 HHS HLN HR8
          rcases y with _ | _
          · go_wp2_with fail
            rw [HWY.out]
            refine wp_region_quiet_below mixed (by kernel_rfl) ?_
            dsimp only [List.append]
            iterate 5 go_big_quiet_step (fail)
            go_big_quiet_step (exact hLen _ _)
            iterate 7 go_big_quiet_step (fail)
            go_big_quiet_step (exact hHas _ _)
            repeat go_big_quiet_step (fail)
            refine wpQuiet_nil ?_
            rintro w' ⟨⟨dq, osq⟩, hw'⟩
            have H12 : Hid (Below w8.heap.size w8 w') := H11.out.trans ((show Below WY.heap.size WY w' by rw [hw']; exact below_regrown _ dq osq).mono H11.out.size)
            clear hw' G0 G1 G2 G3 G4 G5 G6 hLen hHas e0 e1 x0 x1 y0 y1 a0 HWY H11
            go_wp2
            go_roundg (N - (k + 1))
            case measure => (have := HK.out; clear hm0 hm1 hmn; omega)
            case rel =>
              obtain ⟨z1, z2⟩ := HK.out
              clear HH hm0 hm1 hmn
              exact ⟨k + 1, [], by omega, by omega, by simp, H8.out.1.same H12.out, Nat.zero_le _⟩
          · go_wp2_with fail
            rw [HWY.out]
            refine wp_region_quiet_below mixed (by kernel_rfl) ?_
            dsimp only [List.append]
            iterate 5 go_big_quiet_step (fail)
            go_big_quiet_step (exact hLen _ _)
            iterate 7 go_big_quiet_step (fail)
            go_big_quiet_step (exact hHas _ _)
            repeat go_big_quiet_step (fail)
            refine wpQuiet_nil ?_
            rintro w' ⟨⟨dq, osq⟩, hw'⟩
            have H12 : Hid (Below w8.heap.size w8 w') := H11.out.trans ((show Below WY.heap.size WY w' by rw [hw']; exact below_regrown _ dq osq).mono H11.out.size)
            clear hw' G0 G1 G2 G3 G4 G5 G6 hLen hHas e0 e1 x0 x1 y0 y1 a0 HWY H11
            go_wp2
            go_roundg (N - (k + 1))
            case measure => (have := HK.out; clear hm0 hm1 hmn; omega)
            case rel =>
              obtain ⟨z1, z2⟩ := HK.out
              clear HH hm0 hm1 hmn
              exact ⟨k + 1, [], by omega, by omega, by simp, H8.out.1.same H12.out, Nat.zero_le _⟩
        · rw [show retO (((hk, hi) :: mr).head?) = .tuple #[.agg #[.string hk, .int .i64 hi], .bool true] from rfl] at hfirst
          have HFS := (show Hid _ from hfirst)
          obtain ⟨⟨tk, ti⟩, hlast⟩ : ∃ x, ((hk, hi) :: mr).getLast? = some x := ⟨_, List.getLast?_eq_some_getLast (by simp)⟩
          have HLS0 : Hid (∀ (W : World), Below w8.heap.size w8 W → Calls Try.prog 17 #[.pointer (some ⟨T, 0, none⟩)] W fun r w' => r = .returned (.tuple #[.agg #[.string tk, .int .i64 ti], .bool true]) ∧ Below W.heap.size W w') := by
            have h := HLS.out
            rw [hlast] at h
            exact h
          obtain ⟨M', rfl⟩ : ∃ M', M = M' + 1 := ⟨mr.length, by rw [← hM]; rfl⟩
          have hx0 : ((hk, hi) :: mr)[0]? = some (hk, hi) := rfl
          have hx1 : ((hk, hi) :: mr)[M']? = some (tk, ti) := by rw [← hlast, List.getLast?_eq_getElem?, hM]; rfl
          obtain ⟨BR, hr⟩ := H8.out.1.row
          obtain ⟨R, rc, hv, hc3, hc4, d0, d1, -⟩ := row_entry hr hx0
          rw [hM] at hv hc3
          obtain ⟨rfl, rfl⟩ : va = some ⟨R, 0, none⟩ ∧ vc1 = rc := by
            simp only [Value.slice.injEq, true_and] at hv; exact hv
          obtain ⟨R', rc', hv', -, -, f0, f1, -⟩ := row_entry hr hx1
          rw [hM] at hv'
          obtain ⟨rfl, rfl⟩ : R = R' ∧ vc1 = rc' := by
            simp only [Value.slice.injEq, Option.some.injEq, Addr.mk.injEq, true_and, and_true] at hv'; exact hv'
          dsimp only at d0 d1 f0 f1
          rw [Nat.zero_mul] at d0 d1
          have hM1 : M' ≤ 120 := by have := H8.out.2; clear hm0 hm1 hmn; omega
          have HD := (show Hid _ from And.intro d0 (And.intro d1 (And.intro f0 f1)))
          clear hfirst hlast hx0 hx1 hr hv hv' hc4 hM HLS d0 d1 f0 f1
          go_wp2_with fail
          refine Calls.mono HFS.out ?_
          rintro e w9 ⟨rfl, hb9⟩
          obtain ⟨WX, hWX, hbX, hsX, x0', x1'⟩ := box_any w9 hk hi
          have rX0 : WX.heap[w9.heap.size]? = some (.cells #[.string hk, .int .i64 hi] 30 (0, 0)) := by rw [← hWX]; exact heap_alloc_new _ _
          have H9 : Hid (Below w8.heap.size w8 WX) := hb9.trans (hbX.mono hb9.size)
          have HX := (show Hid _ from rX0)
          clear hb9 hbX hsX x0' x1' rX0 HFS
          go_wp2_with fail
          refine Calls.mono (HLS0.out _ H9.out) ?_
          rintro e w10 ⟨rfl, hb10⟩
          obtain ⟨WY, hWY, hbY, hsY, y0, y1⟩ := box_any w10 tk ti
          have hb9Y := hb10.trans (hbY.mono hb10.size)
          have rX := (hb9Y.block _ (lt_of_heap HX.out)).trans HX.out
          have hb11 : Below w8.heap.size w8 WY := H9.out.trans (hb9Y.mono H9.out.size)
          have rA := (hb11.block _ (lt_of_heap HR8.out.1)).trans HR8.out.1
          have rE := (hb11.block _ (lt_of_heap HR8.out.2)).trans HR8.out.2
          have H11 : Hid (Below w8.heap.size w8 WY) := hb11
          obtain ⟨x0, x1, -, -⟩ := row2_of rX
          obtain ⟨e0, e1, -, -⟩ := row2_of rE
          obtain ⟨d0', d1', f0', f1'⟩ := HD.out
          have d0 := (hb11.cell (lt_of_cell d0')).trans d0'
          have d1 := (hb11.cell (lt_of_cell d1')).trans d1'
          have f0 := (hb11.cell (lt_of_cell f0')).trans f0'
          have f1 := (hb11.cell (lt_of_cell f1')).trans f1'
          have a0 : WY.cell? ⟨wr.heap.size, 0, none⟩ = some (.int .u8 kd) := by simp [World.cell?, rA]
          have hLen := fun (d : Nat) (os : Array Obj) => Calls.regrown_of (v := .int .i64 ((M' + 1 : Nat) : Int)) ((HLN.out (Go.Sort.grow (redrawn WY d) os) (hb11.trans ((below_regrown WY d os).mono hb11.size))).mono fun r w' ⟨h1, h2⟩ => ⟨h1, by subst h2; exact Below.refl _ _⟩)
          have hHas := fun (d : Nat) (os : Array Obj) => Calls.regrown_of (HHS.out (Go.Sort.grow (redrawn WY d) os) (hb11.trans ((below_regrown WY d os).mono hb11.size)))
          have G0 := cell_regrown e0
          have G1 := cell_regrown e1
          have G2 := cell_regrown x0
          have G3 := cell_regrown x1
          have G4 := cell_regrown y0
          have G5 := cell_regrown y1
          have G6 := cell_regrown a0
          have G7 := cell_regrown d0
          have G8 := cell_regrown d1
          have G9 := cell_regrown f0
          have GA := cell_regrown f1
          clear hbY hsY hb9Y rX hb11 rE hb10 HLS0 rA H9 HHS HLN HR8 HX HD d0' d1' f0' f1'
          rcases y with _ | _
          · go_wp2_with fail
            refine wp_region_quiet_below mixed (by kernel_rfl) ?_
            dsimp only [List.append]
            iterate 5 go_big_quiet_step (fail)
            go_big_quiet_step (exact hLen _ _)
            iterate 7 go_big_quiet_step (fail)
            go_big_quiet_step (exact hHas _ _)
            repeat go_big_quiet_step (fail)
            refine wpQuiet_nil ?_
            rintro w' ⟨⟨dq, osq⟩, hw'⟩
            have H12 : Hid (Below w8.heap.size w8 w') := H11.out.trans ((show Below WY.heap.size WY w' by rw [hw']; exact below_regrown _ dq osq).mono H11.out.size)
            clear hw' G0 G1 G2 G3 G4 G5 G6 hLen hHas e0 e1 x0 x1 y0 y1 a0 H11 G7 G8 G9 GA d0 d1 f0 f1
            go_wp2
            go_roundg (N - (k + 1))
            case measure => (have := HK.out; clear hm0 hm1 hmn; omega)
            case rel =>
              obtain ⟨z1, z2⟩ := HK.out
              clear HH hm0 hm1 hmn
              exact ⟨k + 1, _, by omega, by omega, by simp, H8.out.1.same H12.out, by rw [HM.out]; exact H8.out.2⟩
          · go_wp2_with fail
            refine wp_region_quiet_below mixed (by kernel_rfl) ?_
            dsimp only [List.append]
            iterate 5 go_big_quiet_step (fail)
            go_big_quiet_step (exact hLen _ _)
            iterate 7 go_big_quiet_step (fail)
            go_big_quiet_step (exact hHas _ _)
            repeat go_big_quiet_step (fail)
            refine wpQuiet_nil ?_
            rintro w' ⟨⟨dq, osq⟩, hw'⟩
            have H12 : Hid (Below w8.heap.size w8 w') := H11.out.trans ((show Below WY.heap.size WY w' by rw [hw']; exact below_regrown _ dq osq).mono H11.out.size)
            clear hw' G0 G1 G2 G3 G4 G5 G6 hLen hHas e0 e1 x0 x1 y0 y1 a0 H11 G7 G8 G9 GA d0 d1 f0 f1
            go_wp2
            go_roundg (N - (k + 1))
            case measure => (have := HK.out; clear hm0 hm1 hmn; omega)
            case rel =>
              obtain ⟨z1, z2⟩ := HK.out
              clear HH hm0 hm1 hmn
              exact ⟨k + 1, _, by omega, by omega, by simp, H8.out.1.same H12.out, by rw [HM.out]; exact H8.out.2⟩
    · obtain rfl : N = k := by omega
      have hr := hT.row
      obtain ⟨F, hF⟩ := hT.tree
      have hall := All_any wr hF (by omega)
      have HA := (show Hid _ from hall)
      have HT : Hid (Both w wr T l (.slice la L lc) l ∧ l.length ≤ 200) := ⟨hT, by omega⟩
      have zk : ¬ (N : Int) < (N : Int) := by omega
      clear hr hT hl hk hgg hlt hall hF hL hm0 hm1 hmn
      go_wp2_with fail
      refine Calls.mono HA.out ?_
      rintro e w5 ⟨v5, rfl, B5, ho5⟩
      have H5 : Hid (Both w w5 T l (.slice la L lc) l) := HT.out.1.same ho5.below
      obtain ⟨BR, hr⟩ := H5.out.row
      have hsame := Same_any l l B5 BR v5 (.slice la L lc) w5 ho5.own hr (by have := HT.out.2; omega)
      rw [decide_eq_true rfl] at hsame
      have HS := (show Hid _ from hsame)
      clear hr hsame ho5 HA
      go_wp2_with fail
      refine Calls.mono HS.out ?_
      rintro e w6 ⟨rfl, hb6⟩
      have H6 : Hid (Both w w6 T l (.slice la L lc) l) := H5.out.same hb6
      clear hb6 HS H5 HT
      go_wp2
      go_ret
      exact ⟨rfl, H6.out.below⟩
end Go.Proofs.Ytgnhillnikjnfaa
