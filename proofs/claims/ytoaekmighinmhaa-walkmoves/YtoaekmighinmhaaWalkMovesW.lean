/-
  WalkMoves's walk. No conditions beyond those stated.
-/
import Derived.Test.YtoaekmighinmhaaWQ
namespace Go.Proofs.Ytoaekmighinmhaa
open Go.RowKit

set_option maxRecDepth 100000 in
set_option maxHeartbeats 8000000 in
theorem WalkMoves_walk (v0 : Value) (acts : List Ac) (a b : Int) (hra : 0 ≤ a ∧ a < 256) (hrb : 0 ≤ b ∧ b < 256) (dn : Bool) (v4 : Value) (more : List Ac) (w : World) (ha : ActsAt w v0 acts) (hmr : ActsAt w v4 more) :
    Calls Try.prog 3 #[v0, .int .u8 a, .int .u8 b, .bool dn, v4] w fun e w' => e = .returned (.bool true) ∧ Below w.heap.size w w' := by
  have hnr := fun w => near_any a b dn hra hrb w
  generalize frN a = fr at *
  generalize toN b = to at *
  have HNR := (show Hid _ from hnr)
  clear hnr hra hrb
  obtain ⟨a4, cap, rfl, hc1, hc2⟩ := hmr.slice
  have hat := hmr.take 60
  obtain ⟨N, hN⟩ : ∃ N, min 60 more.length = N := ⟨_, rfl⟩
  rw [hN] at hat
  have hNl : (more.take 60).length = N := by rw [List.length_take, hN]
  obtain ⟨al, has⟩ : ∃ al, more.take 60 = al := ⟨_, rfl⟩
  rw [has] at hat hNl
  have hm0 : 0 ≤ min (more.length : Int) 60 := by omega
  have hm1 : min (more.length : Int) 60 ≤ (cap : Int) := by omega
  have hmn : (min (more.length : Int) 60).toNat = N := by omega
  have hN80 : N ≤ 60 := by omega
  have HH := (show Hid _ from And.intro hat hNl)
  clear hat hmr has hN hNl
  go_enter Try.func3, Try.ntmps3
  go_wp2_with fail
  refine (awake9_any w).mono ?_
  rintro e w1 ⟨rfl, hb1⟩
  have HL := (show Hid _ from laid_any v0 acts w1 (ha.below hb1))
  have HB1 := (show Hid _ from And.intro hb1 ha)
  clear hb1 ha
  go_wp2_with fail
  refine Calls.mono HL.out ?_
  rintro e w2 ⟨T, lv, l, rfl, hB, hln, hlow⟩
  have HB : Hid (Both w1 w2 T l lv l ∧ l.length ≤ 60 ∧ LowE l) := ⟨hB, hln, hlow⟩
  have hs12 : w1.heap.size ≤ w2.heap.size := hB.below.size
  clear hB hln hlow HL
  go_wp2_with fail
  refine Calls.mono (HNR.out w2) ?_
  rintro e w3 ⟨rfl, hb3⟩
  obtain ⟨W4, hW4, hb4, hs4, r4⟩ := boxR_any w3 fr to dn
  have hb34 : Below w2.heap.size w2 W4 := hb3.trans (hb4.mono hb3.size)
  have hs3 : w2.heap.size ≤ w3.heap.size := hb3.size
  have R4 := (show Hid _ from And.intro (BothQ.more (Both.q HB.out.1) hb34 hs3 (by omega)) r4)
  obtain ⟨g0, g1, g2, -, -⟩ := Rg.view r4
  clear hb3 hb4 r4 hb34 HNR
  go_wp2_with fail
  refine (WNew_any W4 T fr to dn).mono ?_
  rintro e w5 ⟨X, rfl, hk5, hX, hb5⟩
  have K5 := (show Hid _ from And.intro (BothQ.more R4.out.1 hb5 hX (lt_of_heap hk5)) (And.intro hk5 (Rg.below R4.out.2 hb5)))
  have hXl5 : X < w5.heap.size := lt_of_heap hk5
  clear hk5 hb5 R4 g0 g1 g2
  obtain ⟨w6, hw6, hb6, hs6, r6⟩ := boxM_any w5 ⟨#[]⟩ 0 false
  have HW6 := (show Hid _ from hw6)
  have K6 : Hid (BothQ w1 w6 T l lv l (fun a => ((False ∨ a = w3.heap.size) ∨ a = X) ∨ a = w5.heap.size) ∧ (l).length ≤ 60 + 0 ∧ LowE (l) ∧ Wk w6 X T fr to dn ((none : Option En)) ∧ Rg w6 w3.heap.size fr to dn ∧ Mk w6 w5.heap.size (orE ((none : Option En))).1 (orE ((none : Option En))).2 ((none : Option En)).isSome) := ⟨BothQ.more K5.out.1 hb6 (Nat.le_refl _) (by omega), HB.out.2.1, HB.out.2.2, Wk.below K5.out.2.1 hb6, Rg.below K5.out.2.2 hb6, r6⟩
  clear hw6 hb6 r6 K5 HB
  go_wp2_with fail
  rw [HW6.out]
  clear HW6
  go_loopg [12, 17, 18, 19, 20, 21, 49] N (fun gg lv _ _ _ _ _ iv wr => ∃ (k : Nat) (l : List En) (m : Option En), k ≤ N ∧ N - k ≤ gg ∧ iv = .int .i64 k ∧ Aside (BothQ w1 wr T l lv l (fun a => ((False ∨ a = w3.heap.size) ∨ a = X) ∨ a = w5.heap.size) ∧ (l).length ≤ 60 + k ∧ LowE (l) ∧ Wk wr X T fr to dn (m) ∧ Rg wr w3.heap.size fr to dn ∧ Mk wr w5.heap.size (orE (m)).1 (orE (m)).2 (m).isSome))
  case atStart => exact ⟨0, l, none, Nat.zero_le _, by omega, rfl, K6.out⟩
  case round =>
    obtain ⟨k, l, m, hk, hgg, rfl, A⟩ := hrel
    have HQ := (show Hid _ from A.out)
    clear A K6
    by_cases hlt : k < N
    · obtain ⟨hat, hNl⟩ := HH.out
      obtain ⟨⟨kd, ky, id⟩, he⟩ : ∃ e, al[k]? = some e := ⟨_, List.getElem?_eq_getElem (by omega)⟩
      obtain ⟨b4, o4, rfl, hok, c0, c1, c2⟩ := ((hat.below HB1.out.1).below HQ.out.1.below).at he
      simp only at c0 c1 c2
      have zk : (k : Int) < (N : Int) := by omega
      obtain ⟨WA, hWA, hbA, hsA, m0, m1, m2⟩ := boxA_any wr kd ky id
      have hent := Ent_any ⟨kd, ky, id⟩ hok
      have hei := ent_low ⟨kd, ky, id⟩ hok
      obtain ⟨ek, ei, hee⟩ : ∃ ek ei, Ac.ent ⟨kd, ky, id⟩ = (ek, ei) := ⟨_, _, rfl⟩
      rw [hee] at hent hei
      have HE := (show Hid _ from And.intro hent hei)
      obtain ⟨kr, hkr⟩ : ∃ kr, kd.tmod 3 = kr := ⟨_, rfl⟩
      have hk3 : kr = 0 ∨ kr = 1 ∨ kr = 2 := by
        have h0 : 0 ≤ kd := hok.1
        rw [← hkr, Int.tmod_eq_emod_of_nonneg h0]; omega
      have HA := (show Hid _ from HQ.out)
      obtain ⟨h1, h2, h3, h4, h5, h6⟩ := HQ.out
      have H4 : Hid (BothQ w1 WA T l u12 l (fun a => ((False ∨ a = w3.heap.size) ∨ a = X) ∨ a = w5.heap.size) ∧ (l).length ≤ 60 + k ∧ LowE (l) ∧ Wk WA X T fr to dn (m) ∧ Rg WA w3.heap.size fr to dn ∧ Mk WA w5.heap.size (orE (m)).1 (orE (m)).2 (m).isSome) := ⟨h1.same hbA, h2, h3, Wk.below h4 hbA, Rg.below h5 hbA, Mk.below h6 hbA⟩
      have HK := (show Hid _ from And.intro hk hgg)
      have P0 := fun (w' : World) (h : w'.heap[wr.heap.size]? = WA.heap[wr.heap.size]?) => (World.cell?_of_block (a := ⟨wr.heap.size, 0, none⟩) h).trans m0
      have P1 := fun (w' : World) (h : w'.heap[wr.heap.size]? = WA.heap[wr.heap.size]?) => (World.cell?_of_block (a := ⟨wr.heap.size, 1, none⟩) h).trans m1
      have P2 := fun (w' : World) (h : w'.heap[wr.heap.size]? = WA.heap[wr.heap.size]?) => (World.cell?_of_block (a := ⟨wr.heap.size, 2, none⟩) h).trans m2
      have HP := (show Hid _ from And.intro P0 (And.intro P1 P2))
      have h0 : (fun w' : World => w'.heap[wr.heap.size]? = WA.heap[wr.heap.size]?) WA.drew := rfl
      clear hat hNl he h1 h2 h3 h4 h5 h6 HA HQ hbA hent hei hok hk hgg hee
      rcases hk3 with rfl | rfl | rfl
      · clear P0 P1 P2 h0 HP HE m1 m2
        obtain ⟨F, ht⟩ := H4.out.1.1.both.tree
        have HN := (show Hid _ from next_letters (WNext_any H4.out.2.2.2.1 ht H4.out.2.2.1))
        have HLN := (show Hid _ from fun (wc : World) (B : Nat) lv (hrow : wc.ownsRow B 34 2 lv l.length (encEns l)) => next_letters (LNext_any l lv B fr to dn (orE m).1 (orE m).2 m.isSome wc hrow (by have := H4.out.2.1; omega)))
        rw [mkO_or] at HLN
        obtain ⟨on, hon⟩ : ∃ on, nextE l fr to dn m = on := ⟨_, rfl⟩
        rw [hon] at HN HLN
        clear hon ht
        cases on with
        | some x =>
          obtain ⟨xk, xi⟩ := x
          have HN' : Hid (Calls Try.prog 17 #[.pointer (some ⟨X, 0, none⟩)] WA fun r w' => r = .returned (.tuple #[.agg #[.string xk, .int .i64 xi], .bool true]) ∧ Wk w' X T fr to dn (some (xk, xi)) ∧ Far (fun a => a = X) WA w') := HN.out
          clear HN
          go_wp2_with fail
          refine Calls.mono HN'.out ?_
          rintro e w7 ⟨rfl, hk7, hf7⟩
          obtain ⟨W8, hW8, hb8, hs8, r8⟩ := boxE_any w7 xk xi
          have H8 : Hid ((BothQ w1 W8 T l u12 l (fun a => ((False ∨ a = w3.heap.size) ∨ a = X) ∨ a = w5.heap.size) ∧ (l).length ≤ 60 + k ∧ LowE (l) ∧ Wk W8 X T fr to dn (some (xk, xi)) ∧ Rg W8 w3.heap.size fr to dn ∧ Mk W8 w5.heap.size (orE (m)).1 (orE (m)).2 (m).isSome) ∧ Bx W8 w7.heap.size xk xi) := by
            obtain ⟨i1, i2, i3, i4, i5, i6⟩ := H4.out
            exact ⟨⟨(i1.far hf7 (.inl (.inr rfl)) (by omega)).same hb8, i2, i3, Wk.below hk7 hb8, Rg.below (Rg.far i5 hf7 (by omega)) hb8, Mk.below (Mk.far i6 hf7 (by omega)) hb8⟩, r8⟩
          obtain ⟨B, hrow⟩ := H8.out.1.1.1.both.row
          have hln := HLN.out W8 B _ hrow
          obtain ⟨g0, g1, g2, -, -⟩ := Rg.view H8.out.1.2.2.2.2.1
          obtain ⟨q0, q1, q2, -, -⟩ := Mk.view H8.out.1.2.2.2.2.2
          obtain ⟨mk0, hmk1⟩ : ∃ x, (orE m).1 = x := ⟨_, rfl⟩
          obtain ⟨mi0, hmk2⟩ : ∃ x, (orE m).2 = x := ⟨_, rfl⟩
          obtain ⟨mb0, hmk3⟩ : ∃ x, m.isSome = x := ⟨_, rfl⟩
          have HMK := (show Hid _ from And.intro hmk1 (And.intro hmk2 hmk3))
          rw [hmk1, hmk2, hmk3] at hln
          rw [hmk1] at q0
          rw [hmk2] at q1
          rw [hmk3] at q2
          have HLN2 : Hid (Calls Try.prog 18 #[u12, .agg #[.string fr, .string to, .bool dn], .agg #[.string mk0, .int .i64 mi0, .bool mb0]] W8 fun r w' => r = .returned (.tuple #[.agg #[.string xk, .int .i64 xi], .bool true]) ∧ Below W8.heap.size W8 w') := hln
          
          clear hk7 hf7 hb8 r8 H4 HN' HLN hln hrow hmk1 hmk2 hmk3
          go_wp2_with fail
          refine Calls.mono HLN2.out ?_
          rintro e w9 ⟨rfl, hb9⟩
          obtain ⟨W10, hW10, hb10, hs10, r10⟩ := boxE_any w9 xk xi
          have hb810 := hb9.trans (hb10.mono hb9.size)
          have H10 : Hid (BothQ w1 W10 T l u12 l (fun a => ((False ∨ a = w3.heap.size) ∨ a = X) ∨ a = w5.heap.size) ∧ (l).length ≤ 60 + k ∧ LowE (l) ∧ Wk W10 X T fr to dn (some (xk, xi)) ∧ Rg W10 w3.heap.size fr to dn ∧ Mk W10 w5.heap.size (orE (m)).1 (orE (m)).2 (m).isSome) := by
            obtain ⟨⟨i1, i2, i3, i4, i5, i6⟩, -⟩ := H8.out
            exact ⟨i1.same hb810, i2, i3, Wk.below i4 hb810, Rg.below i5 hb810, Mk.below i6 hb810⟩
          obtain ⟨x0, x1, xf, xl⟩ := row2_of (Bx.below H8.out.2 hb810)
          obtain ⟨y0, y1, yf, yl⟩ := row2_of r10
          have hw5l : w5.heap.size < W10.heap.size := lt_of_heap H10.out.2.2.2.2.2
          clear hb9 hb10 hb810 r10 H8 HLN2 g0 g1 g2 q0 q1 q2
          obtain ⟨W11, hW11⟩ : ∃ W11, ((W10.setCell ⟨w5.heap.size, 0, none⟩ (.string xk)).setCell ⟨w5.heap.size, 1, none⟩ (.int .i64 xi)).setCell ⟨w5.heap.size, 2, none⟩ (.bool true) = W11 := ⟨_, rfl⟩
          have hf11 : Far (fun a => a = w5.heap.size) W10 W11 := by
            rw [← hW11]
            exact Far.cell (G := fun a => a = w5.heap.size) (p := ⟨w5.heap.size, 2, none⟩) (Far.cell (G := fun a => a = w5.heap.size) (p := ⟨w5.heap.size, 1, none⟩) (Far.cell (G := fun a => a = w5.heap.size) (p := ⟨w5.heap.size, 0, none⟩) (Far.of_below (Below.refl _ _)) (.inl rfl) _) (.inl rfl) _) (.inl rfl) _
          have hM11 : Mk W11 w5.heap.size xk xi true := by
            rw [← hW11]
            show (World.heap _)[_]? = _
            rw [heap_setCell_at (heap_setCell_at (heap_setCell_at H10.out.2.2.2.2.2))]; rfl
          have H11 : Hid (BothQ w1 W11 T l u12 l (fun a => ((False ∨ a = w3.heap.size) ∨ a = X) ∨ a = w5.heap.size) ∧ (l).length ≤ 60 + k ∧ LowE (l) ∧ Wk W11 X T fr to dn (some (xk, xi)) ∧ Rg W11 w3.heap.size fr to dn ∧ Mk W11 w5.heap.size (orE (some (xk, xi))).1 (orE (some (xk, xi))).2 (some (xk, xi)).isSome) := by
            obtain ⟨i1, i2, i3, i4, i5, -⟩ := H10.out
            exact ⟨i1.far hf11 (.inr rfl) (by omega), i2, i3, Wk.far i4 hf11 (by omega), Rg.far i5 hf11 (by omega), hM11⟩
          obtain ⟨q0, q1, q2, qf, -⟩ := Mk.view H10.out.2.2.2.2.2
          clear hf11 hM11 H10
          have hmk := fun (d : Nat) (os : Array Obj) => Calls.regrown_of (WMark_any (w := Go.Sort.grow (redrawn W11 d) os) (WkR.below H11.out.2.2.2.1 (below_regrown _ d os)))
          rw [show (orE (some (xk, xi))).1 = xk from rfl, show (orE (some (xk, xi))).2 = xi from rfl, show (some (xk, xi)).isSome = true from rfl] at hmk
          obtain ⟨j0, j1, j2, -, -⟩ := Mk.view H11.out.2.2.2.2.2
          rw [show (orE (some (xk, xi))).1 = xk from rfl] at j0
          rw [show (orE (some (xk, xi))).2 = xi from rfl] at j1
          rw [show (some (xk, xi)).isSome = true from rfl] at j2
          have G0 := cell_regrown j0
          have G1 := cell_regrown j1
          have G2 := cell_regrown j2
          clear j0 j1 j2
          go_wp2_with fail
          
          refine wp_region_quiet_below mixed (by kernel_rfl) ?_
          go_big_quiet_step (fail)
          go_big_quiet_step (exact hmk _ _)
          repeat go_big_quiet_step (fail)
          refine wpQuiet_nil ?_
          rintro w12 ⟨⟨dq, osq⟩, hw12⟩
          have hb12 : Below W11.heap.size W11 w12 := by rw [hw12]; exact below_regrown _ dq osq
          have H12 : Hid (BothQ w1 w12 T l u12 l (fun a => ((False ∨ a = w3.heap.size) ∨ a = X) ∨ a = w5.heap.size) ∧ (l).length ≤ 60 + (k + 1) ∧ LowE (l) ∧ Wk w12 X T fr to dn (some (xk, xi)) ∧ Rg w12 w3.heap.size fr to dn ∧ Mk w12 w5.heap.size (orE (some (xk, xi))).1 (orE (some (xk, xi))).2 (some (xk, xi)).isSome) := by
            obtain ⟨i1, i2, i3, i4, i5, i6⟩ := H11.out
            exact ⟨i1.same hb12, by omega, i3, Wk.below i4 hb12, Rg.below i5 hb12, Mk.below i6 hb12⟩
          clear hw12 hb12 G0 G1 G2 hmk H11
          go_wp2
          go_roundg (N - (k + 1))
          case measure => (have := HK.out; clear hm0 hm1 hmn; omega)
          case rel =>
            obtain ⟨z1, z2⟩ := HK.out
            clear HH hm0 hm1 hmn
            exact ⟨k + 1, l, some (xk, xi), by omega, by omega, by simp, H12.out⟩
        | none =>
          have HN' : Hid (Calls Try.prog 17 #[.pointer (some ⟨X, 0, none⟩)] WA fun r w' => r = .returned (.tuple #[.agg #[.string ⟨#[]⟩, .int .i64 0], .bool false]) ∧ Wk w' X T fr to dn (m) ∧ Far (fun a => a = X) WA w') := HN.out
          clear HN
          go_wp2_with fail
          refine Calls.mono HN'.out ?_
          rintro e w7 ⟨rfl, hk7, hf7⟩
          obtain ⟨W8, hW8, hb8, hs8, r8⟩ := boxE_any w7 ⟨#[]⟩ 0
          have H8 : Hid ((BothQ w1 W8 T l u12 l (fun a => ((False ∨ a = w3.heap.size) ∨ a = X) ∨ a = w5.heap.size) ∧ (l).length ≤ 60 + k ∧ LowE (l) ∧ Wk W8 X T fr to dn (m) ∧ Rg W8 w3.heap.size fr to dn ∧ Mk W8 w5.heap.size (orE (m)).1 (orE (m)).2 (m).isSome) ∧ Bx W8 w7.heap.size ⟨#[]⟩ 0) := by
            obtain ⟨i1, i2, i3, i4, i5, i6⟩ := H4.out
            exact ⟨⟨(i1.far hf7 (.inl (.inr rfl)) (by omega)).same hb8, i2, i3, Wk.below hk7 hb8, Rg.below (Rg.far i5 hf7 (by omega)) hb8, Mk.below (Mk.far i6 hf7 (by omega)) hb8⟩, r8⟩
          obtain ⟨B, hrow⟩ := H8.out.1.1.1.both.row
          have hln := HLN.out W8 B _ hrow
          obtain ⟨g0, g1, g2, -, -⟩ := Rg.view H8.out.1.2.2.2.2.1
          obtain ⟨q0, q1, q2, -, -⟩ := Mk.view H8.out.1.2.2.2.2.2
          obtain ⟨mk0, hmk1⟩ : ∃ x, (orE m).1 = x := ⟨_, rfl⟩
          obtain ⟨mi0, hmk2⟩ : ∃ x, (orE m).2 = x := ⟨_, rfl⟩
          obtain ⟨mb0, hmk3⟩ : ∃ x, m.isSome = x := ⟨_, rfl⟩
          have HMK := (show Hid _ from And.intro hmk1 (And.intro hmk2 hmk3))
          rw [hmk1, hmk2, hmk3] at hln
          rw [hmk1] at q0
          rw [hmk2] at q1
          rw [hmk3] at q2
          have HLN2 : Hid (Calls Try.prog 18 #[u12, .agg #[.string fr, .string to, .bool dn], .agg #[.string mk0, .int .i64 mi0, .bool mb0]] W8 fun r w' => r = .returned (.tuple #[.agg #[.string ⟨#[]⟩, .int .i64 0], .bool false]) ∧ Below W8.heap.size W8 w') := hln
          rw [← hW8] at g0 g1 g2 q0 q1 q2
          have HWZ := (show Hid _ from hW8)
          clear hW8
          clear hk7 hf7 hb8 r8 H4 HN' HLN hln hrow hmk1 hmk2 hmk3
          go_wp2_with fail
          rw [HWZ.out]
          clear HWZ
          refine Calls.mono HLN2.out ?_
          rintro e w9 ⟨rfl, hb9⟩
          obtain ⟨W10, hW10, hb10, hs10, r10⟩ := boxE_any w9 ⟨#[]⟩ 0
          have hb810 := hb9.trans (hb10.mono hb9.size)
          have H10 : Hid (BothQ w1 W10 T l u12 l (fun a => ((False ∨ a = w3.heap.size) ∨ a = X) ∨ a = w5.heap.size) ∧ (l).length ≤ 60 + k ∧ LowE (l) ∧ Wk W10 X T fr to dn (m) ∧ Rg W10 w3.heap.size fr to dn ∧ Mk W10 w5.heap.size (orE (m)).1 (orE (m)).2 (m).isSome) := by
            obtain ⟨⟨i1, i2, i3, i4, i5, i6⟩, -⟩ := H8.out
            exact ⟨i1.same hb810, i2, i3, Wk.below i4 hb810, Rg.below i5 hb810, Mk.below i6 hb810⟩
          obtain ⟨x0, x1, xf, xl⟩ := row2_of (Bx.below H8.out.2 hb810)
          obtain ⟨y0, y1, yf, yl⟩ := row2_of r10
          have hw5l : w5.heap.size < W10.heap.size := lt_of_heap H10.out.2.2.2.2.2
          clear hb9 hb10 hb810 r10 H8 HLN2 g0 g1 g2 q0 q1 q2
          rw [← hW10] at x0 x1 y0 y1 xf yf
          have HWZ := (show Hid _ from hW10)
          clear hW10
          have hmk := fun (d : Nat) (os : Array Obj) => Calls.regrown_of (WMark_any (w := Go.Sort.grow (redrawn W10 d) os) (WkR.below H10.out.2.2.2.1 (below_regrown _ d os)))
          obtain ⟨j0, j1, j2, -, -⟩ := Mk.view H10.out.2.2.2.2.2
          obtain ⟨mk, hmk1⟩ : ∃ x, (orE m).1 = x := ⟨_, rfl⟩
          obtain ⟨mi, hmk2⟩ : ∃ x, (orE m).2 = x := ⟨_, rfl⟩
          obtain ⟨mb, hmk3⟩ : ∃ x, m.isSome = x := ⟨_, rfl⟩
          rw [hmk1, hmk2, hmk3] at hmk
          rw [hmk1] at j0
          rw [hmk2] at j1
          rw [hmk3] at j2
          clear hmk1 hmk2 hmk3
          have G0 := cell_regrown j0
          have G1 := cell_regrown j1
          have G2 := cell_regrown j2
          clear j0 j1 j2
          go_wp2_with fail
          rw [HWZ.out]
          refine wp_region_quiet_below mixed (by kernel_rfl) ?_
          go_big_quiet_step (fail)
          go_big_quiet_step (exact hmk _ _)
          repeat go_big_quiet_step (fail)
          refine wpQuiet_nil ?_
          rintro w12 ⟨⟨dq, osq⟩, hw12⟩
          have hb12 : Below W10.heap.size W10 w12 := by rw [hw12]; exact below_regrown _ dq osq
          have H12 : Hid (BothQ w1 w12 T l u12 l (fun a => ((False ∨ a = w3.heap.size) ∨ a = X) ∨ a = w5.heap.size) ∧ (l).length ≤ 60 + (k + 1) ∧ LowE (l) ∧ Wk w12 X T fr to dn (m) ∧ Rg w12 w3.heap.size fr to dn ∧ Mk w12 w5.heap.size (orE (m)).1 (orE (m)).2 (m).isSome) := by
            obtain ⟨i1, i2, i3, i4, i5, i6⟩ := H10.out
            exact ⟨i1.same hb12, by omega, i3, Wk.below i4 hb12, Rg.below i5 hb12, Mk.below i6 hb12⟩
          clear hw12 hb12 G0 G1 G2 hmk H10
          go_wp2
          go_roundg (N - (k + 1))
          case measure => (have := HK.out; clear hm0 hm1 hmn; omega)
          case rel =>
            obtain ⟨z1, z2⟩ := HK.out
            clear HH hm0 hm1 hmn
            exact ⟨k + 1, l, m, by omega, by omega, by simp, H12.out⟩
      · clear m0 m1 m2
        go_wp2_with fail
        refine wp_region_held (S := fun w' => w'.heap[wr.heap.size]? = WA.heap[wr.heap.size]?) mixed ?_
        refine wpAnyH_take (i := 0) (oi := ⟨_, _, _, _, _, _⟩) (v := ?v1) rfl (by kernel_rfl) (by kernel_rfl) (by kernel_rfl) (fun _ _ _ h => h) (Or.inl ⟨by rfl, ?hy1⟩) h0 ?rest1
        case hy1 => (intro w hSw; (try dsimp only at hSw); go_simp; try with_reducible rfl)
        simp only [Act.put, List.setIfInBounds_toArray, List.set_cons_zero, List.set_cons_succ]
        refine wpAnyH_take (i := 1) (oi := ⟨_, _, _, _, _, _⟩) (v := ?v2) rfl (by kernel_rfl) (by kernel_rfl) (by kernel_rfl) (fun _ _ _ h => h) (Or.inl ⟨by rfl, ?hy2⟩) h0 ?rest2
        case hy2 => (intro w hSw; (try dsimp only at hSw); go_simp; try with_reducible rfl)
        simp only [Act.put, List.setIfInBounds_toArray, List.set_cons_zero, List.set_cons_succ]
        refine wpAnyH_take (i := 3) (oi := ⟨_, _, _, _, _, _⟩) (v := ?v3) rfl (by kernel_rfl) (by kernel_rfl) (by kernel_rfl) (fun _ _ _ h => h) (Or.inl ⟨by rfl, ?hy3⟩) h0 ?rest3
        case hy3 => (intro w hSw; (try dsimp only at hSw); go_simp; try with_reducible rfl)
        simp only [Act.put, List.setIfInBounds_toArray, List.set_cons_zero, List.set_cons_succ]
        refine wpAnyH_take (i := 4) (oi := ⟨_, _, _, _, _, _⟩) (v := ?v4) rfl (by kernel_rfl) (by kernel_rfl) (by kernel_rfl) (fun _ _ _ h => h) (Or.inl ⟨by rfl, ?hy4⟩) h0 ?rest4
        case hy4 => (intro w hSw; (try dsimp only at hSw); go_simp; try with_reducible rfl)
        simp only [Act.put, List.setIfInBounds_toArray, List.set_cons_zero, List.set_cons_succ]
        refine wpAnyH_take (i := 5) (oi := ⟨_, _, _, _, _, _⟩) (v := ?v5) rfl (by kernel_rfl) (by kernel_rfl) (by kernel_rfl) (fun _ _ _ h => h) (Or.inl ⟨by rfl, ?hy5⟩) h0 ?rest5
        case hy5 => (intro w hSw; (try dsimp only at hSw); go_simp; try with_reducible rfl)
        simp only [Act.put, List.setIfInBounds_toArray, List.set_cons_zero, List.set_cons_succ]
        refine wpAnyH_take (i := 6) (oi := ⟨_, _, _, _, _, _⟩) (v := ?v6) rfl (by kernel_rfl) (by kernel_rfl) (by kernel_rfl) (fun _ _ _ h => h) (Or.inl ⟨by rfl, ?hy6⟩) h0 ?rest6
        case hy6 => (intro w hSw; (try dsimp only at hSw); go_simp; try with_reducible rfl)
        simp only [Act.put, List.setIfInBounds_toArray, List.set_cons_zero, List.set_cons_succ]
        refine wpAnyH_ready (rs := [2]) (by kernel_rfl) (by simp) ?_
        refine AllReadyH.cons (o := ⟨_, _, _, _, _, _⟩) rfl (fun K hK => ?_) AllReadyH.nil
        go_simp
        refine Calls.mono (HE.out.1 WA.drew) ?_
        rintro e w7 ⟨rfl, hb7⟩
        have h7 : w7.heap[wr.heap.size]? = WA.heap[wr.heap.size]? := hb7.block _ (show wr.heap.size < WA.heap.size by omega)
        have hB7 := BothQ.same H4.out.1 (Below.drop_drew hb7)
        have HB7 := (show Hid _ from Below.drop_drew hb7)
        have hsz7 : WA.heap.size ≤ w7.heap.size := hb7.size
        clear hb7
        refine hK.out _ _ h7 (fun hHeld => ?_)
        clear hK K hHeld
        try simp only [Act.put, List.setIfInBounds_toArray, List.set_cons_zero, List.set_cons_succ]
        refine wpAnyH_ready (rs := [7]) (by kernel_rfl) (by simp) ?_
        refine AllReadyH.cons (o := ⟨_, _, _, _, _, _⟩) rfl (fun K hK => ?_) AllReadyH.nil
        go_simp
        refine Calls.mono (BothQ.With hB7 (ek, ei) true (by have := H4.out.2.1; omega)) ?_
        rintro e w8 ⟨v8, rfl, hB8, hb8⟩
        have h8 : w8.heap[wr.heap.size]? = WA.heap[wr.heap.size]? := (hb8.block _ (show wr.heap.size < w7.heap.size by omega)).trans h7
        have HB8 : Hid (Below WA.heap.size WA w8) := HB7.out.trans (hb8.mono HB7.out.size)
        have H8 : Hid (BothQ w1 w8 T l v8 (insE (ek, ei) l) (fun a => ((False ∨ a = w3.heap.size) ∨ a = X) ∨ a = w5.heap.size)) := hB8
        have hsz8 : w7.heap.size ≤ w8.heap.size := hb8.size
        clear hB7 hB8 hb8 HB7
        refine hK.out _ _ h8 (fun hHeld => ?_)
        clear hK K hHeld
        try simp only [Act.put, List.setIfInBounds_toArray, List.set_cons_zero, List.set_cons_succ]
        refine wpAnyH_take (i := 8) (oi := ⟨_, _, _, _, _, _⟩) (v := ?v7) rfl (by kernel_rfl) (by kernel_rfl) (by kernel_rfl) (fun _ _ _ h => h) (Or.inl ⟨by rfl, ?hy7⟩) h8 ?rest7
        case hy7 => (intro w hSw; (try dsimp only at hSw); go_simp; try with_reducible rfl)
        simp only [Act.put, List.setIfInBounds_toArray, List.set_cons_zero, List.set_cons_succ]
        refine wpAnyH_take (i := 9) (oi := ⟨_, _, _, _, _, _⟩) (v := ?v8) rfl (by kernel_rfl) (by kernel_rfl) (by kernel_rfl) (fun _ _ _ h => h) (Or.inl ⟨by rfl, ?hy8⟩) h8 ?rest8
        case hy8 => (intro w hSw; (try dsimp only at hSw); go_simp; try with_reducible rfl)
        simp only [Act.put, List.setIfInBounds_toArray, List.set_cons_zero, List.set_cons_succ]
        refine wpAnyH_take (i := 10) (oi := ⟨_, _, _, _, _, _⟩) (v := ?v9) rfl (by kernel_rfl) (by kernel_rfl) (by kernel_rfl) (fun _ _ _ h => h) (Or.inl ⟨by rfl, ?hy9⟩) h8 ?rest9
        case hy9 => (intro w hSw; (try dsimp only at hSw); go_simp; try with_reducible rfl)
        simp only [Act.put, List.setIfInBounds_toArray, List.set_cons_zero, List.set_cons_succ]
        refine wpAnyH_ready (rs := [11]) (by kernel_rfl) (by simp) ?_
        refine AllReadyH.cons (o := ⟨_, _, _, _, _, _⟩) rfl (fun K hK => ?_) AllReadyH.nil
        go_simp
        refine hK.out _ _ h8 (fun hHeld => ?_)
        clear hK K hHeld
        try simp only [Act.put, List.setIfInBounds_toArray, List.set_cons_zero, List.set_cons_succ]
        refine wpAnyH_done (by kernel_rfl) ?_ _
        have q0 := HP.out.1 w8 h8
        have q1 := HP.out.2.1 w8 h8
        have q2 := HP.out.2.2 w8 h8
        clear P0 P1 P2 h0 h7
        go_wp2_with fail
        refine Calls.mono (HE.out.1 w8) ?_
        rintro e w9 ⟨rfl, hb9⟩
        have HB9 : Hid (Below WA.heap.size WA w9) := HB8.out.trans (hb9.mono HB8.out.size)
        have H9 := (show Hid _ from BothQ.same H8.out hb9)
        clear H8 HB8 q0 q1 q2 h8 hb9 HP
        go_wp2_with fail
        refine Calls.mono (BothQ.add H9.out (ek, ei) (by have := H4.out.2.1; omega)) ?_
        rintro e w10 ⟨rfl, hB10, hP10⟩
        have H10 : Hid (BothQ w1 w10 T (insE (ek, ei) l) v8 (insE (ek, ei) l) (fun a => ((False ∨ a = w3.heap.size) ∨ a = X) ∨ a = w5.heap.size) ∧ ((insE (ek, ei) l)).length ≤ 60 + (k + 1) ∧ LowE ((insE (ek, ei) l)) ∧ Wk w10 X T fr to dn (m) ∧ Rg w10 w3.heap.size fr to dn ∧ Mk w10 w5.heap.size (orE (m)).1 (orE (m)).2 (m).isSome) := by
          obtain ⟨-, h2, h3, h4, h5, h6⟩ := H4.out
          refine ⟨hB10, by have := len_ins (ek, ei) l; omega, low_ins h3 HE.out.2, ?_, ?_, ?_⟩
          · exact (hP10 X (.inl (.inr rfl))).trans (Wk.below h4 HB9.out)
          · exact (hP10 w3.heap.size (.inl (.inl (.inr rfl)))).trans (Rg.below h5 HB9.out)
          · exact (hP10 w5.heap.size (.inr rfl)).trans (Mk.below h6 HB9.out)
        clear H9 H4 HE hB10 hP10 HB9
        go_wp2
        go_roundg (N - (k + 1))
        case measure => (have := HK.out; clear hm0 hm1 hmn; omega)
        case rel =>
          obtain ⟨z1, z2⟩ := HK.out
          clear HH hm0 hm1 hmn
          exact ⟨k + 1, insE (ek, ei) l, m, by omega, by omega, by simp, H10.out⟩
      · clear m0 m1 m2
        go_wp2_with fail
        refine wp_region_held (S := fun w' => w'.heap[wr.heap.size]? = WA.heap[wr.heap.size]?) mixed ?_
        refine wpAnyH_take (i := 0) (oi := ⟨_, _, _, _, _, _⟩) (v := ?v10) rfl (by kernel_rfl) (by kernel_rfl) (by kernel_rfl) (fun _ _ _ h => h) (Or.inl ⟨by rfl, ?hy10⟩) h0 ?rest10
        case hy10 => (intro w hSw; (try dsimp only at hSw); go_simp; try with_reducible rfl)
        simp only [Act.put, List.setIfInBounds_toArray, List.set_cons_zero, List.set_cons_succ]
        refine wpAnyH_take (i := 1) (oi := ⟨_, _, _, _, _, _⟩) (v := ?v11) rfl (by kernel_rfl) (by kernel_rfl) (by kernel_rfl) (fun _ _ _ h => h) (Or.inl ⟨by rfl, ?hy11⟩) h0 ?rest11
        case hy11 => (intro w hSw; (try dsimp only at hSw); go_simp; try with_reducible rfl)
        simp only [Act.put, List.setIfInBounds_toArray, List.set_cons_zero, List.set_cons_succ]
        refine wpAnyH_take (i := 3) (oi := ⟨_, _, _, _, _, _⟩) (v := ?v12) rfl (by kernel_rfl) (by kernel_rfl) (by kernel_rfl) (fun _ _ _ h => h) (Or.inl ⟨by rfl, ?hy12⟩) h0 ?rest12
        case hy12 => (intro w hSw; (try dsimp only at hSw); go_simp; try with_reducible rfl)
        simp only [Act.put, List.setIfInBounds_toArray, List.set_cons_zero, List.set_cons_succ]
        refine wpAnyH_take (i := 4) (oi := ⟨_, _, _, _, _, _⟩) (v := ?v13) rfl (by kernel_rfl) (by kernel_rfl) (by kernel_rfl) (fun _ _ _ h => h) (Or.inl ⟨by rfl, ?hy13⟩) h0 ?rest13
        case hy13 => (intro w hSw; (try dsimp only at hSw); go_simp; try with_reducible rfl)
        simp only [Act.put, List.setIfInBounds_toArray, List.set_cons_zero, List.set_cons_succ]
        refine wpAnyH_take (i := 5) (oi := ⟨_, _, _, _, _, _⟩) (v := ?v14) rfl (by kernel_rfl) (by kernel_rfl) (by kernel_rfl) (fun _ _ _ h => h) (Or.inl ⟨by rfl, ?hy14⟩) h0 ?rest14
        case hy14 => (intro w hSw; (try dsimp only at hSw); go_simp; try with_reducible rfl)
        simp only [Act.put, List.setIfInBounds_toArray, List.set_cons_zero, List.set_cons_succ]
        refine wpAnyH_take (i := 6) (oi := ⟨_, _, _, _, _, _⟩) (v := ?v15) rfl (by kernel_rfl) (by kernel_rfl) (by kernel_rfl) (fun _ _ _ h => h) (Or.inl ⟨by rfl, ?hy15⟩) h0 ?rest15
        case hy15 => (intro w hSw; (try dsimp only at hSw); go_simp; try with_reducible rfl)
        simp only [Act.put, List.setIfInBounds_toArray, List.set_cons_zero, List.set_cons_succ]
        refine wpAnyH_ready (rs := [2]) (by kernel_rfl) (by simp) ?_
        refine AllReadyH.cons (o := ⟨_, _, _, _, _, _⟩) rfl (fun K hK => ?_) AllReadyH.nil
        go_simp
        refine Calls.mono (HE.out.1 WA.drew) ?_
        rintro e w7 ⟨rfl, hb7⟩
        have h7 : w7.heap[wr.heap.size]? = WA.heap[wr.heap.size]? := hb7.block _ (show wr.heap.size < WA.heap.size by omega)
        have hB7 := BothQ.same H4.out.1 (Below.drop_drew hb7)
        have HB7 := (show Hid _ from Below.drop_drew hb7)
        have hsz7 : WA.heap.size ≤ w7.heap.size := hb7.size
        clear hb7
        refine hK.out _ _ h7 (fun hHeld => ?_)
        clear hK K hHeld
        try simp only [Act.put, List.setIfInBounds_toArray, List.set_cons_zero, List.set_cons_succ]
        refine wpAnyH_ready (rs := [7]) (by kernel_rfl) (by simp) ?_
        refine AllReadyH.cons (o := ⟨_, _, _, _, _, _⟩) rfl (fun K hK => ?_) AllReadyH.nil
        go_simp
        refine Calls.mono (BothQ.With hB7 (ek, ei) false (by have := H4.out.2.1; omega)) ?_
        rintro e w8 ⟨v8, rfl, hB8, hb8⟩
        have h8 : w8.heap[wr.heap.size]? = WA.heap[wr.heap.size]? := (hb8.block _ (show wr.heap.size < w7.heap.size by omega)).trans h7
        have HB8 : Hid (Below WA.heap.size WA w8) := HB7.out.trans (hb8.mono HB7.out.size)
        have H8 : Hid (BothQ w1 w8 T l v8 (delE (ek, ei) l) (fun a => ((False ∨ a = w3.heap.size) ∨ a = X) ∨ a = w5.heap.size)) := hB8
        have hsz8 : w7.heap.size ≤ w8.heap.size := hb8.size
        clear hB7 hB8 hb8 HB7
        refine hK.out _ _ h8 (fun hHeld => ?_)
        clear hK K hHeld
        try simp only [Act.put, List.setIfInBounds_toArray, List.set_cons_zero, List.set_cons_succ]
        refine wpAnyH_take (i := 8) (oi := ⟨_, _, _, _, _, _⟩) (v := ?v16) rfl (by kernel_rfl) (by kernel_rfl) (by kernel_rfl) (fun _ _ _ h => h) (Or.inl ⟨by rfl, ?hy16⟩) h8 ?rest16
        case hy16 => (intro w hSw; (try dsimp only at hSw); go_simp; try with_reducible rfl)
        simp only [Act.put, List.setIfInBounds_toArray, List.set_cons_zero, List.set_cons_succ]
        refine wpAnyH_take (i := 9) (oi := ⟨_, _, _, _, _, _⟩) (v := ?v17) rfl (by kernel_rfl) (by kernel_rfl) (by kernel_rfl) (fun _ _ _ h => h) (Or.inl ⟨by rfl, ?hy17⟩) h8 ?rest17
        case hy17 => (intro w hSw; (try dsimp only at hSw); go_simp; try with_reducible rfl)
        simp only [Act.put, List.setIfInBounds_toArray, List.set_cons_zero, List.set_cons_succ]
        refine wpAnyH_take (i := 10) (oi := ⟨_, _, _, _, _, _⟩) (v := ?v18) rfl (by kernel_rfl) (by kernel_rfl) (by kernel_rfl) (fun _ _ _ h => h) (Or.inl ⟨by rfl, ?hy18⟩) h8 ?rest18
        case hy18 => (intro w hSw; (try dsimp only at hSw); go_simp; try with_reducible rfl)
        simp only [Act.put, List.setIfInBounds_toArray, List.set_cons_zero, List.set_cons_succ]
        refine wpAnyH_ready (rs := [11]) (by kernel_rfl) (by simp) ?_
        refine AllReadyH.cons (o := ⟨_, _, _, _, _, _⟩) rfl (fun K hK => ?_) AllReadyH.nil
        go_simp
        refine hK.out _ _ h8 (fun hHeld => ?_)
        clear hK K hHeld
        try simp only [Act.put, List.setIfInBounds_toArray, List.set_cons_zero, List.set_cons_succ]
        refine wpAnyH_done (by kernel_rfl) ?_ _
        have q0 := HP.out.1 w8 h8
        have q1 := HP.out.2.1 w8 h8
        have q2 := HP.out.2.2 w8 h8
        clear P0 P1 P2 h0 h7
        go_wp2_with fail
        refine Calls.mono (HE.out.1 w8) ?_
        rintro e w9 ⟨rfl, hb9⟩
        have HB9 : Hid (Below WA.heap.size WA w9) := HB8.out.trans (hb9.mono HB8.out.size)
        have H9 := (show Hid _ from BothQ.same H8.out hb9)
        clear H8 HB8 q0 q1 q2 h8 hb9 HP
        go_wp2_with fail
        refine Calls.mono (BothQ.del H9.out (ek, ei) (by have := H4.out.2.1; omega)) ?_
        rintro e w10 ⟨rfl, hB10, hP10⟩
        have H10 : Hid (BothQ w1 w10 T (delE (ek, ei) l) v8 (delE (ek, ei) l) (fun a => ((False ∨ a = w3.heap.size) ∨ a = X) ∨ a = w5.heap.size) ∧ ((delE (ek, ei) l)).length ≤ 60 + (k + 1) ∧ LowE ((delE (ek, ei) l)) ∧ Wk w10 X T fr to dn (m) ∧ Rg w10 w3.heap.size fr to dn ∧ Mk w10 w5.heap.size (orE (m)).1 (orE (m)).2 (m).isSome) := by
          obtain ⟨-, h2, h3, h4, h5, h6⟩ := H4.out
          refine ⟨hB10, by have := len_del (ek, ei) l; omega, low_del h3, ?_, ?_, ?_⟩
          · exact (hP10 X (.inl (.inr rfl))).trans (Wk.below h4 HB9.out)
          · exact (hP10 w3.heap.size (.inl (.inl (.inr rfl)))).trans (Rg.below h5 HB9.out)
          · exact (hP10 w5.heap.size (.inr rfl)).trans (Mk.below h6 HB9.out)
        clear H9 H4 HE hB10 hP10 HB9
        go_wp2
        go_roundg (N - (k + 1))
        case measure => (have := HK.out; clear hm0 hm1 hmn; omega)
        case rel =>
          obtain ⟨z1, z2⟩ := HK.out
          clear HH hm0 hm1 hmn
          exact ⟨k + 1, delE (ek, ei) l, m, by omega, by omega, by simp, H10.out⟩
    · obtain rfl : N = k := by omega
      have HF := (show Hid _ from HB1.out.1.trans (HQ.out.1.below.mono HB1.out.1.size))
      have zk : ¬ (N : Int) < (N : Int) := by omega
      clear HQ hk hgg hlt hm0 hm1 hmn
      go_wp2
      go_ret
      exact ⟨rfl, HF.out⟩
end Go.Proofs.Ytoaekmighinmhaa
