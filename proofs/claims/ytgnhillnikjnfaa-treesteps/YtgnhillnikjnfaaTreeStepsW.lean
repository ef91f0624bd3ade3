/-
  TreeSteps's walk. No conditions beyond those stated.
-/
import Derived.Test.YtgnhillnikjnfaaBBoth
namespace Go.Proofs.Ytgnhillnikjnfaa
open Go.RowKit

theorem after_snoc (x y : En) (l : List En) : afterE x (l ++ [y]) = match afterE x l with | some z => some z | none => if cmpE x y < 0 then some y else none := by
  unfold afterE
  rw [List.find?_append]
  cases List.find? (fun z => decide (cmpE x z < 0)) l with
  | some z => rfl
  | none =>
    by_cases h : cmpE x y < 0
    · simp [h]
    · simp [h]
theorem before_snoc (x y : En) : ∀ l : List En, beforeE x (l ++ [y]) = if cmpE y x < 0 then some y else beforeE x l
  | [] => by simp [beforeE]
  | z :: l => by
    have ih := before_snoc x y l
    show (match beforeE x (l ++ [y]) with | some u => some u | none => if cmpE z x < 0 then some z else none) = _
    rw [ih]
    by_cases h : cmpE y x < 0
    · rw [if_pos h, if_pos h]
    · rw [if_neg h, if_neg h]; rfl
theorem after_keep {x y : En} {l : List En} (h : ¬ cmpE x y < 0 ∨ (afterE x l).isSome = true) : afterE x (l ++ [y]) = afterE x l := by
  rw [after_snoc]
  cases hc : afterE x l with
  | some z => rfl
  | none =>
    rw [hc] at h
    rcases h with h | h
    · simp [h]
    · cases h
theorem after_new {x y : En} {l : List En} (h : (afterE x l).isSome = false) (h2 : cmpE x y < 0) : afterE x (l ++ [y]) = some y := by
  rw [after_snoc]
  cases hc : afterE x l with
  | some z => rw [hc] at h; cases h
  | none => simp [h2]
/-- what a box holds of one that is there or not. -/
def orE (o : Option En) : En := match o with | some x => x | none => (⟨#[]⟩, 0)
theorem retO_or (o : Option En) : retO o = .tuple #[.agg #[.string (orE o).1, .int .i64 (orE o).2], .bool o.isSome] := by cases o <;> rfl
/-- two boxes beside one another. -/
theorem box2w (w : World) : ∃ W0, (w.alloc (.cells #[.string ⟨#[]⟩, .int .i64 0] 30)).alloc (.cells #[.string ⟨#[]⟩, .int .i64 0] 30) = W0 ∧ Below w.heap.size w W0 ∧ W0.heap.size = w.heap.size + 1 + 1 ∧ W0.heap[w.heap.size]? = some (.cells #[.string ⟨#[]⟩, .int .i64 0] 30 (0, 0)) ∧ W0.heap[w.heap.size + 1]? = some (.cells #[.string ⟨#[]⟩, .int .i64 0] 30 (0, 0)) :=
  ⟨_, rfl, ((Below.refl _ _).alloc (Nat.le_refl _) _).alloc (by simp) _, by simp, heap_alloc2_old _ _ _, heap_alloc2_new _ _ _⟩
theorem row_of_box {w : World} {b : Nat} {k : ByteArray} {i : Int} (h : w.heap[b]? = some (.cells #[.string k, .int .i64 i] 30 (0, 0))) : w.cell? ⟨b, 0, none⟩ = some (.string k) ∧ w.cell? ⟨b, 1, none⟩ = some (.int .i64 i) ∧ (∀ j, w.frozen? ⟨b, j, none⟩ = false) ∧ b < w.heap.size := row2_of h
/-- what a box holds. -/
abbrev Bx (w : World) (X : Nat) (k : ByteArray) (i : Int) : Prop := w.heap[X]? = some (.cells #[.string k, .int .i64 i] 30 (0, 0))
theorem bx_other {w : World} {X Z : Nat} {k : ByteArray} {i : Int} {u v : Value} (h : Bx w X k i) (hne : X ≠ Z) : Bx ((w.setCell ⟨Z, 0, none⟩ u).setCell ⟨Z, 1, none⟩ v) X k i := by
  show (World.setCell _ _ _).heap[X]? = _
  rw [Go.Deep.blk_setCell_other _ _ _ _ (show X ≠ Z from hne), Go.Deep.blk_setCell_other _ _ _ _ (show X ≠ Z from hne)]
  exact h
theorem bx_below {w w' : World} {X : Nat} {k : ByteArray} {i : Int} (h : Bx w X k i) (hb : Below w.heap.size w w') : Bx w' X k i := (hb.block _ (lt_of_heap h)).trans h
set_option maxRecDepth 100000 in
set_option maxHeartbeats 8000000 in
theorem TreeSteps_walk (v0 : Value) (acts : List Ac) (e1 : Ac) (hok1 : e1.ok) (rk : ByteArray) (ri : Int) (own : Bool) (w : World) (ha : ActsAt w v0 acts) :
    Calls Try.prog 4 #[v0, .agg #[.int .u8 e1.kind, .int .u8 e1.key, .int .u8 e1.id], .agg #[.string rk, .int .i64 ri], .bool own] w fun e w' => e = .returned (.bool true) ∧ Below w.heap.size w w' := by
  obtain ⟨WA, hWA, hbA, hsA, p0, p1, p2⟩ := boxA_any w e1.kind e1.key e1.id
  obtain ⟨WB, hWB, hbB, hsB, j0, j1⟩ := box_any WA rk ri
  have p0' : WB.cell? ⟨w.heap.size, 0, none⟩ = some (.int .u8 e1.kind) := (hbB.cell (by show w.heap.size < _; omega)).trans p0
  have p1' : WB.cell? ⟨w.heap.size, 1, none⟩ = some (.int .u8 e1.key) := (hbB.cell (by show w.heap.size < _; omega)).trans p1
  have p2' : WB.cell? ⟨w.heap.size, 2, none⟩ = some (.int .u8 e1.id) := (hbB.cell (by show w.heap.size < _; omega)).trans p2
  rw [hsA] at j0 j1
  have hbw : Below w.heap.size w WB := hbA.trans (hbB.mono hbA.size)
  obtain ⟨a, cap, rfl, hc1, hc2⟩ := ha.slice
  have hat := (ha.below hbw).take 120
  obtain ⟨N, hN⟩ : ∃ N, min 120 acts.length = N := ⟨_, rfl⟩
  rw [hN] at hat
  have hNl : (acts.take 120).length = N := by rw [List.length_take, hN]
  obtain ⟨al, has⟩ : ∃ al, acts.take 120 = al := ⟨_, rfl⟩
  rw [has] at hat hNl
  have hm0 : 0 ≤ min (acts.length : Int) 120 := by omega
  have hm1 : min (acts.length : Int) 120 ≤ (cap : Int) := by omega
  have hmn : (min (acts.length : Int) 120).toNat = N := by omega
  have hN80 : N ≤ 120 := by omega
  have HH := (show Hid _ from And.intro hat (And.intro hNl (And.intro hbw (And.intro p0' (And.intro p1' (And.intro p2' (And.intro j0 j1)))))))
  have haw := awake_any WB
  have hsz : WB.heap.size = w.heap.size + 1 + 1 := by omega
  have HSZ : Hid (WB.heap.size = w.heap.size + 1 + 1) := hsz
  clear hat ha has hN hNl hbA hbB p0 p1 p2 hbw p0' p1' p2' j0 j1 hsB hsz
  go_enter Try.func4, Try.ntmps4
  go_wp2_with fail
  refine haw.mono ?_
  rintro e w1 ⟨rfl, hB1⟩
  clear haw
  go_wp2_with fail
  refine (New_any w1).mono ?_
  rintro e w2 ⟨T, rfl, ht2, hb2⟩
  have H2 : Hid (Both WB w2 T [] (.slice none 0 0) []) := Both.new hB1 ht2 hb2
  clear ht2 hb2 hB1
  go_wp2_with fail
  go_loopg [10, 12, 13, 36] N (fun gg lv _ _ i wr => ∃ (k : Nat) (l : List En), k ≤ N ∧ N - k ≤ gg ∧ i = .int .i64 k ∧ Aside (Both WB wr T l lv l ∧ l.length ≤ k))
  case atStart => exact ⟨0, [], Nat.zero_le _, by omega, rfl, H2.out, Nat.le_refl _⟩
  case round =>
    obtain ⟨k, l, hk, hgg, rfl, A⟩ := hrel
    obtain ⟨hT, hl⟩ := A.out
    clear A H2
    obtain ⟨la, lc, rfl⟩ := hT.slice
    obtain ⟨L, hL⟩ : ∃ L, l.length = L := ⟨_, rfl⟩
    rw [hL] at hT hl ⊢
    by_cases hlt : k < N
    · obtain ⟨hat, hNl, -⟩ := HH.out
      obtain ⟨⟨kd, ky, id⟩, he⟩ : ∃ e, al[k]? = some e := ⟨_, List.getElem?_eq_getElem (by omega)⟩
      obtain ⟨b, o, rfl, hok, c0, c1, c2⟩ := (hat.below hT.below).at he
      simp only at c0 c1 c2
      have zk : (k : Int) < (N : Int) := by omega
      obtain ⟨W4, hW4, hb4, hs4, m0, m1, m2⟩ := boxA_any wr kd ky id
      have hent := Ent_any ⟨kd, ky, id⟩ hok W4
      obtain ⟨ek, ei, hee⟩ : ∃ ek ei, Ac.ent ⟨kd, ky, id⟩ = (ek, ei) := ⟨_, _, rfl⟩
      rw [hee] at hent
      have HE := (show Hid _ from hent)
      have H4 : Hid (Both WB W4 T l (.slice la L lc) l ∧ l.length ≤ k) := ⟨hT.same hb4, by omega⟩
      have HK := (show Hid _ from And.intro hk hgg)
      clear hat hNl he hT hl hb4 hent hok hk hgg hee hL
      go_wp2_with fail
      refine Calls.mono HE.out ?_
      rintro e w5 ⟨rfl, hb5⟩
      have m0' := (hb5.cell (p := ⟨wr.heap.size, 0, none⟩) (by show wr.heap.size < _; omega)).trans m0
      obtain ⟨W6, hW6, hb6, hs6, n0, n1⟩ := box_any w5 ek ei
      have hlt5 : wr.heap.size < w5.heap.size := by have := hb5.size; omega
      have q0 := (hb6.cell (p := ⟨wr.heap.size, 0, none⟩) hlt5).trans m0'
      have H6 : Hid (Both WB W6 T l (.slice la L lc) l ∧ l.length ≤ k) := ⟨(H4.out.1.same hb5).same hb6, H4.out.2⟩
      clear hb5 hb6 H4 HE m0 m1 m2 m0' c0 c1 c2 hs4
      by_cases hkd2 : kd < 140
      · have hkd3 : decide (kd < 140) = true := decide_eq_true hkd2
        have hwith := H6.out.1.With (ek, ei) true (by have := H6.out.2; omega)
        have HW := (show Hid _ from hwith)
        clear hwith
        go_wp2_with fail
        refine Calls.mono HW.out ?_
        rintro e w7 ⟨v7, rfl, ht7, hb7⟩
        have n0' := (hb7.cell (p := ⟨w5.heap.size, 0, none⟩) (by show w5.heap.size < _; omega)).trans n0
        have n1' := (hb7.cell (p := ⟨w5.heap.size, 1, none⟩) (by show w5.heap.size < _; omega)).trans n1
        have q0' := (hb7.cell (p := ⟨wr.heap.size, 0, none⟩) (by show wr.heap.size < _; omega)).trans q0
        have hadd := ht7.add (ek, ei) (by have := H6.out.2; omega)
        have HA := (show Hid _ from hadd)
        clear hadd ht7 hb7 n0 n1 q0 HW
        go_wp2_with fail
        refine Calls.mono HA.out ?_
        rintro e w8 ⟨rfl, ht8⟩
        have H8 : Hid (Both WB w8 T (insE (ek, ei) l) v7 (insE (ek, ei) l) ∧ (insE (ek, ei) l).length ≤ k + 1) := ⟨ht8, by have := H6.out.2; have := len_with (ek, ei) false l; show (withL _ _ _).length ≤ _; omega⟩
        clear ht8 HA H6
        go_wp2
        go_roundg (N - (k + 1))
        case measure => (have := HK.out; clear hm0 hm1 hmn; omega)
        case rel =>
          obtain ⟨z1, z2⟩ := HK.out
          clear HH hm0 hm1 hmn
          exact ⟨k + 1, insE (ek, ei) l, by omega, by omega, by simp, H8.out⟩
      · have hkd3 : decide (kd < 140) = false := decide_eq_false hkd2
        have hwith := H6.out.1.With (ek, ei) false (by have := H6.out.2; omega)
        have HW := (show Hid _ from hwith)
        clear hwith
        go_wp2_with fail
        refine Calls.mono HW.out ?_
        rintro e w7 ⟨v7, rfl, ht7, hb7⟩
        have n0' := (hb7.cell (p := ⟨w5.heap.size, 0, none⟩) (by show w5.heap.size < _; omega)).trans n0
        have n1' := (hb7.cell (p := ⟨w5.heap.size, 1, none⟩) (by show w5.heap.size < _; omega)).trans n1
        have q0' := (hb7.cell (p := ⟨wr.heap.size, 0, none⟩) (by show wr.heap.size < _; omega)).trans q0
        have hadd := ht7.del (ek, ei) (by have := H6.out.2; omega)
        have HA := (show Hid _ from hadd)
        clear hadd ht7 hb7 n0 n1 q0 HW
        go_wp2_with fail
        refine Calls.mono HA.out ?_
        rintro e w8 ⟨rfl, ht8⟩
        have H8 : Hid (Both WB w8 T (delE (ek, ei) l) v7 (delE (ek, ei) l) ∧ (delE (ek, ei) l).length ≤ k + 1) := ⟨ht8, by have := H6.out.2; have := len_with (ek, ei) true l; show (withL _ _ _).length ≤ _; omega⟩
        clear ht8 HA H6
        go_wp2
        go_roundg (N - (k + 1))
        case measure => (have := HK.out; clear hm0 hm1 hmn; omega)
        case rel =>
          obtain ⟨z1, z2⟩ := HK.out
          clear HH hm0 hm1 hmn
          exact ⟨k + 1, delE (ek, ei) l, by omega, by omega, by simp, H8.out⟩
    · obtain rfl : N = k := by omega
      obtain ⟨-, -, hbw, p0, p1, p2, j0, j1⟩ := HH.out
      have hsz := HSZ.out
      have P0 := (hT.below.cell (p := ⟨w.heap.size, 0, none⟩) (by show w.heap.size < _; omega)).trans p0
      have P1 := (hT.below.cell (p := ⟨w.heap.size, 1, none⟩) (by show w.heap.size < _; omega)).trans p1
      have P2 := (hT.below.cell (p := ⟨w.heap.size, 2, none⟩) (by show w.heap.size < _; omega)).trans p2
      have J0 := (hT.below.cell (p := ⟨w.heap.size + 1, 0, none⟩) (by show w.heap.size + 1 < _; omega)).trans j0
      have J1 := (hT.below.cell (p := ⟨w.heap.size + 1, 1, none⟩) (by show w.heap.size + 1 < _; omega)).trans j1
      obtain ⟨WX, hWX, hbX, hsX, x0, x1⟩ := box_any wr rk ri
      have rX : WX.heap[wr.heap.size]? = some (.cells #[.string rk, .int .i64 ri] 30 (0, 0)) := by rw [← hWX]; exact heap_alloc_new _ _
      have zk : ¬ (N : Int) < (N : Int) := by omega
      have HT : Hid (Both WB wr T l (.slice la L lc) l ∧ l.length = L ∧ L ≤ N) := ⟨hT, hL, hl⟩
      have hlw : w.heap.size + 1 < wr.heap.size := by have := hT.below.size; omega
      clear hbw p0 p1 p2 j0 j1 hT hL hl hk hgg hlt hm0 hm1 hmn hsz
      obtain ⟨wo, rfl⟩ : ∃ wo, wo = wr := ⟨_, rfl⟩
      have hX0 : wo.heap.size < WX.heap.size := by omega
      cases own with
      | false =>
        have HS : Hid (Both WB WX T l (.slice la L lc) l ∧ l.length = L ∧ L ≤ N) := ⟨HT.out.1.same hbX, HT.out.2⟩
        have hYe : WX.heap.size = wo.heap.size + 1 := hsX
        clear hbX HT x0 x1
        obtain ⟨W9, hW9, hb9, hs9, rY, rZ⟩ := box2w WX
        rw [hYe] at rY rZ
        have H9 := (show Hid _ from And.intro hb9 (And.intro rY (And.intro rZ hW9)))
        clear hb9 rY rZ hs9 hW9
        go_wp2_with fail
        rw [H9.out.2.2.2]
        go_loopg [17, 18, 20, 69] L (fun gg s17 s18 _ i wq => ∃ (j : Nat) (oa ob : Option En), j ≤ L ∧ L - j ≤ gg ∧ i = .int .i64 j ∧ s17 = .bool oa.isSome ∧ s18 = .bool ob.isSome ∧ Aside (Below WX.heap.size WX wq ∧ oa = afterE (rk, ri) (l.take j) ∧ ob = beforeE (rk, ri) (l.take j) ∧ wq.heap[wo.heap.size + 1]? = some (.cells #[.string (orE oa).1, .int .i64 (orE oa).2] 30 (0, 0)) ∧ wq.heap[wo.heap.size + 1 + 1]? = some (.cells #[.string (orE ob).1, .int .i64 (orE ob).2] 30 (0, 0))))
        case atStart => exact ⟨0, none, none, Nat.zero_le _, by omega, rfl, rfl, rfl, H9.out.1, rfl, rfl, H9.out.2.1, H9.out.2.2.1⟩
        case round =>
          obtain ⟨j, oa, ob, hj, hgg, rfl, rfl, rfl, HR⟩ := hrel
          obtain ⟨hb, hoa, hob, rY, rZ⟩ := HR.out
          clear HR H9
          by_cases hjl : j < L
          · obtain ⟨hT, hL, hLN⟩ := HS.out
            obtain ⟨BR, hrow⟩ := hT.row
            obtain ⟨⟨yk, yi⟩, hy⟩ : ∃ y, l[j]? = some y := ⟨_, List.getElem?_eq_getElem (by omega)⟩
            have hrow' := own_keep (W' := wr) hrow fun a ha => hb.block a (own_lt hrow ha)
            obtain ⟨Q, c, hv, hc3, hc4, d0, d1, -⟩ := row_entry hrow' hy
            rw [hL] at hv hc3
            obtain ⟨rfl, rfl⟩ : la = some ⟨Q, 0, none⟩ ∧ lc = c := by
              simp only [Value.slice.injEq, true_and] at hv; exact hv
            dsimp only at d0 d1
            obtain ⟨W1, hW1, hb1, hs1, y0, y1⟩ := box_any wr yk yi
            have rX1 := (hb1.block _ (Nat.lt_of_lt_of_le hX0 hb.size)).trans ((hb.block _ hX0).trans rX)
            have rY1 := (hb1.block _ (lt_of_heap rY)).trans rY
            have rZ1 := (hb1.block _ (lt_of_heap rZ)).trans rZ
            have rV1 : Bx W1 wr.heap.size yk yi := by rw [← hW1]; exact heap_alloc_new _ _
            have hst := take_snoc hy
            have hB1 := Below_any (yk, yi) (rk, ri) W1
            have zj : (j : Int) < (L : Int) := by omega
            obtain ⟨⟨ak, ai⟩, hak⟩ : ∃ x, orE oa = x := ⟨_, rfl⟩
            obtain ⟨⟨bk, bi⟩, hbk⟩ : ∃ x, orE ob = x := ⟨_, rfl⟩
            rw [hak] at rY1
            rw [hbk] at rZ1
            obtain ⟨za, hza⟩ : ∃ z, oa.isSome = z := ⟨_, rfl⟩
            obtain ⟨zb, hzb⟩ : ∃ z, ob.isSome = z := ⟨_, rfl⟩
            rw [hza, hzb]
            have H1 : Hid (Below WX.heap.size WX W1) := hb.trans (hb1.mono hb.size)
            have HV : Hid (Bx W1 wo.heap.size rk ri ∧ Bx W1 (wo.heap.size + 1) ak ai ∧ Bx W1 (wo.heap.size + 1 + 1) bk bi ∧ Bx W1 wr.heap.size yk yi) := ⟨rX1, rY1, rZ1, rV1⟩
            have hne : wo.heap.size ≠ wo.heap.size + 1 ∧ wo.heap.size ≠ wo.heap.size + 1 + 1 ∧ wo.heap.size + 1 ≠ wo.heap.size + 1 + 1 ∧ wr.heap.size ≠ wo.heap.size + 1 ∧ wr.heap.size ≠ wo.heap.size + 1 + 1 := by
              have i1 := lt_of_heap rY
              have i2 := lt_of_heap rZ
              omega
            have hZW : WX.heap.size ≤ wo.heap.size + 1 + 1 ∧ WX.heap.size ≤ wo.heap.size + 1 := by omega
            obtain ⟨s0, s1, sf, slt⟩ := row2_of rX1
            have HE2 := (show Hid _ from And.intro hoa (And.intro hob (And.intro hst (And.intro hgg (And.intro hj (And.intro hak (And.intro hbk (And.intro hza (And.intro hzb (And.intro hL hne))))))))))
            clear hb hb1 hoa hob hst hgg hj hak hbk hza hzb hL hLN hT hrow hrow' hy hv rX1 rY1 rZ1 rV1 rY rZ
            by_cases h1 : cmpE (yk, yi) (rk, ri) < 0
            · rw [decide_eq_true h1] at hB1
              have HC := (show Hid _ from hB1)
              clear hB1
              go_wp2_with fail
              refine Calls.mono HC.out ?_
              rintro e w2 ⟨rfl, hb2⟩
              obtain ⟨vX, vY, vZ, vV⟩ := HV.out
              have rX2 := bx_below vX hb2
              have rY2 := bx_below vY hb2
              have rZ2 := bx_below vZ hb2
              have rV2 := bx_below vV hb2
              obtain ⟨w3, hw3⟩ : ∃ w3, (w2.setCell ⟨wo.heap.size + 1 + 1, 0, none⟩ (.string yk)).setCell ⟨wo.heap.size + 1 + 1, 1, none⟩ (.int .i64 yi) = w3 := ⟨_, rfl⟩
              have rX3 : Bx w3 wo.heap.size rk ri := by rw [← hw3]; exact bx_other rX2 hne.2.1
              have rY3 : Bx w3 (wo.heap.size + 1) ak ai := by rw [← hw3]; exact bx_other rY2 hne.2.2.1
              have rV3 : Bx w3 wr.heap.size yk yi := by rw [← hw3]; exact bx_other rV2 hne.2.2.2.2
              have rZ3 : Bx w3 (wo.heap.size + 1 + 1) yk yi := by rw [← hw3]; exact set2 rZ2
              have hb3 : Below WX.heap.size WX w3 := by rw [← hw3]; exact ((H1.out.trans (hb2.mono H1.out.size)).setCell hZW.1 _).setCell hZW.1 _
              obtain ⟨c0, c1', cf, clt⟩ := row2_of rZ2
              obtain ⟨k0, k1, kf, klt⟩ := row2_of rV2
              obtain ⟨g0, g1, gf, glt⟩ := row2_of rX3
              obtain ⟨n0, n1, nf, nlt⟩ := row2_of rV3
              have hB2 := Below_any (rk, ri) (yk, yi) w3
              rw [decide_eq_false (ltE_asymm h1)] at hB2
              have HC2 := (show Hid _ from hB2)
              have HV3 : Hid (Below WX.heap.size WX w3 ∧ Bx w3 (wo.heap.size + 1) ak ai ∧ Bx w3 (wo.heap.size + 1 + 1) yk yi) := ⟨hb3, rY3, rZ3⟩
              clear hB2 HC vX vY vZ vV rX2 rY2 rZ2 rV2 rX3 rY3 rV3 rZ3 hb2 hb3 HV s0 s1 sf slt d0 d1 y0 y1
              go_wp2_with fail
              refine Calls.mono HC2.out ?_
              rintro e w4 ⟨rfl, hb4⟩
              have HV4 : Hid (Below WX.heap.size WX w4 ∧ Bx w4 (wo.heap.size + 1) ak ai ∧ Bx w4 (wo.heap.size + 1 + 1) yk yi) := ⟨HV3.out.1.trans (hb4.mono HV3.out.1.size), bx_below HV3.out.2.1 hb4, bx_below HV3.out.2.2 hb4⟩
              clear HC2 HV3 hb4 c0 c1' cf clt k0 k1 kf klt g0 g1 gf glt n0 n1 nf nlt hw3
              go_wp2
              go_roundg (L - (j + 1))
              case measure => (obtain ⟨-, -, -, z1, z2, -⟩ := HE2.out; clear HE2; omega)
              case rel =>
                obtain ⟨x1, x2, x3, x4, x5, x6, x7, x8, x9, -⟩ := HE2.out
                refine ⟨j + 1, oa, some (yk, yi), by omega, by omega, by simp, by rw [x8], rfl, HV4.out.1, ?_, ?_, by rw [x6]; exact HV4.out.2.1, HV4.out.2.2⟩
                · rw [x3, x1, after_keep (.inl (ltE_asymm h1))]
                · rw [x3, before_snoc, if_pos h1]
            · rw [decide_eq_false h1] at hB1
              have HC := (show Hid _ from hB1)
              clear hB1
              go_wp2_with fail
              refine Calls.mono HC.out ?_
              rintro e w2 ⟨rfl, hb2⟩
              obtain ⟨vX, vY, vZ, vV⟩ := HV.out
              have rX2 := bx_below vX hb2
              have rY2 := bx_below vY hb2
              have rZ2 := bx_below vZ hb2
              have rV2 := bx_below vV hb2
              have hb22 : Below WX.heap.size WX w2 := H1.out.trans (hb2.mono H1.out.size)
              obtain ⟨g0, g1, gf, glt⟩ := row2_of rX2
              obtain ⟨n0, n1, nf, nlt⟩ := row2_of rV2
              have hB2 := Below_any (rk, ri) (yk, yi) w2
              have HV2 : Hid (Below WX.heap.size WX w2 ∧ Bx w2 (wo.heap.size + 1) ak ai ∧ Bx w2 (wo.heap.size + 1 + 1) bk bi ∧ Bx w2 wr.heap.size yk yi) := ⟨hb22, rY2, rZ2, rV2⟩
              clear HC vX vY vZ vV rX2 rY2 rZ2 rV2 hb2 hb22 HV s0 s1 sf slt d0 d1 y0 y1
              by_cases h2 : cmpE (rk, ri) (yk, yi) < 0
              · rw [decide_eq_true h2] at hB2
                have HC2 := (show Hid _ from hB2)
                clear hB2
                cases za with
                | false =>
                  go_wp2_with fail
                  refine Calls.mono HC2.out ?_
                  rintro e w3 ⟨rfl, hb3⟩
                  have rY3 := bx_below HV2.out.2.1 hb3
                  have rZ3 := bx_below HV2.out.2.2.1 hb3
                  have rV3 := bx_below HV2.out.2.2.2 hb3
                  obtain ⟨w4, hw4⟩ : ∃ w4, (w3.setCell ⟨wo.heap.size + 1, 0, none⟩ (.string yk)).setCell ⟨wo.heap.size + 1, 1, none⟩ (.int .i64 yi) = w4 := ⟨_, rfl⟩
                  have rY4 : Bx w4 (wo.heap.size + 1) yk yi := by rw [← hw4]; exact set2 rY3
                  have rZ4 : Bx w4 (wo.heap.size + 1 + 1) bk bi := by rw [← hw4]; exact bx_other rZ3 (fun h => hne.2.2.1 h.symm)
                  have hb4 : Below WX.heap.size WX w4 := by rw [← hw4]; exact ((HV2.out.1.trans (hb3.mono HV2.out.1.size)).setCell hZW.2 _).setCell hZW.2 _
                  have HV4 : Hid (Below WX.heap.size WX w4 ∧ Bx w4 (wo.heap.size + 1) yk yi ∧ Bx w4 (wo.heap.size + 1 + 1) bk bi) := ⟨hb4, rY4, rZ4⟩
                  obtain ⟨c0, c1', cf, clt⟩ := row2_of rY3
                  obtain ⟨k0, k1, kf, klt⟩ := row2_of rV3
                  clear HC2 HV2 hb3 hb4 rY3 rZ3 rV3 rY4 rZ4 g0 g1 gf glt n0 n1 nf nlt
                  go_wp2
                  go_roundg (L - (j + 1))
                  case measure => (obtain ⟨-, -, -, z1, z2, -⟩ := HE2.out; clear HE2; omega)
                  case rel =>
                    obtain ⟨x1, x2, x3, x4, x5, x6, x7, x8, x9, -⟩ := HE2.out
                    refine ⟨j + 1, some (yk, yi), ob, by omega, by omega, by simp, rfl, by rw [x9], HV4.out.1, ?_, ?_, HV4.out.2.1, by rw [x7]; exact HV4.out.2.2⟩
                    · rw [x3, after_new (by rw [← x1]; exact x8) h2]
                    · rw [x3, before_snoc, if_neg (by omega), ← x2]
                | true =>
                  go_wp2_with fail
                  refine Calls.mono HC2.out ?_
                  rintro e w3 ⟨rfl, hb3⟩
                  have HV4 : Hid (Below WX.heap.size WX w3 ∧ Bx w3 (wo.heap.size + 1) ak ai ∧ Bx w3 (wo.heap.size + 1 + 1) bk bi) := ⟨HV2.out.1.trans (hb3.mono HV2.out.1.size), bx_below HV2.out.2.1 hb3, bx_below HV2.out.2.2.1 hb3⟩
                  clear HC2 HV2 hb3 g0 g1 gf glt n0 n1 nf nlt
                  go_wp2
                  go_roundg (L - (j + 1))
                  case measure => (obtain ⟨-, -, -, z1, z2, -⟩ := HE2.out; clear HE2; omega)
                  case rel =>
                    obtain ⟨x1, x2, x3, x4, x5, x6, x7, x8, x9, -⟩ := HE2.out
                    refine ⟨j + 1, oa, ob, by omega, by omega, by simp, by rw [x8], by rw [x9], HV4.out.1, ?_, ?_, by rw [x6]; exact HV4.out.2.1, by rw [x7]; exact HV4.out.2.2⟩
                    · rw [x3, after_keep (.inr (by rw [← x1]; exact x8)), ← x1]
                    · rw [x3, before_snoc, if_neg (by omega), ← x2]
              · rw [decide_eq_false h2] at hB2
                have HC2 := (show Hid _ from hB2)
                clear hB2
                go_wp2_with fail
                refine Calls.mono HC2.out ?_
                rintro e w3 ⟨rfl, hb3⟩
                have HV4 : Hid (Below WX.heap.size WX w3 ∧ Bx w3 (wo.heap.size + 1) ak ai ∧ Bx w3 (wo.heap.size + 1 + 1) bk bi) := ⟨HV2.out.1.trans (hb3.mono HV2.out.1.size), bx_below HV2.out.2.1 hb3, bx_below HV2.out.2.2.1 hb3⟩
                clear HC2 HV2 hb3 g0 g1 gf glt n0 n1 nf nlt
                go_wp2
                go_roundg (L - (j + 1))
                case measure => (obtain ⟨-, -, -, z1, z2, -⟩ := HE2.out; clear HE2; omega)
                case rel =>
                  obtain ⟨x1, x2, x3, x4, x5, x6, x7, x8, x9, -⟩ := HE2.out
                  refine ⟨j + 1, oa, ob, by omega, by omega, by simp, by rw [x8], by rw [x9], HV4.out.1, ?_, ?_, by rw [x6]; exact HV4.out.2.1, by rw [x7]; exact HV4.out.2.2⟩
                  · rw [x3, after_keep (.inl (by omega)), ← x1]
                  · rw [x3, before_snoc, if_neg (by omega), ← x2]
          · obtain rfl : L = j := by omega
            obtain ⟨hT, hL, hLN⟩ := HS.out
            rw [List.take_of_length_le (Nat.le_of_eq hL)] at hoa hob
            obtain ⟨F, hF⟩ := hT.tree
            have hA := AfterT_any (rk, ri) wr (hF.below hb)
            have hP := fun (W : World) (h : Below WX.heap.size WX W) => BeforeT_any (rk, ri) W (hF.below h)
            rw [retO_or, ← hoa] at hA
            simp only [retO_or, ← hob] at hP
            obtain ⟨⟨ak, ai⟩, hak⟩ : ∃ x, orE oa = x := ⟨_, rfl⟩
            obtain ⟨⟨bk, bi⟩, hbk⟩ : ∃ x, orE ob = x := ⟨_, rfl⟩
            obtain ⟨za, hza⟩ : ∃ z, oa.isSome = z := ⟨_, rfl⟩
            obtain ⟨zb, hzb⟩ : ∃ z, ob.isSome = z := ⟨_, rfl⟩
            rw [hak] at rY hA
            rw [hbk] at rZ
            simp only [hbk, hzb] at hP
            rw [hza] at hA ⊢
            rw [hzb]
            have rX' := (hb.block _ hX0).trans rX
            have HA := (show Hid _ from hA)
            have HP := (show Hid _ from hP)
            have HV : Hid (Below WX.heap.size WX wr ∧ Bx wr wo.heap.size rk ri ∧ Bx wr (wo.heap.size + 1) ak ai ∧ Bx wr (wo.heap.size + 1 + 1) bk bi) := ⟨hb, rX', rY, rZ⟩
            have HW : Hid (Below w.heap.size w WX) := HH.out.2.2.1.trans (hT.below.mono HH.out.2.2.1.size)
            obtain ⟨s0, s1, sf, slt⟩ := row2_of rX'
            have zj : ¬ (L : Int) < (L : Int) := by omega
            clear hT hL hLN hoa hob hF hA hP hak hbk hza hzb rX' rY rZ hb hj hgg hjl
            go_wp2_with fail
            refine Calls.mono HA.out ?_
            rintro e w4 ⟨rfl, hb4⟩
            obtain ⟨W5, hW5, hb5, hs5, m0, m1⟩ := box_any w4 ak ai
            have rM : Bx W5 w4.heap.size ak ai := by rw [← hW5]; exact heap_alloc_new _ _
            have hb45 : Below wr.heap.size wr W5 := hb4.trans (hb5.mono hb4.size)
            have HV5 : Hid (Below WX.heap.size WX W5 ∧ Bx W5 (wo.heap.size + 1) ak ai ∧ Bx W5 (wo.heap.size + 1 + 1) bk bi ∧ Bx W5 w4.heap.size ak ai) := ⟨HV.out.1.trans (hb45.mono HV.out.1.size), bx_below HV.out.2.2.1 hb45, bx_below HV.out.2.2.2 hb45, rM⟩
            obtain ⟨g0, g1, gf, glt⟩ := row2_of (bx_below HV.out.2.1 hb45)
            clear HA hb4 hb5 m0 m1 rM hb45 HV s0 s1 sf slt
            go_wp2_with fail
            refine Calls.mono (HP.out _ HV5.out.1) ?_
            rintro e w6 ⟨rfl, hb6⟩
            obtain ⟨W7, hW7, hb7, hs7, m0, m1⟩ := box_any w6 bk bi
            have hb67 : Below W5.heap.size W5 W7 := hb6.trans (hb7.mono hb6.size)
            obtain ⟨a0, a1, af, alt⟩ := row2_of (bx_below HV5.out.2.1 hb67)
            obtain ⟨b0, b1, bf, blt⟩ := row2_of (bx_below HV5.out.2.2.1 hb67)
            obtain ⟨c0, c1', cf, clt⟩ := row2_of (bx_below HV5.out.2.2.2 hb67)
            have H7 : Hid (Below w.heap.size w W7) := HW.out.trans ((HV5.out.1.trans (hb67.mono HV5.out.1.size)).mono HW.out.size)
            clear HP HV5 hb6 hb7 hb67 g0 g1 gf glt HW
            go_wp2
            go_ret
            exact ⟨rfl, H7.out⟩
      | true =>
        have HS0 : Hid (Both WB WX T l (.slice la L lc) l ∧ l.length = L ∧ L ≤ N) := ⟨HT.out.1.same hbX, HT.out.2⟩
        have q0 := (hbX.cell (p := ⟨w.heap.size, 0, none⟩) (by show w.heap.size < _; omega)).trans P0
        have q1 := (hbX.cell (p := ⟨w.heap.size, 1, none⟩) (by show w.heap.size < _; omega)).trans P1
        have q2 := (hbX.cell (p := ⟨w.heap.size, 2, none⟩) (by show w.heap.size < _; omega)).trans P2
        have hent := Ent_any e1 hok1 WX
        obtain ⟨⟨xk, xi⟩, hee⟩ : ∃ x, e1.ent = x := ⟨_, rfl⟩
        rw [hee] at hent
        have HE := (show Hid _ from hent)
        have HT2 : Hid (Both WB wo T l (.slice la L lc) l ∧ l.length = L ∧ L ≤ N) := HT
        clear hbX HT x0 x1 hent hee HS0
        go_wp2_with fail
        refine Calls.mono HE.out ?_
        rintro e w5 ⟨rfl, hb5⟩
        have r5 := (hb5.block _ hX0).trans rX
        obtain ⟨x0, x1, xf, xlt⟩ := row2_of r5
        obtain ⟨wS, hwS⟩ : ∃ wS, (w5.setCell ⟨wo.heap.size, 0, none⟩ (.string xk)).setCell ⟨wo.heap.size, 1, none⟩ (.int .i64 xi) = wS := ⟨_, rfl⟩
        have hbS : Below wo.heap.size wo wS := by
          rw [← hwS]
          exact (((show Below wo.heap.size wo WX by rw [← hWX]; exact (Below.refl _ _).alloc (Nat.le_refl _) _).trans (hb5.mono (Nat.le_of_lt hX0))).setCell (Nat.le_refl _) _).setCell (Nat.le_refl _) _
        have rXS : Bx wS wo.heap.size xk xi := by rw [← hwS]; exact set2 r5
        have hXS : wo.heap.size < wS.heap.size := lt_of_heap rXS
        have HS : Hid (Both WB wS T l (.slice la L lc) l ∧ l.length = L ∧ L ≤ N) := ⟨HT2.out.1.same hbS, HT2.out.2⟩
        clear hbS hb5 HT2 HE r5 rX P0 P1 P2 J0 J1 q0 q1 q2 hsX
        obtain ⟨W9, hW9, hb9, hs9, rY, rZ⟩ := box2w wS
        have H9 := (show Hid _ from And.intro hb9 (And.intro rY (And.intro rZ hW9)))
        clear hb9 rY rZ hs9 hW9
        go_wp2_with fail
        rw [H9.out.2.2.2]
        go_loopg [17, 18, 20, 69] L (fun gg s17 s18 _ i wq => ∃ (j : Nat) (oa ob : Option En), j ≤ L ∧ L - j ≤ gg ∧ i = .int .i64 j ∧ s17 = .bool oa.isSome ∧ s18 = .bool ob.isSome ∧ Aside (Below wS.heap.size wS wq ∧ oa = afterE (xk, xi) (l.take j) ∧ ob = beforeE (xk, xi) (l.take j) ∧ wq.heap[wS.heap.size]? = some (.cells #[.string (orE oa).1, .int .i64 (orE oa).2] 30 (0, 0)) ∧ wq.heap[wS.heap.size + 1]? = some (.cells #[.string (orE ob).1, .int .i64 (orE ob).2] 30 (0, 0))))
        case atStart => exact ⟨0, none, none, Nat.zero_le _, by omega, rfl, rfl, rfl, H9.out.1, rfl, rfl, H9.out.2.1, H9.out.2.2.1⟩
        case round =>
          obtain ⟨j, oa, ob, hj, hgg, rfl, rfl, rfl, HR⟩ := hrel
          obtain ⟨hb, hoa, hob, rY, rZ⟩ := HR.out
          clear HR H9
          by_cases hjl : j < L
          · obtain ⟨hT, hL, hLN⟩ := HS.out
            obtain ⟨BR, hrow⟩ := hT.row
            obtain ⟨⟨yk, yi⟩, hy⟩ : ∃ y, l[j]? = some y := ⟨_, List.getElem?_eq_getElem (by omega)⟩
            have hrow' := own_keep (W' := wr) hrow fun a ha => hb.block a (own_lt hrow ha)
            obtain ⟨Q, c, hv, hc3, hc4, d0, d1, -⟩ := row_entry hrow' hy
            rw [hL] at hv hc3
            obtain ⟨rfl, rfl⟩ : la = some ⟨Q, 0, none⟩ ∧ lc = c := by
              simp only [Value.slice.injEq, true_and] at hv; exact hv
            dsimp only at d0 d1
            obtain ⟨W1, hW1, hb1, hs1, y0, y1⟩ := box_any wr yk yi
            have rX1 := (hb1.block _ (Nat.lt_of_lt_of_le hXS hb.size)).trans ((hb.block _ hXS).trans rXS)
            have rY1 := (hb1.block _ (lt_of_heap rY)).trans rY
            have rZ1 := (hb1.block _ (lt_of_heap rZ)).trans rZ
            have rV1 : Bx W1 wr.heap.size yk yi := by rw [← hW1]; exact heap_alloc_new _ _
            have hst := take_snoc hy
            have hB1 := Below_any (yk, yi) (xk, xi) W1
            have zj : (j : Int) < (L : Int) := by omega
            obtain ⟨⟨ak, ai⟩, hak⟩ : ∃ x, orE oa = x := ⟨_, rfl⟩
            obtain ⟨⟨bk, bi⟩, hbk⟩ : ∃ x, orE ob = x := ⟨_, rfl⟩
            rw [hak] at rY1
            rw [hbk] at rZ1
            obtain ⟨za, hza⟩ : ∃ z, oa.isSome = z := ⟨_, rfl⟩
            obtain ⟨zb, hzb⟩ : ∃ z, ob.isSome = z := ⟨_, rfl⟩
            rw [hza, hzb]
            have H1 : Hid (Below wS.heap.size wS W1) := hb.trans (hb1.mono hb.size)
            have HV : Hid (Bx W1 wo.heap.size xk xi ∧ Bx W1 (wS.heap.size) ak ai ∧ Bx W1 (wS.heap.size + 1) bk bi ∧ Bx W1 wr.heap.size yk yi) := ⟨rX1, rY1, rZ1, rV1⟩
            have hne : wo.heap.size ≠ wS.heap.size ∧ wo.heap.size ≠ wS.heap.size + 1 ∧ wS.heap.size ≠ wS.heap.size + 1 ∧ wr.heap.size ≠ wS.heap.size ∧ wr.heap.size ≠ wS.heap.size + 1 := by
              have i1 := lt_of_heap rY
              have i2 := lt_of_heap rZ
              omega
            have hZW : wS.heap.size ≤ wS.heap.size + 1 ∧ wS.heap.size ≤ wS.heap.size := by omega
            obtain ⟨s0, s1, sf, slt⟩ := row2_of rX1
            have HE2 := (show Hid _ from And.intro hoa (And.intro hob (And.intro hst (And.intro hgg (And.intro hj (And.intro hak (And.intro hbk (And.intro hza (And.intro hzb (And.intro hL hne))))))))))
            clear hb hb1 hoa hob hst hgg hj hak hbk hza hzb hL hLN hT hrow hrow' hy hv rX1 rY1 rZ1 rV1 rY rZ
            by_cases h1 : cmpE (yk, yi) (xk, xi) < 0
            · rw [decide_eq_true h1] at hB1
              have HC := (show Hid _ from hB1)
              clear hB1
              go_wp2_with fail
              refine Calls.mono HC.out ?_
              rintro e w2 ⟨rfl, hb2⟩
              obtain ⟨vX, vY, vZ, vV⟩ := HV.out
              have rX2 := bx_below vX hb2
              have rY2 := bx_below vY hb2
              have rZ2 := bx_below vZ hb2
              have rV2 := bx_below vV hb2
              obtain ⟨w3, hw3⟩ : ∃ w3, (w2.setCell ⟨wS.heap.size + 1, 0, none⟩ (.string yk)).setCell ⟨wS.heap.size + 1, 1, none⟩ (.int .i64 yi) = w3 := ⟨_, rfl⟩
              have rX3 : Bx w3 wo.heap.size xk xi := by rw [← hw3]; exact bx_other rX2 hne.2.1
              have rY3 : Bx w3 (wS.heap.size) ak ai := by rw [← hw3]; exact bx_other rY2 hne.2.2.1
              have rV3 : Bx w3 wr.heap.size yk yi := by rw [← hw3]; exact bx_other rV2 hne.2.2.2.2
              have rZ3 : Bx w3 (wS.heap.size + 1) yk yi := by rw [← hw3]; exact set2 rZ2
              have hb3 : Below wS.heap.size wS w3 := by rw [← hw3]; exact ((H1.out.trans (hb2.mono H1.out.size)).setCell hZW.1 _).setCell hZW.1 _
              obtain ⟨c0, c1', cf, clt⟩ := row2_of rZ2
              obtain ⟨k0, k1, kf, klt⟩ := row2_of rV2
              obtain ⟨g0, g1, gf, glt⟩ := row2_of rX3
              obtain ⟨n0, n1, nf, nlt⟩ := row2_of rV3
              have hB2 := Below_any (xk, xi) (yk, yi) w3
              rw [decide_eq_false (ltE_asymm h1)] at hB2
              have HC2 := (show Hid _ from hB2)
              have HV3 : Hid (Below wS.heap.size wS w3 ∧ Bx w3 (wS.heap.size) ak ai ∧ Bx w3 (wS.heap.size + 1) yk yi) := ⟨hb3, rY3, rZ3⟩
              clear hB2 HC vX vY vZ vV rX2 rY2 rZ2 rV2 rX3 rY3 rV3 rZ3 hb2 hb3 HV s0 s1 sf slt d0 d1 y0 y1
              go_wp2_with fail
              refine Calls.mono HC2.out ?_
              rintro e w4 ⟨rfl, hb4⟩
              have HV4 : Hid (Below wS.heap.size wS w4 ∧ Bx w4 (wS.heap.size) ak ai ∧ Bx w4 (wS.heap.size + 1) yk yi) := ⟨HV3.out.1.trans (hb4.mono HV3.out.1.size), bx_below HV3.out.2.1 hb4, bx_below HV3.out.2.2 hb4⟩
              clear HC2 HV3 hb4 c0 c1' cf clt k0 k1 kf klt g0 g1 gf glt n0 n1 nf nlt hw3
              go_wp2
              go_roundg (L - (j + 1))
              case measure => (obtain ⟨-, -, -, z1, z2, -⟩ := HE2.out; clear HE2; omega)
              case rel =>
                obtain ⟨x1, x2, x3, x4, x5, x6, x7, x8, x9, -⟩ := HE2.out
                refine ⟨j + 1, oa, some (yk, yi), by omega, by omega, by simp, by rw [x8], rfl, HV4.out.1, ?_, ?_, by rw [x6]; exact HV4.out.2.1, HV4.out.2.2⟩
                · rw [x3, x1, after_keep (.inl (ltE_asymm h1))]
                · rw [x3, before_snoc, if_pos h1]
            · rw [decide_eq_false h1] at hB1
              have HC := (show Hid _ from hB1)
              clear hB1
              go_wp2_with fail
              refine Calls.mono HC.out ?_
              rintro e w2 ⟨rfl, hb2⟩
              obtain ⟨vX, vY, vZ, vV⟩ := HV.out
              have rX2 := bx_below vX hb2
              have rY2 := bx_below vY hb2
              have rZ2 := bx_below vZ hb2
              have rV2 := bx_below vV hb2
              have hb22 : Below wS.heap.size wS w2 := H1.out.trans (hb2.mono H1.out.size)
              obtain ⟨g0, g1, gf, glt⟩ := row2_of rX2
              obtain ⟨n0, n1, nf, nlt⟩ := row2_of rV2
              have hB2 := Below_any (xk, xi) (yk, yi) w2
              have HV2 : Hid (Below wS.heap.size wS w2 ∧ Bx w2 (wS.heap.size) ak ai ∧ Bx w2 (wS.heap.size + 1) bk bi ∧ Bx w2 wr.heap.size yk yi) := ⟨hb22, rY2, rZ2, rV2⟩
              clear HC vX vY vZ vV rX2 rY2 rZ2 rV2 hb2 hb22 HV s0 s1 sf slt d0 d1 y0 y1
              by_cases h2 : cmpE (xk, xi) (yk, yi) < 0
              · rw [decide_eq_true h2] at hB2
                have HC2 := (show Hid _ from hB2)
                clear hB2
                cases za with
                | false =>
                  go_wp2_with fail
                  refine Calls.mono HC2.out ?_
                  rintro e w3 ⟨rfl, hb3⟩
                  have rY3 := bx_below HV2.out.2.1 hb3
                  have rZ3 := bx_below HV2.out.2.2.1 hb3
                  have rV3 := bx_below HV2.out.2.2.2 hb3
                  obtain ⟨w4, hw4⟩ : ∃ w4, (w3.setCell ⟨wS.heap.size, 0, none⟩ (.string yk)).setCell ⟨wS.heap.size, 1, none⟩ (.int .i64 yi) = w4 := ⟨_, rfl⟩
                  have rY4 : Bx w4 (wS.heap.size) yk yi := by rw [← hw4]; exact set2 rY3
                  have rZ4 : Bx w4 (wS.heap.size + 1) bk bi := by rw [← hw4]; exact bx_other rZ3 (fun h => hne.2.2.1 h.symm)
                  have hb4 : Below wS.heap.size wS w4 := by rw [← hw4]; exact ((HV2.out.1.trans (hb3.mono HV2.out.1.size)).setCell hZW.2 _).setCell hZW.2 _
                  have HV4 : Hid (Below wS.heap.size wS w4 ∧ Bx w4 (wS.heap.size) yk yi ∧ Bx w4 (wS.heap.size + 1) bk bi) := ⟨hb4, rY4, rZ4⟩
                  obtain ⟨c0, c1', cf, clt⟩ := row2_of rY3
                  obtain ⟨k0, k1, kf, klt⟩ := row2_of rV3
                  clear HC2 HV2 hb3 hb4 rY3 rZ3 rV3 rY4 rZ4 g0 g1 gf glt n0 n1 nf nlt
                  go_wp2
                  go_roundg (L - (j + 1))
                  case measure => (obtain ⟨-, -, -, z1, z2, -⟩ := HE2.out; clear HE2; omega)
                  case rel =>
                    obtain ⟨x1, x2, x3, x4, x5, x6, x7, x8, x9, -⟩ := HE2.out
                    refine ⟨j + 1, some (yk, yi), ob, by omega, by omega, by simp, rfl, by rw [x9], HV4.out.1, ?_, ?_, HV4.out.2.1, by rw [x7]; exact HV4.out.2.2⟩
                    · rw [x3, after_new (by rw [← x1]; exact x8) h2]
                    · rw [x3, before_snoc, if_neg (by omega), ← x2]
                | true =>
                  go_wp2_with fail
                  refine Calls.mono HC2.out ?_
                  rintro e w3 ⟨rfl, hb3⟩
                  have HV4 : Hid (Below wS.heap.size wS w3 ∧ Bx w3 (wS.heap.size) ak ai ∧ Bx w3 (wS.heap.size + 1) bk bi) := ⟨HV2.out.1.trans (hb3.mono HV2.out.1.size), bx_below HV2.out.2.1 hb3, bx_below HV2.out.2.2.1 hb3⟩
                  clear HC2 HV2 hb3 g0 g1 gf glt n0 n1 nf nlt
                  go_wp2
                  go_roundg (L - (j + 1))
                  case measure => (obtain ⟨-, -, -, z1, z2, -⟩ := HE2.out; clear HE2; omega)
                  case rel =>
                    obtain ⟨x1, x2, x3, x4, x5, x6, x7, x8, x9, -⟩ := HE2.out
                    refine ⟨j + 1, oa, ob, by omega, by omega, by simp, by rw [x8], by rw [x9], HV4.out.1, ?_, ?_, by rw [x6]; exact HV4.out.2.1, by rw [x7]; exact HV4.out.2.2⟩
                    · rw [x3, after_keep (.inr (by rw [← x1]; exact x8)), ← x1]
                    · rw [x3, before_snoc, if_neg (by omega), ← x2]
              · rw [decide_eq_false h2] at hB2
                have HC2 := (show Hid _ from hB2)
                clear hB2
                go_wp2_with fail
                refine Calls.mono HC2.out ?_
                rintro e w3 ⟨rfl, hb3⟩
                have HV4 : Hid (Below wS.heap.size wS w3 ∧ Bx w3 (wS.heap.size) ak ai ∧ Bx w3 (wS.heap.size + 1) bk bi) := ⟨HV2.out.1.trans (hb3.mono HV2.out.1.size), bx_below HV2.out.2.1 hb3, bx_below HV2.out.2.2.1 hb3⟩
                clear HC2 HV2 hb3 g0 g1 gf glt n0 n1 nf nlt
                go_wp2
                go_roundg (L - (j + 1))
                case measure => (obtain ⟨-, -, -, z1, z2, -⟩ := HE2.out; clear HE2; omega)
                case rel =>
                  obtain ⟨x1, x2, x3, x4, x5, x6, x7, x8, x9, -⟩ := HE2.out
                  refine ⟨j + 1, oa, ob, by omega, by omega, by simp, by rw [x8], by rw [x9], HV4.out.1, ?_, ?_, by rw [x6]; exact HV4.out.2.1, by rw [x7]; exact HV4.out.2.2⟩
                  · rw [x3, after_keep (.inl (by omega)), ← x1]
                  · rw [x3, before_snoc, if_neg (by omega), ← x2]
          · obtain rfl : L = j := by omega
            obtain ⟨hT, hL, hLN⟩ := HS.out
            rw [List.take_of_length_le (Nat.le_of_eq hL)] at hoa hob
            obtain ⟨F, hF⟩ := hT.tree
            have hA := AfterT_any (xk, xi) wr (hF.below hb)
            have hP := fun (W : World) (h : Below wS.heap.size wS W) => BeforeT_any (xk, xi) W (hF.below h)
            rw [retO_or, ← hoa] at hA
            simp only [retO_or, ← hob] at hP
            obtain ⟨⟨ak, ai⟩, hak⟩ : ∃ x, orE oa = x := ⟨_, rfl⟩
            obtain ⟨⟨bk, bi⟩, hbk⟩ : ∃ x, orE ob = x := ⟨_, rfl⟩
            obtain ⟨za, hza⟩ : ∃ z, oa.isSome = z := ⟨_, rfl⟩
            obtain ⟨zb, hzb⟩ : ∃ z, ob.isSome = z := ⟨_, rfl⟩
            rw [hak] at rY hA
            rw [hbk] at rZ
            simp only [hbk, hzb] at hP
            rw [hza] at hA ⊢
            rw [hzb]
            have rX' := (hb.block _ hXS).trans rXS
            have HA := (show Hid _ from hA)
            have HP := (show Hid _ from hP)
            have HV : Hid (Below wS.heap.size wS wr ∧ Bx wr wo.heap.size xk xi ∧ Bx wr (wS.heap.size) ak ai ∧ Bx wr (wS.heap.size + 1) bk bi) := ⟨hb, rX', rY, rZ⟩
            have HW : Hid (Below w.heap.size w wS) := HH.out.2.2.1.trans (hT.below.mono HH.out.2.2.1.size)
            obtain ⟨s0, s1, sf, slt⟩ := row2_of rX'
            have zj : ¬ (L : Int) < (L : Int) := by omega
            clear hT hL hLN hoa hob hF hA hP hak hbk hza hzb rX' rY rZ hb hj hgg hjl
            go_wp2_with fail
            refine Calls.mono HA.out ?_
            rintro e w4 ⟨rfl, hb4⟩
            obtain ⟨W5, hW5, hb5, hs5, m0, m1⟩ := box_any w4 ak ai
            have rM : Bx W5 w4.heap.size ak ai := by rw [← hW5]; exact heap_alloc_new _ _
            have hb45 : Below wr.heap.size wr W5 := hb4.trans (hb5.mono hb4.size)
            have HV5 : Hid (Below wS.heap.size wS W5 ∧ Bx W5 (wS.heap.size) ak ai ∧ Bx W5 (wS.heap.size + 1) bk bi ∧ Bx W5 w4.heap.size ak ai) := ⟨HV.out.1.trans (hb45.mono HV.out.1.size), bx_below HV.out.2.2.1 hb45, bx_below HV.out.2.2.2 hb45, rM⟩
            obtain ⟨g0, g1, gf, glt⟩ := row2_of (bx_below HV.out.2.1 hb45)
            clear HA hb4 hb5 m0 m1 rM hb45 HV s0 s1 sf slt
            go_wp2_with fail
            refine Calls.mono (HP.out _ HV5.out.1) ?_
            rintro e w6 ⟨rfl, hb6⟩
            obtain ⟨W7, hW7, hb7, hs7, m0, m1⟩ := box_any w6 bk bi
            have hb67 : Below W5.heap.size W5 W7 := hb6.trans (hb7.mono hb6.size)
            obtain ⟨a0, a1, af, alt⟩ := row2_of (bx_below HV5.out.2.1 hb67)
            obtain ⟨b0, b1, bf, blt⟩ := row2_of (bx_below HV5.out.2.2.1 hb67)
            obtain ⟨c0, c1', cf, clt⟩ := row2_of (bx_below HV5.out.2.2.2 hb67)
            have H7 : Hid (Below w.heap.size w W7) := HW.out.trans ((HV5.out.1.trans (hb67.mono HV5.out.1.size)).mono HW.out.size)
            clear HP HV5 hb6 hb7 hb67 g0 g1 gf glt HW
            go_wp2
            go_ret
            exact ⟨rfl, H7.out⟩
end Go.Proofs.Ytgnhillnikjnfaa
