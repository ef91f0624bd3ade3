/-
  KeyGets' walk: whatever bytes are a key are that of what is read. Conditions: as stated.
-/
import Derived.Test.YtehjdamdlokoaaaDoorKVn
import Derived.Test.YtehjdamdlokoaaaDoorKG
import Derived.Test.YtehjdamdlokoaaaDoorKBd
import Derived.Test.YtehjdamdlokoaaaDoorKP
import Derived.Test.YtehjdamdlokoaaaDoorKAw
import Derived.Test.YtehjdamdlokoaaaDoorKRow
import Derived.Test.YtehjdamdlokoaaaDoorDMade5
import Derived.Deep.RegionHeld3
namespace Go.Proofs.YtehjdamdlokoaaaDoor
open Go.RowKit

/-- what Get answers, whatever it is given. -/
theorem get_cases (T : ByteArray) (hT : T.size ≤ 1000000) (w : World) (hU : U8 w) : ∃ res : Option V, Calls Tryd.prog 15 #[.string T] w (GetA w res) ∧ (∀ x, res = some x → VOk 16 x ∧ valueK 16 T.data.toList = some (x, [])) ∧ (res = none → ¬ ∃ x, valueK 16 T.data.toList = some (x, []) ∧ VOk 16 x) := by
  by_cases h : ∃ x, valueK 16 T.data.toList = some (x, [])
  · obtain ⟨x, hx⟩ := h
    by_cases ok : VOk 16 x
    · exact ⟨some x, Get_some T w hT x true hx hU fun l f W hl hU => Valid_any 16 x l f W hl ok hU, fun y hy => by cases hy; exact ⟨ok, hx⟩, fun e => by cases e⟩
    · refine ⟨none, Get_some T w hT x false hx hU fun l f W hl hU => Valid_not 16 x l f W hl (value_pk 16 _ _ hx (by rw [← ba_size]; exact hT)) ok hU, fun y hy => (by cases hy), fun _ ⟨y, hy, hok⟩ => ?_⟩
      rw [hx] at hy
      cases hy
      exact ok hok
  · exact ⟨none, Get_none T w hT fun v hv => h ⟨v, hv⟩, fun y hy => (by cases hy), fun _ ⟨y, hy, _⟩ => h ⟨y, hy⟩⟩
/-- Of, and Same behind it. -/
def OfSame (WW : World) (y x : V) (yl yf : Value) (r : Ending) (w' : World) : Prop :=
  ∃ al cl af cf, r = .returned (.agg #[.int .i64 x.kind, .int .i64 x.num, .string x.text, .slice al x.list.length cl, .slice af x.fields.length cf]) ∧ Below WW.heap.size WW w' ∧
    Hid (Calls Tryd.prog 16 #[.agg #[.int .i64 y.kind, .int .i64 y.num, .string y.text, yl, yf], .agg #[.int .i64 x.kind, .int .i64 x.num, .string x.text, .slice al x.list.length cl, .slice af x.fields.length cf]] w'
      fun e w'' => e = .returned (.bool true) ∧ Below WW.heap.size WW w'')
theorem of_same {y x : V} {yl yf : Value} {v2 : Value} {bs : List UInt8} {WW w : World} (hx : x = (madeP 3 (bs.take 60)).1) (hs : cmpV (16 + 1) y x = 0) (hl : Lies 16 WW y yl yf) (hb : BytesAt WW v2 bs) (hT : Tabs WW) (hW : Below WW.heap.size WW w) :
    Calls Tryd.prog 10 #[v2] w (OfSame WW y x yl yf) := by
  refine (Of_is v2 bs w (hb.below hW) (hT.below hW)).mono ?_
  rintro e w' ⟨x', l', f', rfl, hx', hn, hr, hb'⟩
  obtain rfl : x' = x := by rw [hx, hx']
  obtain ⟨al, cl, af, cf, rfl, rfl⟩ := hr.slices
  have hW' := hW.trans (hb'.mono hW.size)
  refine ⟨al, cl, af, cf, rfl, hW', ?_⟩
  exact (Same_is (n := 16) hs (hl.below hW') (hr.lies.le (by decide))).mono fun _ _ ⟨h1, h2⟩ => ⟨h1, hW'.trans (h2.mono hW'.size)⟩
theorem Bend_any (s : ByteArray) (hs : (s.size : Int) ≤ 10000) (a b : Int) (a0 : 0 ≤ a) (a1 : a < 65536) (w : World) : Calls Tryd.prog 18 #[.string s, .int .u16 a, .int .u8 b] w fun e w' => (∃ t : ByteArray, e = .returned (.string t) ∧ t.size = s.size) ∧ Below w.heap.size w w' := by
  by_cases h : s.size = 0
  · exact Bend_none s h a b w
  · exact Bend_some s hs (by omega) a b a0 a1 w

set_option maxRecDepth 100000 in
set_option maxHeartbeats 8000000 in
theorem KeyGets_walk (s : ByteArray) (_hs : s.size ≤ maxLen) (own : Bool) (v2 : Value) (bs : List UInt8) (a : Int) (ha : (Lit.int .u16 a).wf = true) (b : Int) (_hb : (Lit.int .u8 b).wf = true) (w : World) (hb0 : BytesAt w v2 bs) (hE : Env w) :
    Calls Tryd.prog 6 #[.string s, .bool own, v2, .int .u16 a, .int .u8 b] w fun e w' => e = .returned (.bool true) ∧ Below w.heap.size w w' := by
  have ha0 : 0 ≤ a ∧ a < 65536 := by
    have h1 : IntKind.u16.min = 0 := rfl
    have h2 : IntKind.u16.max = 65535 := rfl
    simp only [Lit.wf, Bool.and_eq_true, decide_eq_true_eq] at ha
    omega
  obtain ⟨sa, sn, sc, hv2⟩ : ∃ a n c, v2 = .slice a n c := by
    obtain ⟨a, c, e, _⟩ := id hb0
    exact ⟨_, _, _, e⟩
  subst hv2
  have haw := awake_true w hE.u8
  have HE := (show Hid _ from And.intro hE (And.intro hb0 ha0))
  clear hE hb0 ha ha0 _hb
  go_enter Tryd.func6, Tryd.ntmps6
  go_wp2_with fail
  refine haw.mono ?_
  rintro e w1 ⟨rfl, hB1⟩
  have hof := Of_is _ bs w1 (HE.out.2.1.below hB1) (HE.out.1.below hB1).tabs
  clear haw
  go_wp2_with fail
  refine hof.mono ?_
  rintro e w2 ⟨x, lx, fx, rfl, hxp, hnx, hrx, hb2⟩
  obtain ⟨a1, c1, a2, c2, rfl, rfl⟩ := hrx.slices
  have hB2 := hB1.trans (hb2.mono hB1.size)
  obtain ⟨P, hP⟩ : ∃ A : ByteArray, (⟨(putV (3 + 1) x).toArray⟩ : ByteArray) = A := ⟨_, rfl⟩
  have cx := lput_any 3 x hnx _ _ w2 hrx.lies (Nat.le_trans (put_len 3 x hnx) (by decide))
  rw [hP] at cx
  have yp := put_size hnx hP
  have HX := (show Hid _ from And.intro hxp (And.intro hnx hP))
  have H2 := (show Hid _ from hB2)
  clear hof hxp hnx hrx hb2 hB1 hB2 hP
  go_wp2_with fail
  refine cx.mono ?_
  rintro e w3 ⟨rfl, hb3⟩
  have hB3 := H2.out.trans (hb3.mono H2.out.size)
  have H3 := (show Hid _ from hB3)
  clear cx hb3 hB3 H2
  cases own
  · obtain ⟨S, hS⟩ : ∃ S, S = s := ⟨_, rfl⟩
    obtain ⟨w4, hw4⟩ : ∃ W, W = w3 := ⟨_, rfl⟩
    rw [← hS, ← hw4]
    have hSz := (show Hid (True) from trivial)
    have H4 : Hid (Below w.heap.size w w4) := by rw [hw4]; exact H3.out
    clear hS hw4 H3 hSz _hs
    have m0 : 0 ≤ min (S.size : Int) 400 := by omega
    have m1 : min (S.size : Int) 400 ≤ (S.size : Int) := by omega
    obtain ⟨T, hTe⟩ : ∃ T, S.extract 0 (min (S.size : Int) 400).toNat = T := ⟨_, rfl⟩
    have hz : T.size ≤ 1000000 := by rw [← hTe]; simp; omega
    obtain ⟨res, hG, hsome, hnone⟩ := get_cases T hz w4 (HE.out.1.below H4.out).u8
    have HT := (show Hid _ from hTe)
    clear hTe
    have HS := (show Hid _ from And.intro hsome hnone)
    clear hsome hnone
    go_wp2_with fail
    rw [HT.out]
    refine hG.mono ?_
    clear hG
    have hback : T.toList = P.toList → valueK 16 T.data.toList = some (canK (3 + 1) x, []) := by
      intro e
      rw [Lib.toList_data, Lib.toList_data] at e
      have := value_back 3 x HX.out.2.1 16 (by decide) []
      rw [List.append_nil] at this
      rw [e, ← HX.out.2.2]
      simpa using this
    cases res with
    | none =>
      rintro e w5 ⟨hb5, rfl⟩
      have hB5 := H4.out.trans (hb5.mono H4.out.size)
      have hq : (T.toList == P.toList) = false := by
        simp only [beq_eq_false_iff_ne, ne_eq]
        intro e
        exact HS.out.2 rfl ⟨_, hback e, canK_ok 3 x HX.out.2.1 16 (by decide)⟩
      obtain ⟨O, hO⟩ : ∃ O, O = Obj.cells #[.int .i64 0, .int .i64 0, .string ⟨#[]⟩, .slice none 0 0, .slice none 0 0] 28 := ⟨_, rfl⟩
      have hB6 : Below w.heap.size w (w5.alloc O) := hB5.alloc hB5.size _
      have hsm := Same_is (n := 0) ((good_cmpV (0 + 1)).refl nulV) (show Lies 0 (w5.alloc O) nulV (.slice none 0 0) (.slice none 0 0) from ⟨rfl, rfl, rfl, rfl⟩) (show Lies 0 (w5.alloc O) nulV (.slice none 0 0) (.slice none 0 0) from ⟨rfl, rfl, rfl, rfl⟩)
      simp only [nulV] at hsm
      have H6 := (show Hid _ from And.intro hB6 hO)
      rw [hO] at hsm
      clear hback hB5 hB6 hb5 hO HS HX HE m0 m1 HT H4
      go_wp2_with fail
      refine hsm.mono ?_
      rintro e w7 ⟨rfl, hb7⟩
      have H7 := (show Hid _ from hb7)
      clear hsm hb7
      go_wp2_with fail
      go_ret
      obtain ⟨hB6, hO⟩ := H6.out
      have hb7 := H7.out
      rw [← hO] at hb7
      exact ⟨rfl, hB6.trans (hb7.mono hB6.size)⟩
    | some y =>
      rintro e w5 ⟨hb5, yl, yf, rfl, hry⟩
      obtain ⟨b1, d1, b2, d2, rfl, rfl⟩ := hry.slices
      have hB5 := H4.out.trans (hb5.mono H4.out.size)
      obtain ⟨hok, hvk⟩ := HS.out.1 y rfl
      obtain ⟨O, hO⟩ : ∃ O, O = Obj.cells #[.int .i64 y.kind, .int .i64 y.num, .string y.text, .slice b1 y.list.length d1, .slice b2 y.fields.length d2] 28 := ⟨_, rfl⟩
      obtain ⟨WW, hWW⟩ : ∃ W, W = w5.alloc O := ⟨_, rfl⟩
      have hbW : Below w5.heap.size w5 WW := by rw [hWW]; exact (Below.refl _ _).alloc (Nat.le_refl _) _
      have hB6 : Below w.heap.size w WW := hB5.trans (hbW.mono hB5.size)
      have hly : Lies 16 WW y (.slice b1 y.list.length d1) (.slice b2 y.fields.length d2) := (hry.below hbW).lies
      have hEW := HE.out.1.below hB6
      have hput : (⟨(putV (16 + 1) y).toArray⟩ : ByteArray) = T := by
        have := value_put 16 (16 + 1) (by decide) _ _ hvk 16 hok
        simp only [List.append_nil] at this
        rw [this]
      have hfit := value_fit 16 16 _ _ hvk hok
      have hlen : (putV (16 + 1) y).length ≤ 1000000000 := by
        have h1 := congrArg ByteArray.size hput
        rw [ksize_list (l := putV (16 + 1) y) rfl] at h1
        omega
      have cval := fun w' (h : Below WW.heap.size WW w') => (Valid_any 16 y _ _ w' (hly.below h) hok (hEW.u8.later h)).mono fun e w'' h2 => (show e = .returned (.bool true) ∧ Below WW.heap.size WW w'' from ⟨h2.1, h.trans (h2.2.mono h.size)⟩)
      have cput := fun w' (h : Below WW.heap.size WW w') => (KPut_any 16 y _ _ w' (hly.below h) hfit hlen hput).mono fun e w'' h2 => (show e = .returned (.string T) ∧ Below WW.heap.size WW w'' from ⟨h2.1, h.trans (h2.2.mono h.size)⟩)
      have r5 : WW.heap[w5.heap.size]? = some O := by rw [hWW]; exact heap_alloc_new w5 O
      rw [hO] at r5
      obtain ⟨p0, p1, p2, p3, p4, _⟩ := row5 r5
      have P0 := fun w' (h : Below WW.heap.size WW w') => (h.cell (lt_of_cell p0)).trans p0
      have P1 := fun w' (h : Below WW.heap.size WW w') => (h.cell (lt_of_cell p1)).trans p1
      have P2 := fun w' (h : Below WW.heap.size WW w') => (h.cell (lt_of_cell p2)).trans p2
      have P3 := fun w' (h : Below WW.heap.size WW w') => (h.cell (lt_of_cell p3)).trans p3
      have P4 := fun w' (h : Below WW.heap.size WW w') => (h.cell (lt_of_cell p4)).trans p4
      have h0 : Below WW.heap.size WW WW := Below.refl _ _
      have HB6 := (show Hid _ from hB6)
      have HTT : (T.toList == T.toList) = true := by simp
      by_cases hTP : T.toList = P.toList
      · have hq : (T.toList == P.toList) = true := by rw [hTP]; simp
        have hq' : (T.toList != P.toList) = false := by rw [hTP]; simp
        have hyx : y = canK (3 + 1) x := by
          have := hback hTP
          rw [hvk] at this
          exact (Prod.mk.inj (Option.some.inj this)).1
        have hcmp : cmpV (16 + 1) y x = 0 := by
          rw [hyx]
          have h1 := canK_same (16 + 1) 3 x HX.out.2.1
          have h2 := (good_cmpV (16 + 1)).anti x (canK (3 + 1) x)
          omega
        have cof := fun w' (h : Below WW.heap.size WW w') => of_same HX.out.1 hcmp hly (HE.out.2.1.below hB6) hEW.tabs h
        clear hback hB5 hB6 hb5 hbW hly hEW hput hfit hlen r5 p0 p1 p2 p3 p4 hry hok hvk HS HX HE m0 m1 HT H4 hyx hcmp hTP hz
        go_wp2_with fail
        rw [← hO, ← hWW]
        clear hO hWW
        go_region_held3 (fun w' => Below WW.heap.size WW w') (first | assumption | exact (Below.refl _ _).drew)
          (first
            | (go_at_call 17; refine (cval _ ?_).mono ?_; (first | assumption | exact (Below.refl _ _).drew); rintro e w6 ⟨rfl, hS6⟩)
            | (go_at_call 11; refine (cput _ ?_).mono ?_; (first | assumption | exact (Below.refl _ _).drew); rintro e w7 ⟨rfl, hS7⟩)
            | (go_at_call 10; refine (cof _ ?_).mono ?_; (first | assumption | exact (Below.refl _ _).drew); rintro e w8 ⟨al, cl, af, cf, rfl, hS8, hC⟩)
            | (go_at_call 16; refine hC.out.mono ?_; rintro e w9 ⟨rfl, hS9⟩))
        go_wp2_with fail
        go_ret
        exact ⟨rfl, HB6.out.trans (hS9.mono HB6.out.size)⟩
      · have hq : (T.toList == P.toList) = false := by simpa using hTP
        have hq' : (T.toList != P.toList) = true := by simpa using hTP
        have hvl := fun d os => Calls.regrown_of (w := WW) (d := d) (os := os) (Valid_any 16 y _ _ (Go.Sort.grow (redrawn WW d) os) (hly.below (below_regrown _ d os)) hok (hEW.u8.later (below_regrown _ d os)))
        have hpr := fun d os => Calls.regrown_of (w := WW) (d := d) (os := os) (KPut_any 16 y _ _ (Go.Sort.grow (redrawn WW d) os) (hly.below (below_regrown _ d os)) hfit hlen hput)
        have G0 := fun d os => below_regrown_cell p0 d os
        have G1 := fun d os => below_regrown_cell p1 d os
        have G2 := fun d os => below_regrown_cell p2 d os
        have G3 := fun d os => below_regrown_cell p3 d os
        have G4 := fun d os => below_regrown_cell p4 d os
        clear cval cput P0 P1 P2 P3 P4
        clear hback hB5 hB6 hb5 hbW hly hEW hput hfit hlen r5 p0 p1 p2 p3 p4 hry hok hvk HS HX HE m0 m1 HT H4 hTP hz
        go_wp2_with fail
        rw [← hO, ← hWW]
        clear hO hWW
        refine wp_region_quiet_below mixed (by kernel_rfl) ?_
        go_big_quiet_step (fail)
        go_big_quiet_step (exact hvl _ _)
        iterate 2 go_big_quiet_step (fail)
        go_big_quiet_step (exact hpr _ _)
        iterate 15 go_big_quiet_step (fail)
        refine wpQuiet_nil ?_
        rintro w8 ⟨⟨dq, osq⟩, hw8⟩
        have H8 := (show Hid _ from And.intro hw8 hw8)
        clear hw8 G0 G1 G2 G3 G4 hpr hvl
        go_wp2_with fail
        go_ret
        have hb8 : Below WW.heap.size WW w8 := by rw [H8.out.1]; exact below_regrown _ dq osq
        exact ⟨rfl, HB6.out.trans (hb8.mono HB6.out.size)⟩
  · have hbe := Bend_any P (by omega) a b HE.out.2.2.1 HE.out.2.2.2 w3
    go_wp2_with fail
    refine hbe.mono ?_
    rintro e w4 ⟨⟨S, rfl, hSz⟩, hb4⟩
    have hB4 := H3.out.trans (hb4.mono H3.out.size)
    have H4 := (show Hid _ from hB4)
    clear hbe hb4 hB4 H3 _hs hSz
    have m0 : 0 ≤ min (S.size : Int) 400 := by omega
    have m1 : min (S.size : Int) 400 ≤ (S.size : Int) := by omega
    obtain ⟨T, hTe⟩ : ∃ T, S.extract 0 (min (S.size : Int) 400).toNat = T := ⟨_, rfl⟩
    have hz : T.size ≤ 1000000 := by rw [← hTe]; simp; omega
    obtain ⟨res, hG, hsome, hnone⟩ := get_cases T hz w4 (HE.out.1.below H4.out).u8
    have HT := (show Hid _ from hTe)
    clear hTe
    have HS := (show Hid _ from And.intro hsome hnone)
    clear hsome hnone
    go_wp2_with fail
    rw [HT.out]
    refine hG.mono ?_
    clear hG
    have hback : T.toList = P.toList → valueK 16 T.data.toList = some (canK (3 + 1) x, []) := by
      intro e
      rw [Lib.toList_data, Lib.toList_data] at e
      have := value_back 3 x HX.out.2.1 16 (by decide) []
      rw [List.append_nil] at this
      rw [e, ← HX.out.2.2]
      simpa using this
    cases res with
    | none =>
      rintro e w5 ⟨hb5, rfl⟩
      have hB5 := H4.out.trans (hb5.mono H4.out.size)
      have hq : (T.toList == P.toList) = false := by
        simp only [beq_eq_false_iff_ne, ne_eq]
        intro e
        exact HS.out.2 rfl ⟨_, hback e, canK_ok 3 x HX.out.2.1 16 (by decide)⟩
      obtain ⟨O, hO⟩ : ∃ O, O = Obj.cells #[.int .i64 0, .int .i64 0, .string ⟨#[]⟩, .slice none 0 0, .slice none 0 0] 28 := ⟨_, rfl⟩
      have hB6 : Below w.heap.size w (w5.alloc O) := hB5.alloc hB5.size _
      have hsm := Same_is (n := 0) ((good_cmpV (0 + 1)).refl nulV) (show Lies 0 (w5.alloc O) nulV (.slice none 0 0) (.slice none 0 0) from ⟨rfl, rfl, rfl, rfl⟩) (show Lies 0 (w5.alloc O) nulV (.slice none 0 0) (.slice none 0 0) from ⟨rfl, rfl, rfl, rfl⟩)
      simp only [nulV] at hsm
      have H6 := (show Hid _ from And.intro hB6 hO)
      rw [hO] at hsm
      clear hback hB5 hB6 hb5 hO HS HX HE m0 m1 HT H4
      go_wp2_with fail
      refine hsm.mono ?_
      rintro e w7 ⟨rfl, hb7⟩
      have H7 := (show Hid _ from hb7)
      clear hsm hb7
      go_wp2_with fail
      go_ret
      obtain ⟨hB6, hO⟩ := H6.out
      have hb7 := H7.out
      rw [← hO] at hb7
      exact ⟨rfl, hB6.trans (hb7.mono hB6.size)⟩
    | some y =>
      rintro e w5 ⟨hb5, yl, yf, rfl, hry⟩
      obtain ⟨b1, d1, b2, d2, rfl, rfl⟩ := hry.slices
      have hB5 := H4.out.trans (hb5.mono H4.out.size)
      obtain ⟨hok, hvk⟩ := HS.out.1 y rfl
      obtain ⟨O, hO⟩ : ∃ O, O = Obj.cells #[.int .i64 y.kind, .int .i64 y.num, .string y.text, .slice b1 y.list.length d1, .slice b2 y.fields.length d2] 28 := ⟨_, rfl⟩
      obtain ⟨WW, hWW⟩ : ∃ W, W = w5.alloc O := ⟨_, rfl⟩
      have hbW : Below w5.heap.size w5 WW := by rw [hWW]; exact (Below.refl _ _).alloc (Nat.le_refl _) _
      have hB6 : Below w.heap.size w WW := hB5.trans (hbW.mono hB5.size)
      have hly : Lies 16 WW y (.slice b1 y.list.length d1) (.slice b2 y.fields.length d2) := (hry.below hbW).lies
      have hEW := HE.out.1.below hB6
      have hput : (⟨(putV (16 + 1) y).toArray⟩ : ByteArray) = T := by
        have := value_put 16 (16 + 1) (by decide) _ _ hvk 16 hok
        simp only [List.append_nil] at this
        rw [this]
      have hfit := value_fit 16 16 _ _ hvk hok
      have hlen : (putV (16 + 1) y).length ≤ 1000000000 := by
        have h1 := congrArg ByteArray.size hput
        rw [ksize_list (l := putV (16 + 1) y) rfl] at h1
        omega
      have cval := fun w' (h : Below WW.heap.size WW w') => (Valid_any 16 y _ _ w' (hly.below h) hok (hEW.u8.later h)).mono fun e w'' h2 => (show e = .returned (.bool true) ∧ Below WW.heap.size WW w'' from ⟨h2.1, h.trans (h2.2.mono h.size)⟩)
      have cput := fun w' (h : Below WW.heap.size WW w') => (KPut_any 16 y _ _ w' (hly.below h) hfit hlen hput).mono fun e w'' h2 => (show e = .returned (.string T) ∧ Below WW.heap.size WW w'' from ⟨h2.1, h.trans (h2.2.mono h.size)⟩)
      have r5 : WW.heap[w5.heap.size]? = some O := by rw [hWW]; exact heap_alloc_new w5 O
      rw [hO] at r5
      obtain ⟨p0, p1, p2, p3, p4, _⟩ := row5 r5
      have P0 := fun w' (h : Below WW.heap.size WW w') => (h.cell (lt_of_cell p0)).trans p0
      have P1 := fun w' (h : Below WW.heap.size WW w') => (h.cell (lt_of_cell p1)).trans p1
      have P2 := fun w' (h : Below WW.heap.size WW w') => (h.cell (lt_of_cell p2)).trans p2
      have P3 := fun w' (h : Below WW.heap.size WW w') => (h.cell (lt_of_cell p3)).trans p3
      have P4 := fun w' (h : Below WW.heap.size WW w') => (h.cell (lt_of_cell p4)).trans p4
      have h0 : Below WW.heap.size WW WW := Below.refl _ _
      have HB6 := (show Hid _ from hB6)
      have HTT : (T.toList == T.toList) = true := by simp
      by_cases hTP : T.toList = P.toList
      · have hq : (T.toList == P.toList) = true := by rw [hTP]; simp
        have hq' : (T.toList != P.toList) = false := by rw [hTP]; simp
        have hyx : y = canK (3 + 1) x := by
          have := hback hTP
          rw [hvk] at this
          exact (Prod.mk.inj (Option.some.inj this)).1
        have hcmp : cmpV (16 + 1) y x = 0 := by
          rw [hyx]
          have h1 := canK_same (16 + 1) 3 x HX.out.2.1
          have h2 := (good_cmpV (16 + 1)).anti x (canK (3 + 1) x)
          omega
        have cof := fun w' (h : Below WW.heap.size WW w') => of_same HX.out.1 hcmp hly (HE.out.2.1.below hB6) hEW.tabs h
        clear hback hB5 hB6 hb5 hbW hly hEW hput hfit hlen r5 p0 p1 p2 p3 p4 hry hok hvk HS HX HE m0 m1 HT H4 hyx hcmp hTP hz
        go_wp2_with fail
        rw [← hO, ← hWW]
        clear hO hWW
        go_region_held3 (fun w' => Below WW.heap.size WW w') (first | assumption | exact (Below.refl _ _).drew)
          (first
            | (go_at_call 17; refine (cval _ ?_).mono ?_; (first | assumption | exact (Below.refl _ _).drew); rintro e w6 ⟨rfl, hS6⟩)
            | (go_at_call 11; refine (cput _ ?_).mono ?_; (first | assumption | exact (Below.refl _ _).drew); rintro e w7 ⟨rfl, hS7⟩)
            | (go_at_call 10; refine (cof _ ?_).mono ?_; (first | assumption | exact (Below.refl _ _).drew); rintro e w8 ⟨al, cl, af, cf, rfl, hS8, hC⟩)
            | (go_at_call 16; refine hC.out.mono ?_; rintro e w9 ⟨rfl, hS9⟩))
        go_wp2_with fail
        go_ret
        exact ⟨rfl, HB6.out.trans (hS9.mono HB6.out.size)⟩
      · have hq : (T.toList == P.toList) = false := by simpa using hTP
        have hq' : (T.toList != P.toList) = true := by simpa using hTP
        have hvl := fun d os => Calls.regrown_of (w := WW) (d := d) (os := os) (Valid_any 16 y _ _ (Go.Sort.grow (redrawn WW d) os) (hly.below (below_regrown _ d os)) hok (hEW.u8.later (below_regrown _ d os)))
        have hpr := fun d os => Calls.regrown_of (w := WW) (d := d) (os := os) (KPut_any 16 y _ _ (Go.Sort.grow (redrawn WW d) os) (hly.below (below_regrown _ d os)) hfit hlen hput)
        have G0 := fun d os => below_regrown_cell p0 d os
        have G1 := fun d os => below_regrown_cell p1 d os
        have G2 := fun d os => below_regrown_cell p2 d os
        have G3 := fun d os => below_regrown_cell p3 d os
        have G4 := fun d os => below_regrown_cell p4 d os
        clear cval cput P0 P1 P2 P3 P4
        clear hback hB5 hB6 hb5 hbW hly hEW hput hfit hlen r5 p0 p1 p2 p3 p4 hry hok hvk HS HX HE m0 m1 HT H4 hTP hz
        go_wp2_with fail
        rw [← hO, ← hWW]
        clear hO hWW
        refine wp_region_quiet_below mixed (by kernel_rfl) ?_
        go_big_quiet_step (fail)
        go_big_quiet_step (exact hvl _ _)
        iterate 2 go_big_quiet_step (fail)
        go_big_quiet_step (exact hpr _ _)
        iterate 15 go_big_quiet_step (fail)
        refine wpQuiet_nil ?_
        rintro w8 ⟨⟨dq, osq⟩, hw8⟩
        have H8 := (show Hid _ from And.intro hw8 hw8)
        clear hw8 G0 G1 G2 G3 G4 hpr hvl
        go_wp2_with fail
        go_ret
        have hb8 : Below WW.heap.size WW w8 := by rw [H8.out.1]; exact below_regrown _ dq osq
        exact ⟨rfl, HB6.out.trans (hb8.mono HB6.out.size)⟩
end Go.Proofs.YtehjdamdlokoaaaDoor
