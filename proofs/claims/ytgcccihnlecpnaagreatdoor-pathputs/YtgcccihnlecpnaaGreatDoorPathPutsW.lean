/-
  PathPuts' walk. No conditions beyond those stated.
-/
import Derived.Test.YtgcccihnlecpnaaGreatDoorU15
namespace Go.Proofs.YtgcccihnlecpnaaGreatDoor
open Go.RowKit

theorem ask_word (m : Nat) (h : m < 8) : (#[Value.string ⟨#[97]⟩, .string ⟨#[98]⟩, .string ⟨#[99]⟩, .string ⟨#[110]⟩, .string ⟨#[48]⟩, .string ⟨#[49]⟩, .string ⟨#[50]⟩, .string ⟨#[120]⟩])[m]? = some (.string (askAt m)) := by
  rcases (by omega : m = 0 ∨ m = 1 ∨ m = 2 ∨ m = 3 ∨ m = 4 ∨ m = 5 ∨ m = 6 ∨ m = 7) with rfl | rfl | rfl | rfl | rfl | rfl | rfl | rfl <;> rfl
theorem find_one (v : V) (q : ByteArray) : findP v [q] = atP v q := by
  show (atP v q).bind (fun x => some x) = _
  cases atP v q <;> rfl
theorem put_ten {v x y : V} {p : ByteArray} {ps : List ByteArray} (h : putP v (p :: ps) x = some y) (hv : v.list.length ≤ 10) : Ten 1 y := by
  refine ⟨?_, fun _ _ => trivial, fun _ _ => trivial⟩
  rcases put_cons h with ⟨hk, z, hz, rfl⟩ | ⟨hk, i, u, z, hi, hu, hz, rfl⟩
  · exact hv
  · show (v.list.set i z).length ≤ 10
    rw [List.length_set]; exact hv
theorem strs_one {W : World} {b : Nat} {q : ByteArray} (h : W.heap[b]? = some (.cells #[.string q] 9 (0, 0))) : StrsAt W (.slice (some ⟨b, 0, none⟩) 1 1) [q] := by
  refine ⟨_, 1, rfl, Nat.le_refl _, by omega, fun _ => ⟨b, 0, rfl, fun j u hj => ?_⟩⟩
  have hj0 : j = 0 := by have := (List.getElem?_eq_some_iff.1 hj).1; simp at this; omega
  subst hj0
  cases hj
  exact cell_of_heap h rfl

set_option maxRecDepth 100000 in
set_option maxHeartbeats 8000000 in
theorem PathPuts_walk (v0 v1 v2 : Value) (bs0 bs1 bs2 : List UInt8) (w : World) (hb0 : BytesAt w v0 bs0) (hb1 : BytesAt w v1 bs1) (hb2 : BytesAt w v2 bs2) (hE : PEnv w ∧ Tabs w) :
    Calls Tryz.prog 4 #[v0, v1, v2] w fun e w' => e = .returned (.bool true) ∧ Below w.heap.size w w' := by
  obtain ⟨hE, hT⟩ := hE
  have HH := (show Hid _ from And.intro hb0 (And.intro hb1 (And.intro hb2 (And.intro hE hT))))
  have haw := awake_true w hE
  clear hb0 hb1 hb2 hE hT
  go_enter Tryz.func4, Tryz.ntmps4
  go_wp2_with fail
  refine haw.mono ?_
  rintro e w1 ⟨rfl, hB1⟩
  obtain ⟨hb0, hb1, hb2, hE, hT⟩ := HH.out
  have hof := Of_any v0 bs0 w1 (hb0.below hB1) (hT.below hB1)
  clear hb0 hb1 hb2 hE hT haw
  go_wp2_with fail
  refine hof.mono ?_
  rintro e w2 ⟨v, lv, fv, rfl, hnv, hrv, hb2'⟩
  obtain ⟨a1, c1, a2, c2, rfl, rfl⟩ := hrv.slices
  have hB2 := hB1.trans (hb2'.mono hB1.size)
  obtain ⟨hb0, hb1, hb2, hE, hT⟩ := HH.out
  have hway := Way_any v1 bs1 w2 (hb1.below hB2)
  have H2 := (show Hid _ from And.intro hnv (And.intro (Rep.lies hrv) hB2))
  clear hb0 hb1 hb2 hE hT hof hnv hrv hb2' hB1 hB2
  go_wp2_with fail
  refine hway.mono ?_
  rintro e w3 ⟨s, rfl, hst, hb3⟩
  obtain ⟨hnv, hlv, hB2⟩ := H2.out
  obtain ⟨hb0, hb1, hb2, hE, hT⟩ := HH.out
  have hB3 := hB2.trans (hb3.mono hB2.size)
  have hof2 := Of_any v2 bs2 w3 (hb2.below hB3) (hT.below hB3)
  have H3 := (show Hid _ from And.intro hB3 (And.intro (hlv.below hb3) hst))
  obtain ⟨sa, sc, rfl, -⟩ := hst
  clear hb0 hb1 hb2 hE hT hway hnv hlv hb3 hB2 hB3
  go_wp2_with fail
  refine hof2.mono ?_
  rintro e w4 ⟨x, lx, fx, rfl, hnx, hrx, hb4⟩
  obtain ⟨a3, c3, a4, c4, rfl, rfl⟩ := hrx.slices
  obtain ⟨hB3, hlv, hst⟩ := H3.out
  obtain ⟨hb0, hb1, hb2, hE, hT⟩ := HH.out
  obtain ⟨W5, hW5⟩ : ∃ W, (w4.alloc (.cells #[.int .i64 v.kind, .int .i64 v.num, .string v.text, .slice a1 v.list.length c1, .slice a2 v.fields.length c2] 28)).alloc (.cells #[.int .i64 x.kind, .int .i64 x.num, .string x.text, .slice a3 x.list.length c3, .slice a4 x.fields.length c4] 28) = W := ⟨_, rfl⟩
  have hb5 : Below w4.heap.size w4 W5 := by rw [← hW5]; exact ((Below.refl _ _).alloc (Nat.le_refl _) _).alloc (by simp) _
  have q1 : W5.heap[w4.heap.size]? = some (.cells #[.int .i64 v.kind, .int .i64 v.num, .string v.text, .slice a1 v.list.length c1, .slice a2 v.fields.length c2] 28) := by rw [← hW5]; exact heap_alloc2_old
  have q2 : W5.heap[w4.heap.size + 1]? = some (.cells #[.int .i64 x.kind, .int .i64 x.num, .string x.text, .slice a3 x.list.length c3, .slice a4 x.fields.length c4] 28) := by rw [← hW5]; exact heap_alloc2_new
  have hb35 := hb4.trans (hb5.mono hb4.size)
  have hB5 := hB3.trans (hb35.mono hB3.size)
  have hlv5 := hlv.below hb35
  have hlx5 : Lies 3 W5 x _ _ := (Rep.lies hrx).below hb5
  have hst5 := hst.below hb35
  obtain ⟨hnv, -, -⟩ := H2.out
  have hput := Put6_any 3 3 4 (wayOf bs1) _ v x _ _ _ _ W5 (hE.below hB5) (way_size bs1) (by have := way_len bs1; omega) hst5 hlv5 hlx5 ((nice_fit 3 v hnv).le (way_len bs1)) (by omega)
  obtain ⟨x0, x1, x2, x3, x4, xf⟩ := row5 q1
  obtain ⟨y0, y1, y2, y3, y4, yf⟩ := row5 q2
  have H5 := (show Hid _ from And.intro hB5 (And.intro q1 (And.intro q2 (And.intro hlv5 (And.intro hlx5 (And.intro hst5 (And.intro hnv (hE.below hB5))))))))
  clear hb0 hb1 hb2 hE hT hof2 hnv hrx hlv hst hb4 hb5 q1 q2 hb35 hB5 hlv5 hlx5 hst5 hB3 hnx
  rcases hP : putP v (wayOf bs1) x with _ | y
  · rw [hP] at hput
    have hne : 0 < (wayOf bs1).length := by
      rcases h : wayOf bs1 with _ | ⟨a, b⟩
      · rw [h] at hP; cases hP
      · simp
    go_wp2_with fail
    refine hput.mono ?_
    rintro e w6 ⟨hb6, ue, ze, rfl, hflt⟩
    obtain ⟨hB5, q1, q2, hlv5, hlx5, hst5, hnv, hE5⟩ := H5.out
    obtain ⟨hbox6, q6⟩ := boxed (w := w6) (O := .cells #[.int .i64 0, .int .i64 0, .string ⟨#[]⟩, .slice none 0 0, .slice none 0 0] 28) rfl
    have hb56 := hb6.trans (hbox6.mono hb6.size)
    have hcode := (hflt.below hbox6).code (hE5.below hb56)
    have H6 := (show Hid _ from And.intro (hB5.trans (hb56.mono hB5.size)) q6)
    have zn : (0 : Int) < ((wayOf bs1).length : Int) := by omega
    clear hB5 q1 q2 hlv5 hlx5 hst5 hnv hE5 hput hb6 hflt hbox6 q6 hb56 x0 x1 x2 x3 x4 xf y0 y1 y2 y3 y4 yf
    go_wp2_with fail
    refine hcode.mono ?_
    rintro e w7 ⟨rfl, hb7⟩
    obtain ⟨hB6, q6⟩ := H6.out
    have q7 := (hb7.block _ (lt_of_heap q6)).trans q6
    obtain ⟨x0, x1, x2, x3, x4, xf⟩ := row5 q7
    have hsame := same_any (m1 := 0) (m2 := 0) (x := zeroV) (w := w7) (la := .slice none 0 0) (fa := .slice none 0 0) (lb := .slice none 0 0) (fb := .slice none 0 0) ⟨rfl, rfl, rfl, rfl⟩ ⟨rfl, rfl, rfl, rfl⟩
    simp only [zeroV] at hsame
    have H7 := (show Hid _ from hB6.trans (hb7.mono hB6.size))
    clear hB6 q6 q7 hcode hb7
    go_wp2_with fail
    refine hsame.mono ?_
    rintro e w8 ⟨rfl, hb8⟩
    go_wp2_with fail
    go_ret
    exact ⟨rfl, H7.out.trans (hb8.mono H7.out.size)⟩
  · rw [hP] at hput
    have hPH := (show Hid _ from hP)
    clear hP
    go_wp2_with fail
    refine hput.mono ?_
    rintro e w6 ⟨hb6, ly, fy, m6, rfl, hly⟩
    obtain ⟨a5, c5, a6, c6, rfl, rfl⟩ := Rep.slices hly
    obtain ⟨hB5, q1, q2, hlv5, hlx5, hst5, hnv, hE5⟩ := H5.out
    obtain ⟨W6, hW6⟩ : ∃ W, w6.alloc (.cells #[.int .i64 y.kind, .int .i64 y.num, .string y.text, .slice a5 y.list.length c5, .slice a6 y.fields.length c6] 28) = W := ⟨_, rfl⟩
    obtain ⟨hbox6, q6⟩ := boxed hW6
    have hb56 := hb6.trans (hbox6.mono hb6.size)
    have hB6 := hB5.trans (hb56.mono hB5.size)
    have hly6 := hly.below hbox6
    have hf := Find6_any m6 (wayOf bs1) _ y _ _ W6 (hE5.below hb56) (way_size bs1) (hst5.below hb56) hly6
    rw [put_find _ _ _ _ hPH.out] at hf
    have hf' : Calls Tryz.prog 10 #[.agg #[.int .i64 y.kind, .int .i64 y.num, .string y.text, .slice a5 y.list.length c5, .slice a6 y.fields.length c6], .slice sa (wayOf bs1).length sc] W6 fun e w' => ∃ l' f' m, e = .returned (.tuple #[.agg #[.int .i64 x.kind, .int .i64 x.num, .string x.text, l', f'], .bool true]) ∧ Lies m w' x l' f' ∧ Below W6.heap.size W6 w' := hf
    obtain ⟨k0, k1, k2, k3, k4, kf⟩ := row5 q6
    have H6 := (show Hid _ from And.intro hB6 (And.intro ((hb56.block _ (lt_of_heap q1)).trans q1) (And.intro ((hb56.block _ (lt_of_heap q2)).trans q2) (And.intro (hlv5.below hb56) (And.intro (hlx5.below hb56) (And.intro (hst5.below hb56) (And.intro q6 (And.intro hly6 hnv))))))))
    clear hB5 q1 q2 hlv5 hlx5 hst5 hnv hE5 hput hb6 hly hbox6 q6 hb56 hB6 hly6 hf x0 x1 x2 x3 x4 xf y0 y1 y2 y3 y4 yf
    go_wp2_with fail
    refine hf'.mono ?_
    rintro e w7 ⟨l7, f7, m7, rfl, hl7, hb7⟩
    obtain ⟨a7, c7, a8, c8, rfl, rfl⟩ := Rep.slices hl7
    obtain ⟨hB6, q1, q2, hlv6, hlx6, hst6, q6, hly6, hnv⟩ := H6.out
    obtain ⟨W7, hW7⟩ : ∃ W, w7.alloc (.cells #[.int .i64 x.kind, .int .i64 x.num, .string x.text, .slice a7 x.list.length c7, .slice a8 x.fields.length c8] 28) = W := ⟨_, rfl⟩
    obtain ⟨hbox7, q7⟩ := boxed hW7
    have hb67 := hb7.trans (hbox7.mono hb7.size)
    have hB7 := hB6.trans (hb67.mono hB6.size)
    have q17 := (hb67.block _ (lt_of_heap q1)).trans q1
    have q27 := (hb67.block _ (lt_of_heap q2)).trans q2
    have q67 := (hb67.block _ (lt_of_heap q6)).trans q6
    have hsame := same_any (hl7.below hbox7) (hlx6.below hb67)
    obtain ⟨x0, x1, x2, x3, x4, xf⟩ := row5 q7
    obtain ⟨y0, y1, y2, y3, y4, yf⟩ := row5 q27
    have H7 := (show Hid _ from And.intro hB7 (And.intro q17 (And.intro q67 (And.intro (hlv6.below hb67) (And.intro (hly6.below hb67) (And.intro (hst6.below hb67) hnv))))))
    clear hB6 q1 q2 hlv6 hlx6 hst6 q6 hly6 hnv hbox7 q7 hb67 hB7 q17 q27 q67 hl7 hb7 hf' k0 k1 k2 k3 k4 kf
    go_wp2_with fail
    refine hsame.mono ?_
    rintro e w8 ⟨rfl, hb8⟩
    obtain ⟨hB7, q1, q6, hlv7, hly7, hst7, hnv⟩ := H7.out
    have hB8 := hB7.trans (hb8.mono hB7.size)
    have q18 := (hb8.block _ (lt_of_heap q1)).trans q1
    have q68 := (hb8.block _ (lt_of_heap q6)).trans q6
    have H8 := (show Hid _ from And.intro hB8 (And.intro q18 (And.intro q68 (And.intro (hlv7.below hb8) (And.intro (hly7.below hb8) (And.intro (hst7.below hb8) hnv))))))
    clear hB7 q1 q6 hlv7 hly7 hst7 hnv hsame x0 x1 x2 x3 x4 xf y0 y1 y2 y3 y4 yf hb8
    rcases hwo : wayOf bs1 with _ | ⟨p0, ps⟩
    · go_wp2_with fail
      go_ret
      exact ⟨rfl, H8.out.1⟩
    · have hP := hPH.out
      rw [hwo] at hP
      have hkk : (y.kind != v.kind) = false := by rw [put_kind hP]; simp
      have hten : Ten 1 y := put_ten hP (by obtain ⟨_, _, _, _, _, _, hnv⟩ := H8.out; exact (nice_ten 3 v hnv).1)
      have hPH2 := (show Hid _ from And.intro hP hten)
      clear hP hten
      obtain ⟨hB8, q1, q6, hlv8, hly8, hst8, hnv⟩ := H8.out
      obtain ⟨x0, x1, x2, x3, x4, xf⟩ := row5 q1
      obtain ⟨y0, y1, y2, y3, y4, yf⟩ := row5 q6
      have zn : (0 : Int) < (ps.length : Int) + 1 := by omega
      have zz : ((ps.length : Int) + 1 == 0) = false := by simp; omega
      obtain ⟨W9, hW9⟩ : ∃ W, w8.alloc (.cells #[Value.string ⟨#[97]⟩, .string ⟨#[98]⟩, .string ⟨#[99]⟩, .string ⟨#[110]⟩, .string ⟨#[48]⟩, .string ⟨#[49]⟩, .string ⟨#[50]⟩, .string ⟨#[120]⟩] 9) = W := ⟨_, rfl⟩
      obtain ⟨hbox9, q9⟩ := boxed hW9
      rw [hwo] at hst8
      have H9 := (show Hid _ from And.intro (hB8.trans (hbox9.mono hB8.size)) (And.intro ((hbox9.block _ (lt_of_heap q1)).trans q1) (And.intro ((hbox9.block _ (lt_of_heap q6)).trans q6) (And.intro (hlv8.below hbox9) (And.intro (hly8.below hbox9) (And.intro (hst8.below hbox9) (And.intro hnv q9)))))))
      clear hB8 q1 q6 hlv8 hly8 hst8 hnv hbox9 q9
      go_wp2_with fail
      go_loopg [15, 16, 17, 18, 19, 81] 8 (fun gg _ _ _ _ _ i wr => ∃ k : Nat, k ≤ 8 ∧ 8 - k ≤ gg ∧ i = .int .i64 k ∧ Aside (Below W9.heap.size W9 wr))
      case atStart => exact ⟨0, Nat.zero_le _, by omega, rfl, Below.refl _ _⟩
      case round =>
        obtain ⟨k, hk, hgg, rfl, A⟩ := hrel
        clear x0 x1 x2 x3 x4 xf y0 y1 y2 y3 y4 yf
        by_cases hlt : k < 8
        · obtain ⟨hB9, q1, q6, hlv9, hly9, hst9, hnv, q9⟩ := H9.out
          have hBr := A.out
          obtain ⟨q, hq⟩ : ∃ q, askAt k = q := ⟨_, rfl⟩
          have c0 : W9.cell? ⟨w8.heap.size, k, none⟩ = some (.string q) := by rw [← hq]; exact cell_of_heap q9 (ask_word k hlt)
          have c0' := (hBr.cell (lt_of_cell c0)).trans c0
          have zk : (k : Int) < 8 := by omega
          obtain ⟨W10, hW10⟩ : ∃ W, wr.alloc (.cells #[.string q] 9) = W := ⟨_, rfl⟩
          obtain ⟨hbox10, q10⟩ := boxed hW10
          have hb910 := hBr.trans (hbox10.mono hBr.size)
          obtain ⟨x0, x1, x2, x3, x4, xf⟩ := row5 ((hBr.block _ (lt_of_heap q1)).trans q1)
          have hlf := LFind_any 3 [q] _ v _ _ W10 (strs_one q10) (hlv9.below hb910) ((nice_ten 3 v hnv).le (by simp))
          have H10 := (show Hid _ from And.intro hb910 hq)
          clear hB9 q1 q6 hlv9 hly9 hst9 hnv q9 hBr c0 hbox10 q10 hb910 hq
          go_wp2_with fail
          refine hlf.mono ?_
          rintro e w11 ⟨l11, f11, m11, rfl, hl11, hb11⟩
          obtain ⟨r1, hr1⟩ : ∃ r, (findP v [q]) = r := ⟨_, rfl⟩
          rw [hr1] at hl11 ⊢
          obtain ⟨z1, hz1⟩ : ∃ z, r1.getD zeroV = z := ⟨_, rfl⟩
          rw [hz1] at hl11 ⊢
          obtain ⟨b1, hb1⟩ : ∃ b, r1.isSome = b := ⟨_, rfl⟩
          rw [hb1]
          obtain ⟨a9, c9, a10, c10, rfl, rfl⟩ := Rep.slices hl11
          obtain ⟨hb910, hq⟩ := H10.out
          obtain ⟨hB9, q1, q6, hlv9, hly9, hst9, hnv, q9⟩ := H9.out
          obtain ⟨W11, hW11⟩ : ∃ W, w11.alloc (.cells #[.int .i64 z1.kind, .int .i64 z1.num, .string z1.text, .slice a9 z1.list.length c9, .slice a10 z1.fields.length c10] 28) = W := ⟨_, rfl⟩
          obtain ⟨hbox11, q11⟩ := boxed hW11
          have hb1011 := hb11.trans (hbox11.mono hb11.size)
          have hb911 := hb910.trans (hb1011.mono hb910.size)
          obtain ⟨y0, y1, y2, y3, y4, yf⟩ := row5 ((hb911.block _ (lt_of_heap q6)).trans q6)
          obtain ⟨W12, hW12⟩ : ∃ W, W11.alloc (.cells #[.string q] 9) = W := ⟨_, rfl⟩
          obtain ⟨hbox12, q12⟩ := boxed hW12
          have hb912 := hb911.trans (hbox12.mono hb911.size)
          have hlf2 := LFind_any m6 [q] _ y _ _ W12 (strs_one q12) (hly9.below hb912) hPH2.out.2
          have H12 := (show Hid _ from And.intro hb912 (And.intro ((hbox12.block _ (lt_of_heap q11)).trans q11) (And.intro (hl11.below (hb1011.trans (hbox12.mono hb1011.size))) (And.intro hr1 (And.intro hz1 hb1)))))
          clear hB9 q1 q6 hlv9 hly9 hst9 hnv q9 hb910 hq hbox11 q11 hb1011 hb911 hbox12 q12 hb912 hl11 hb11 hlf x0 x1 x2 x3 x4 xf hr1 hz1 hb1
          go_wp2_with fail
          refine hlf2.mono ?_
          rintro e w13 ⟨l13, f13, m13, rfl, hl13, hb13⟩
          obtain ⟨r2, hr2⟩ : ∃ r, (findP y [q]) = r := ⟨_, rfl⟩
          rw [hr2] at hl13 ⊢
          obtain ⟨z2, hz2⟩ : ∃ z, r2.getD zeroV = z := ⟨_, rfl⟩
          rw [hz2] at hl13 ⊢
          obtain ⟨b2, hb2⟩ : ∃ b, r2.isSome = b := ⟨_, rfl⟩
          rw [hb2]
          obtain ⟨a11, c11, a12, c12, rfl, rfl⟩ := Rep.slices hl13
          obtain ⟨hb912, q11, hl11, hr1, hz1, hb1⟩ := H12.out
          obtain ⟨hB9, q1, q6, hlv9, hly9, hst9, hnv, q9⟩ := H9.out
          obtain ⟨W13, hW13⟩ : ∃ W, w13.alloc (.cells #[.int .i64 z2.kind, .int .i64 z2.num, .string z2.text, .slice a11 z2.list.length c11, .slice a12 z2.fields.length c12] 28) = W := ⟨_, rfl⟩
          obtain ⟨hbox13, q13⟩ := boxed hW13
          have hb1213 := hb13.trans (hbox13.mono hb13.size)
          have hb913 := hb912.trans (hb1213.mono hb912.size)
          obtain ⟨y0, y1, y2, y3, y4, yf⟩ := row5 q13
          obtain ⟨x0, x1, x2, x3, x4, xf⟩ := row5 ((hb1213.block _ (lt_of_heap q11)).trans q11)
          obtain ⟨sa', sc', es, -, -, hcp⟩ := hst9.below hb913
          simp only [Value.slice.injEq] at es
          obtain ⟨rfl, -, rfl⟩ := es
          obtain ⟨pb, po, rfl, hpc⟩ := hcp (by simp)
          have cp0 := hpc 0 p0 rfl
          rw [Nat.add_zero] at cp0
          have heq := beq_cmpT q p0
          have hl11' := (hl11.below hb1213)
          have hl13' := (hl13.below hb1213)
          have H13 := (show Hid _ from hb913)
          by_cases hc : cmpT q p0 = 0
          · rw [decide_eq_true hc] at heq
            clear hb912 q11 hl11 hr1 hz1 hb1 hB9 q1 q6 hlv9 hly9 hst9 hnv q9 hbox13 q13 hb1213 hb913 hl13 hb13 hlf2 hr2 hz2 hb2 hcp hpc hl11' hl13'
            go_wp2_with fail
            go_roundg (8 - (k + 1))
            case measure => omega
            case rel => exact ⟨k + 1, by omega, by omega, by go_num, (show Aside _ from H13.out)⟩
          · rw [decide_eq_false hc] at heq
            have hrr : r2 = r1 := by
              rw [← hr1, ← hr2, find_one, find_one]
              refine put_other hPH2.out.1 hc ?_
              have hp0 : ∃ i, p0 = wayAt i := by
                have : p0 ∈ wayOf bs1 := by rw [hwo]; simp
                obtain ⟨b, _, e⟩ := List.mem_map.1 this
                exact ⟨b.toNat, e.symm⟩
              obtain ⟨i, rfl⟩ := hp0
              have hqq := H10.out.2
              rw [← hqq] at hc ⊢
              exact ask_apart k i hlt hc
            subst hrr
            obtain rfl : z2 = z1 := hz2.symm.trans hz1
            obtain rfl : b2 = b1 := hb2.symm.trans hb1
            have hsame := same_any hl11' hl13'
            clear hb912 q11 hl11 hr1 hz1 hb1 hB9 q1 q6 hlv9 hly9 hst9 hnv q9 hbox13 q13 hb1213 hb913 hl13 hb13 hlf2 hr2 hz2 hb2 hcp hpc hl11' hl13'
            go_wp2_with fail
            refine hsame.mono ?_
            rintro e w14 ⟨rfl, hb14⟩
            have H14 := (show Hid _ from H13.out.trans (hb14.mono H13.out.size))
            clear hsame
            go_wp2_with fail
            go_roundg (8 - (k + 1))
            case measure => omega
            case rel => exact ⟨k + 1, by omega, by omega, by go_num, (show Aside _ from H14.out)⟩
        · have zk : ¬ (k : Int) < 8 := by omega
          go_wp2_with fail
          go_ret
          exact ⟨rfl, H9.out.1.trans (A.out.mono H9.out.1.size)⟩
end Go.Proofs.YtgcccihnlecpnaaGreatDoor
