/-
  PathCuts' walk. No conditions beyond those stated.
-/
import Derived.Test.YtgcccihnlecpnaaGreatDoorPFit
namespace Go.Proofs.YtgcccihnlecpnaaGreatDoor
open Go.RowKit

/-- what the rest of the walk needs: behind the boxes. -/
theorem same_two {m1 m2 : Nat} {x z : V} {la fa lb fb : Value} {w : World} (h : x = z) (ha : Lies m1 w x la fa) (hb : Lies m2 w z lb fb) :
    Calls Tryz.prog 12 #[.agg #[.int .i64 x.kind, .int .i64 x.num, .string x.text, la, fa], .agg #[.int .i64 z.kind, .int .i64 z.num, .string z.text, lb, fb]] w fun e w' => e = .returned (.bool true) ∧ Below w.heap.size w w' := by
  subst h
  exact same_any ha hb

set_option maxRecDepth 100000 in
set_option maxHeartbeats 8000000 in
theorem PathCuts_walk (v0 v1 : Value) (bs0 bs1 : List UInt8) (w : World) (hb0 : BytesAt w v0 bs0) (hb1 : BytesAt w v1 bs1) (hE : PEnv w ∧ Tabs w) :
    Calls Tryz.prog 6 #[v0, v1] w fun e w' => e = .returned (.bool true) ∧ Below w.heap.size w w' := by
  obtain ⟨hE, hT⟩ := hE
  have HH := (show Hid _ from And.intro hb0 (And.intro hb1 (And.intro hE hT)))
  have haw := awake_true w hE
  clear hb0 hb1 hE hT
  go_enter Tryz.func6, Tryz.ntmps6
  go_wp2_with fail
  refine haw.mono ?_
  rintro e w1 ⟨rfl, hB1⟩
  obtain ⟨hb0, hb1, hE, hT⟩ := HH.out
  have hof := Of_any v0 bs0 w1 (hb0.below hB1) (hT.below hB1)
  clear hb0 hb1 hE hT haw
  go_wp2_with fail
  refine hof.mono ?_
  rintro e w2 ⟨v, lx, fx, rfl, hnx, hrx, hb2⟩
  obtain ⟨a1, c1, a2, c2, rfl, rfl⟩ := hrx.slices
  have hB2 := hB1.trans (hb2.mono hB1.size)
  obtain ⟨hb0, hb1, hE, hT⟩ := HH.out
  have hway := Way_any v1 bs1 w2 (hb1.below hB2)
  have H2 := (show Hid _ from And.intro hnx (And.intro hrx hB2))
  clear hb0 hb1 hE hT hof hnx hrx hb2 hB1 hB2
  go_wp2_with fail
  refine hway.mono ?_
  rintro e w3 ⟨s, rfl, hst, hb3⟩
  obtain ⟨hnx, hrx, hB2⟩ := H2.out
  obtain ⟨hb0, hb1, hE, hT⟩ := HH.out
  obtain ⟨W3, hW3⟩ : ∃ W, w3.alloc (.cells #[.int .i64 v.kind, .int .i64 v.num, .string v.text, .slice a1 v.list.length c1, .slice a2 v.fields.length c2] 28) = W := ⟨_, rfl⟩
  obtain ⟨hbox3, q3⟩ := boxed hW3
  have hb23 := hb3.trans (hbox3.mono hb3.size)
  have hB3 := hB2.trans (hb23.mono hB2.size)
  have hl3 : Lies 3 W3 v _ _ := (Rep.lies hrx).below hb23
  have hfit := (nice_fit 3 v hnx).le (way_len bs1)
  have hcut := Cut6_any 3 4 (wayOf bs1) s v _ _ W3 (hE.below hB3) (way_size bs1) (hst.below hbox3) hl3 hfit
  obtain ⟨x0, x1, x2, x3, x4, xf⟩ := row5 q3
  have H3 := (show Hid _ from And.intro hB3 (And.intro q3 (And.intro hl3 (And.intro (hst.below hbox3) (And.intro hnx (And.intro (hE.below hB3) hfit))))))
  obtain ⟨sa, sc, rfl, -⟩ := hst
  clear hb0 hb1 hE hT hway hnx hrx hb3 hB2 hbox3 q3 hb23 hB3 hl3 hfit
  go_wp2_with fail
  refine hcut.mono ?_
  rintro e w4 ⟨hb4, l4, f4, m4, rfl, hl4⟩
  obtain ⟨y, hy⟩ : ∃ y, (cutP v (wayOf bs1)).getD v = y := ⟨_, rfl⟩
  obtain ⟨bc, hbc⟩ : ∃ b, (cutP v (wayOf bs1)).isSome = b := ⟨_, rfl⟩
  rw [hy] at hl4 ⊢
  rw [hbc]
  obtain ⟨a5, c5, a6, c6, rfl, rfl⟩ := Rep.slices hl4
  obtain ⟨hB3, q3, hl3, hst3, hnx, hE3, hfit⟩ := H3.out
  obtain ⟨W4, hW4⟩ : ∃ W, w4.alloc (.cells #[.int .i64 y.kind, .int .i64 y.num, .string y.text, .slice a5 y.list.length c5, .slice a6 y.fields.length c6] 28) = W := ⟨_, rfl⟩
  obtain ⟨hbox4, q4⟩ := boxed hW4
  have hb34 := hb4.trans (hbox4.mono hb4.size)
  have hB4 := hB3.trans (hb34.mono hB3.size)
  have q34 := (hb34.block _ (lt_of_heap q3)).trans q3
  obtain ⟨k0, k1, k2, k3, k4, kf⟩ := row5 q34
  have hten := nice_ten 3 v hnx
  have hlf := LFind_any 3 (wayOf bs1) _ v _ _ W4 (hst3.below hb34) (hl3.below hb34) (hten.le (by have := way_len bs1; omega))
  have H4 := (show Hid _ from And.intro hB4 (And.intro q4 (And.intro q34 (And.intro (hl3.below hb34) (And.intro (hl4.below hbox4) (And.intro hy (And.intro hbc (And.intro (hst3.below hb34) (And.intro (hE3.below hb34) (And.intro hnx hfit))))))))))
  clear hB3 q3 hl3 hst3 hnx hE3 hfit hten hbox4 q4 hb34 hB4 q34 hcut hl4 hb4 hy hbc x0 x1 x2 x3 x4 xf
  go_wp2_with fail
  refine hlf.mono ?_
  rintro e w5 ⟨l5, f5, m5, rfl, hl5, hb5⟩
  obtain ⟨u, hu⟩ : ∃ z, (findP v (wayOf bs1)).getD zeroV = z := ⟨_, rfl⟩
  obtain ⟨bh, hbh⟩ : ∃ b, (findP v (wayOf bs1)).isSome = b := ⟨_, rfl⟩
  rw [hu] at hl5 ⊢
  rw [hbh]
  obtain ⟨a7, c7, a8, c8, rfl, rfl⟩ := Rep.slices hl5
  obtain ⟨hB4, q4, q34, hl34, hl4, hy, hbc, hst4, hE4, hnx, hfit⟩ := H4.out
  obtain ⟨W5, hW5⟩ : ∃ W, w5.alloc (.cells #[.int .i64 u.kind, .int .i64 u.num, .string u.text, .slice a7 u.list.length c7, .slice a8 u.fields.length c8] 28) = W := ⟨_, rfl⟩
  obtain ⟨hbox5, q5⟩ := boxed hW5
  have hb45 := hb5.trans (hbox5.mono hb5.size)
  obtain ⟨W6, hW6⟩ : ∃ W, W5.alloc (.cells #[.int .i64 0, .int .i64 0, .string ⟨#[]⟩, .slice none 0 0, .slice none 0 0] 28) = W := ⟨_, rfl⟩
  obtain ⟨hbox6, q6⟩ := boxed hW6
  obtain ⟨z0, z1, z2, z3, z4, zf⟩ := row5 q6
  obtain ⟨W7, hW7⟩ : ∃ W, set5W W6 W5.heap.size 0 1 2 3 4 (.int .i64 0) (.int .i64 0) (.string ⟨#[]⟩) (.slice none 0 0) (.slice none 0 0) = W := ⟨_, rfl⟩
  have q7 : W7.heap[W5.heap.size]? = some (.cells #[.int .i64 0, .int .i64 0, .string ⟨#[]⟩, .slice none 0 0, .slice none 0 0] 28 (0, 0)) := by rw [← hW7]; exact box_set q6 _ _ _ _ _
  have hb57 : Below W5.heap.size W5 W7 := by rw [← hW7]; exact set5W_below hbox6 (Nat.le_refl _) 0 1 2 3 4 _ _ _ _ _
  simp only [set5W] at hW7
  have hb47 := hb45.trans (hb57.mono hb45.size)
  have hB7 := hB4.trans (hb47.mono hB4.size)
  have q47 := (hb47.block _ (lt_of_heap q4)).trans q4
  have q37 := (hb47.block _ (lt_of_heap q34)).trans q34
  have q57 := (hb57.block _ (lt_of_heap q5)).trans q5
  obtain ⟨x0, x1, x2, x3, x4, xf⟩ := row5 q37
  obtain ⟨y0, y1, y2, y3, y4, yf⟩ := row5 q47
  obtain ⟨t0, t1, t2, t3, t4, tf⟩ := row5 q7
  have H7 := (show Hid _ from And.intro hB7 (And.intro q37 (And.intro q47 (And.intro q57 (And.intro q7 (And.intro (hl34.below hb47) (And.intro (hl4.below hb47) (And.intro (hl5.below hb45 |>.below hb57) (And.intro hy (And.intro hbc (And.intro hu (And.intro hbh (And.intro (hst4.below hb47) (And.intro (hE4.below hb47) (And.intro hnx hfit)))))))))))))))
  have HU := (show Hid _ from And.intro hb47 (And.intro hl5 (And.intro (lt_of_heap q5) (And.intro hb45.size hb57.size))))
  rcases List.eq_nil_or_concat (wayOf bs1) with hwo | ⟨init, last, hwo⟩
  · have hbf : bc = false := by rw [← hbc, hwo]; rfl
    have hyv : y = v := by rw [← hy, hwo]; rfl
    have hsame := same_two hyv (hl4.below hb47) (hl34.below hb47)
    have hlen : (wayOf bs1).length = 0 := by rw [hwo]; rfl
    have zl : ¬ (0 : Int) < ((wayOf bs1).length : Int) := by omega
    have hbt : bh = true := by rw [← hbh, hwo]; rfl
    subst hbf
    subst hbt
    clear hB4 q4 q34 hl34 hl4 hy hbc hst4 hE4 hnx hfit hbox5 q5 hb45 hbox6 q6 q7 hb57 hb47 hB7 q47 q37 q57 hlf hl5 hb5 hu hbh hwo hlen hyv k0 k1 k2 k3 k4 kf
    go_wp2_with fail
    refine hsame.mono ?_
    rintro e w8 ⟨rfl, hb8⟩
    go_wp2_with fail
    go_ret
    exact ⟨rfl, H7.out.1.trans (hb8.mono H7.out.1.size)⟩
  · rw [List.concat_eq_append] at hwo
    have hlen : (wayOf bs1).length = init.length + 1 := by rw [hwo]; simp
    have zl : (0 : Int) < ((wayOf bs1).length : Int) := by omega
    have zi : ((wayOf bs1).length : Int) - 1 = (init.length : Int) := by omega
    have hst7 := (hst4.below hb47).take init.length (by omega)
    obtain ⟨a', cap', es, hc1, hc2, hcs⟩ := hst4
    simp only [Value.slice.injEq, true_and] at es
    obtain ⟨rfl, rfl⟩ := es
    obtain ⟨sb, so, rfl, -⟩ := hcs (by intro e; rw [e] at hlen; simp at hlen)
    have htk : (wayOf bs1).take init.length = init := by rw [hwo, List.take_left' rfl]
    rw [htk] at hst7
    have zcap : init.length ≤ sc := by omega
    have zhi : (init.length : Int) ≤ 3 := by have := way_len bs1; omega
    have hwi : IntKind.i64.wrap (init.length : Int) = (init.length : Int) := by rw [IntKind.wrap_i64]; omega
    have hwi2 : wrap64 (init.length : Int) = (init.length : Int) := by unfold wrap64; omega
    have zi0 : (0 : Int) ≤ (init.length : Int) := by omega
    have hdw : Below W7.heap.size W7 W7.drew := (Below.refl _ _).drew
    have hlf2 := LFind_any 3 init _ v _ _ W7.drew (hst7.below hdw) ((hl34.below hb47).below hdw) ((nice_ten 3 v hnx).le (by have := way_len bs1; omega))
    obtain ⟨g, hg⟩ : ∃ g, (findP v init).getD zeroV = g := ⟨_, rfl⟩
    have hcond : bc = (bh && decide (g.kind = 5)) := by rw [← hbc, ← hbh, ← hg, hwo]; exact cut_is init last v
    have hzl : W5.heap.size < W7.heap.size := lt_of_heap q7
    have HC := (show Hid _ from And.intro hg (And.intro hcond (And.intro hwo hlen)))
    clear hB4 q4 q34 hl34 hl4 hy hbc hE4 hnx hfit hbox5 q5 hb45 hbox6 q6 q7 hb57 hb47 hB7 q47 q37 q57 hlf hl5 hb5 hu hbh hwo hst7 htk hg hcond hlen k0 k1 k2 k3 k4 kf
    go_wp2_with fail
    go_region_with (go_at_call 11; refine hlf2.mono ?_; rintro e w8 ⟨l8, f8, m8, rfl, hl8, hb8⟩; rw [HC.out.1] at hl8 ⊢; obtain ⟨a9, c9, a10, c10, rfl, rfl⟩ := Rep.slices hl8; have hb78 := hdw.trans (hb8.mono hdw.size); obtain ⟨hB7, q37, q47, q57, q7, hl7, hly7, hlu7, hy, hbc, hu, hbh, hst7, hE7, hnx, hfit⟩ := H7.out; have u7 := (hb78.block _ hzl).trans q7; obtain ⟨j0, j1, j2, j3, j4, jf⟩ := row5 u7; have H8 := (show Hid _ from And.intro hb78 u7); clear hl8 hb8 hb78 hB7 q37 q47 q57 q7 hl7 hly7 hlu7 hy hbc hu hbh hst7 hE7 hnx hfit u7)
    all_goals
      obtain ⟨hb78, u7⟩ := H8.out
      obtain ⟨hB7, q37, q47, q57, q7, hl7, hly7, hlu7, hy, hbc, hu, hbh, hst7, hE7, hnx, hfit⟩ := H7.out
      obtain ⟨hB4, q4, q34, hl34, hl4, -, -, hst4', hE4, -, -⟩ := H4.out
      obtain ⟨hg, hcond, hwo, hlen⟩ := HC.out
      obtain ⟨hb47, hl5, hlt5, hsz45, hsz57⟩ := HU.out
      obtain ⟨W9, hW9⟩ : ∃ W, set5W w8 W5.heap.size 0 1 2 3 4 (.int .i64 g.kind) (.int .i64 g.num) (.string g.text) (.slice a9 g.list.length c9) (.slice a10 g.fields.length c10) = W := ⟨_, rfl⟩
      have hb79 : Below W5.heap.size W7 W9 := by rw [← hW9]; exact set5W_below (hb78.mono hsz57) (Nat.le_refl _) 0 1 2 3 4 _ _ _ _ _
      have u9 : W9.heap[W5.heap.size]? = some (.cells #[.int .i64 g.kind, .int .i64 g.num, .string g.text, .slice a9 g.list.length c9, .slice a10 g.fields.length c10] 28 (0, 0)) := by rw [← hW9]; exact box_set u7 _ _ _ _ _
      simp only [set5W] at hW9
      have hb49 := hb47.trans (hb79.mono hsz45)
      have hB9 := hB4.trans (hb49.mono hB4.size)
      have r3 := (hb49.block _ (lt_of_heap q34)).trans q34
      have r4 := (hb49.block _ (lt_of_heap q4)).trans q4
      have r5 := (hb79.block _ hlt5).trans q57
      have hlv9 := hl34.below hb49
      have hly9 := hl4.below hb49
      have hlu9 := hl5.below hb49
      have hst9 := hst4'.below hb49
      have hE9 := hE4.below hb49
      have H9 := (show Hid _ from And.intro hB9 (And.intro r3 (And.intro r4 (And.intro r5 (And.intro hlv9 (And.intro hly9 (And.intro hlu9 (And.intro hst9 (And.intro hE9 (And.intro hy (And.intro hbc (And.intro hu (And.intro hbh (And.intro hnx (And.intro hfit hwo)))))))))))))))
      obtain ⟨x0, x1, x2, x3, x4, xf⟩ := row5 r3
      obtain ⟨y0, y1, y2, y3, y4, yf⟩ := row5 r4
      obtain ⟨s0, s1, s2, s3, s4, sf⟩ := row5 r5
      obtain ⟨t0, t1, t2, t3, t4, tf⟩ := row5 u9
      by_cases hcb : bc = true
      · have hbt : bh = true := by rw [hcb] at hcond; cases bh; simp at hcond; rfl
        have hgk : g.kind = 5 := by rw [hcb, hbt] at hcond; simpa using hcond
        have e5 : (g.kind == 5) = true := by simpa using hgk
        have hcs : cutP v (wayOf bs1) = some y := by
          rcases h : cutP v (wayOf bs1) with _ | z
          · rw [h, hcb] at hbc; cases hbc
          · rw [h] at hy; rw [← hy]; rfl
        have hfs : findP v (wayOf bs1) = some u := by
          rcases h : findP v (wayOf bs1) with _ | z
          · rw [h, hbt] at hbh; cases hbh
          · rw [h] at hu; rw [← hu]; rfl
        obtain ⟨hgone, hback⟩ := cut_gone (wayOf bs1) 4 v y (way_len bs1) (Nice.up 3 v hnx) hcs
        have hbk := hback u hfs
        have hfy := fit_cut (wayOf bs1) v y hcs hfit
        have hfind := Find6_any m4 (wayOf bs1) _ y _ _ W9 hE9 (way_size bs1) hst9 hly9
        rw [hgone] at hfind
        have hfind' : Calls Tryz.prog 10 #[.agg #[.int .i64 y.kind, .int .i64 y.num, .string y.text, .slice a5 y.list.length c5, .slice a6 y.fields.length c6], .slice (some ⟨sb, so, none⟩) (wayOf bs1).length sc] W9 fun e w' => ∃ l' f' m, e = .returned (.tuple #[.agg #[.int .i64 0, .int .i64 0, .string ⟨#[]⟩, l', f'], .bool false]) ∧ Lies m w' zeroV l' f' ∧ Below W9.heap.size W9 w' := hfind
        have H10 := (show Hid _ from And.intro hbk hfy)
        subst hcb
        subst hbt
        clear hb78 u7 hB7 q37 q47 q57 q7 hl7 hly7 hlu7 hy hbc hu hbh hst7 hE7 hnx hfit hB4 q4 q34 hl34 hl4 hst4' hE4 hg hcond hwo hlen hb47 hl5 hlt5 hsz45 hsz57 hb79 u9 hb49 hB9 r3 r4 r5 hlv9 hly9 hlu9 hst9 hE9 hcs hfs hgone hback hbk hfy hfind hgk
        go_wp2_with fail
        refine hfind'.mono ?_
        rintro e w10 ⟨l10, f10, m10, rfl, hl10, hb10⟩
        obtain ⟨z1, d1, z3, d3, e1, e2⟩ := Rep.slices hl10
        have e1' : l10 = .slice z1 0 d1 := e1
        have e2' : f10 = .slice z3 0 d3 := e2
        subst e1' e2'
        obtain ⟨hB9, r3, r4, r5, hlv9, hly9, hlu9, hst9, hE9, -, -, -, -, hnx, hfit, hwo⟩ := H9.out
        obtain ⟨W11, hW11⟩ : ∃ W, w10.alloc (.cells #[.int .i64 0, .int .i64 0, .string ⟨#[]⟩, .slice z1 0 d1, .slice z3 0 d3] 28) = W := ⟨_, rfl⟩
        obtain ⟨hbox11, q11⟩ := boxed hW11
        have hb911 := hb10.trans (hbox11.mono hb10.size)
        have hput := Put6_any m4 m5 5 (wayOf bs1) _ y u _ _ _ _ W11 (hE9.below hb911) (way_size bs1) (by have := way_len bs1; omega) (hst9.below hb911) (hly9.below hb911) (hlu9.below hb911) H10.out.2 (by omega)
        rw [H10.out.1] at hput
        have r3' := (hb911.block _ (lt_of_heap r3)).trans r3
        have H11 := (show Hid _ from And.intro (hB9.trans (hb911.mono hB9.size)) (And.intro r3' (hlv9.below hb911)))
        obtain ⟨y0', y1', y2', y3', y4', yf'⟩ := row5 ((hb911.block _ (lt_of_heap r4)).trans r4)
        obtain ⟨s0', s1', s2', s3', s4', sf'⟩ := row5 ((hb911.block _ (lt_of_heap r5)).trans r5)
        clear hl10 hb10 e1 e2 hB9 r3 r4 r5 hlv9 hly9 hlu9 hst9 hE9 hnx hfit hwo hbox11 q11 hb911 r3' hfind' x0 x1 x2 x3 x4 xf y0 y1 y2 y3 y4 yf s0 s1 s2 s3 s4 sf t0 t1 t2 t3 t4 tf
        go_wp2_with fail
        refine hput.mono ?_
        rintro e w12 ⟨hb12, l12, f12, m12, rfl, hl12⟩
        obtain ⟨a11, c11, a12, c12, rfl, rfl⟩ := Rep.slices hl12
        obtain ⟨hB11, r3, hlv11⟩ := H11.out
        obtain ⟨W13, hW13⟩ : ∃ W, w12.alloc (.cells #[.int .i64 v.kind, .int .i64 v.num, .string v.text, .slice a11 v.list.length c11, .slice a12 v.fields.length c12] 28) = W := ⟨_, rfl⟩
        obtain ⟨hbox13, q13⟩ := boxed hW13
        have hb1113 := hb12.trans (hbox13.mono hb12.size)
        have hsame := same_any (hl12.below hbox13) (hlv11.below hb1113)
        obtain ⟨x0, x1, x2, x3, x4, xf⟩ := row5 ((hb1113.block _ (lt_of_heap r3)).trans r3)
        obtain ⟨k0, k1, k2, k3, k4, kf⟩ := row5 q13
        have H13 := (show Hid _ from hB11.trans (hb1113.mono hB11.size))
        clear hl12 hB11 r3 hlv11 hbox13 q13 hb1113 hb12 hput y0' y1' y2' y3' y4' yf' s0' s1' s2' s3' s4' sf'
        go_wp2_with fail
        refine hsame.mono ?_
        rintro e w14 ⟨rfl, hb14⟩
        go_wp2_with fail
        go_ret
        exact ⟨rfl, H13.out.trans (hb14.mono H13.out.size)⟩
      · have hbf : bc = false := by simpa using hcb
        have hyv : y = v := by
          rcases h : cutP v (wayOf bs1) with _ | z
          · rw [h] at hy; exact hy.symm
          · rw [h, hbf] at hbc; cases hbc
        have hsame := same_two hyv hly9 hlv9
        have hz : (bh && decide (g.kind = 5)) = false := by rw [← hcond]; exact hbf
        subst hbf
        clear hcb hb78 u7 hB7 q37 q47 q57 q7 hl7 hly7 hlu7 hy hbc hu hbh hst7 hE7 hnx hfit hB4 q4 q34 hl34 hl4 hst4' hE4 hg hcond hwo hlen hb47 hl5 hlt5 hsz45 hsz57 hb79 u9 hb49 hB9 r3 r4 r5 hlv9 hly9 hlu9 hst9 hE9 hyv
        rcases hbb : bh with _ | _
        · go_wp2_with fail
          refine hsame.mono ?_
          rintro e w10 ⟨rfl, hb10⟩
          go_wp2_with fail
          go_ret
          exact ⟨rfl, H9.out.1.trans (hb10.mono H9.out.1.size)⟩
        · have e5 : (g.kind == 5) = false := by rw [hbb] at hz; simpa using hz
          clear hz
          go_wp2_with fail
          refine hsame.mono ?_
          rintro e w10 ⟨rfl, hb10⟩
          go_wp2_with fail
          go_ret
          exact ⟨rfl, H9.out.1.trans (hb10.mono H9.out.1.size)⟩
end Go.Proofs.YtgcccihnlecpnaaGreatDoor
