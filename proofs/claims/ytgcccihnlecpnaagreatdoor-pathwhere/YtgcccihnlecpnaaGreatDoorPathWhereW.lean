/-
  PathWhere's walk. No conditions beyond those stated.
-/
import Derived.Test.YtgcccihnlecpnaaGreatDoorPathWhereP
namespace Go.Proofs.YtgcccihnlecpnaaGreatDoor
open Go.RowKit

set_option maxRecDepth 100000 in
set_option maxHeartbeats 8000000 in
theorem PathWhere_walk (v0 v1 : Value) (bs0 bs1 : List UInt8) (w : World) (hb0 : BytesAt w v0 bs0) (hb1 : BytesAt w v1 bs1) (hE : PEnv w ∧ Tabs w) :
    Calls Tryz.prog 5 #[v0, v1] w fun e w' => e = .returned (.bool true) ∧ Below w.heap.size w w' := by
  obtain ⟨hE, hT⟩ := hE
  have HH := (show Hid _ from And.intro hb0 (And.intro hb1 (And.intro hE hT)))
  have haw := awake_true w hE
  clear hb0 hb1 hE hT
  go_enter Tryz.func5, Tryz.ntmps5
  go_wp2_with fail
  refine haw.mono ?_
  rintro e w1 ⟨rfl, hB1⟩
  obtain ⟨hb0, hb1, hE, hT⟩ := HH.out
  have hof := Of_any v0 bs0 w1 (hb0.below hB1) (hT.below hB1)
  clear hb0 hb1 hE hT haw
  go_wp2_with fail
  refine hof.mono ?_
  rintro e w2 ⟨v, lx, fx, rfl, hnx, hrx, hb2⟩
  obtain ⟨a1, c1, a2, c2, rfl, rfl⟩ := hrx.slices
  have hB2 := hB1.trans (hb2.mono hB1.size)
  obtain ⟨hb0, hb1, hE, hT⟩ := HH.out
  have hway := Way_any v1 bs1 w2 (hb1.below hB2)
  have H2 := (show Hid _ from And.intro hnx (And.intro hrx hB2))
  clear hb0 hb1 hE hT hof hnx hrx hb2 hB1 hB2
  go_wp2_with fail
  refine hway.mono ?_
  rintro e w3 ⟨s, rfl, hst, hb3⟩
  obtain ⟨hnx, hrx, hB2⟩ := H2.out
  obtain ⟨hb0, hb1, hE, hT⟩ := HH.out
  obtain ⟨W3, hW3⟩ : ∃ W, w3.alloc (.cells #[.int .i64 v.kind, .int .i64 v.num, .string v.text, .slice a1 v.list.length c1, .slice a2 v.fields.length c2] 28) = W := ⟨_, rfl⟩
  obtain ⟨hbox3, q3⟩ := boxed hW3
  have hb23 := hb3.trans (hbox3.mono hb3.size)
  have hB3 := hB2.trans (hb23.mono hB2.size)
  have hl3 : Lies 3 W3 v _ _ := (Rep.lies hrx).below hb23
  have hfit := (nice_fit 3 v hnx).le (way_len bs1)
  obtain ⟨x0, x1, x2, x3, x4, xf⟩ := row5 q3
  have hlt3 : w3.heap.size < W3.heap.size := lt_of_heap q3
  have H3 := (show Hid _ from And.intro hB3 (And.intro q3 (And.intro hl3 (And.intro (hst.below hbox3) (And.intro hnx (And.intro (hE.below hB3) hfit))))))
  obtain ⟨sa, sc, rfl, hc1, hc2, -⟩ := hst
  clear hb0 hb1 hE hT hway hnx hrx hb3 hB2 hbox3 q3 hb23 hB3 hl3 hfit
  go_wp2_with fail
  go_region
  obtain ⟨W4, hW4⟩ : ∃ W, (W3.alloc (.cells #[.int .i64 v.kind, .int .i64 v.num, .string v.text, .slice a1 v.list.length c1, .slice a2 v.fields.length c2] 28)).drew = W := ⟨_, rfl⟩
  have hb34 : Below W3.heap.size W3 W4 := by rw [← hW4]; exact ((Below.refl _ _).alloc (Nat.le_refl _) _).drew
  have q4 : W4.heap[W3.heap.size]? = some (.cells #[.int .i64 v.kind, .int .i64 v.num, .string v.text, .slice a1 v.list.length c1, .slice a2 v.fields.length c2] 28) := by rw [← hW4]; exact heap_alloc_new W3 _
  rw [hW4]
  have H4 := (show Hid _ from And.intro hb34 q4)
  clear hb34 q4 hW4
  go_wp2
  go_loopg [7, 9, 10, 11, 29] (wayOf bs1).length (fun gg s7 _ _ _ i wr => ∃ (k m : Nat) (a : V) (al cl af cf : _), k ≤ (wayOf bs1).length ∧ (wayOf bs1).length - k ≤ gg ∧ i = .int .i64 k ∧ s7 = .bool true ∧ Aside (Below W3.heap.size W3 wr ∧ Lies m W3 a (.slice al a.list.length cl) (.slice af a.fields.length cf) ∧ findP v ((wayOf bs1).take k) = some a ∧
    wr.heap[W3.heap.size]? = some (.cells #[.int .i64 a.kind, .int .i64 a.num, .string a.text, .slice al a.list.length cl, .slice af a.fields.length cf] 28 (0, 0))))
  case atStart =>
    obtain ⟨hb34, q4⟩ := H4.out
    obtain ⟨hB3, q3, hl3, hst3, hnx, hE3, hfit⟩ := H3.out
    exact ⟨0, 3, v, _, _, _, _, Nat.zero_le _, by omega, rfl, rfl, hb34, hl3, rfl, q4⟩
  case round =>
    obtain ⟨k, m, a, al, cl, af, cf, hk, hgg, rfl, rfl, A⟩ := hrel
    by_cases hlt : k < (wayOf bs1).length
    · obtain ⟨hBr, hla, hfa, qa⟩ := A.out
      obtain ⟨hB3, q3, hl3, hst3, hnx, hE3, hfit⟩ := H3.out
      obtain ⟨p, hpk⟩ : ∃ p, (wayOf bs1)[k]? = some p := ⟨_, List.getElem?_eq_getElem hlt⟩
      have zk : (k : Int) < ((wayOf bs1).length : Int) := by omega
      have hw4 := way_len bs1
      have zk3 : (k : Int) ≤ 3 := by omega
      have zk0 : (0 : Int) ≤ (k : Int) := by omega
      have hst' := (hst3.below hBr).take (k + 1) (by omega)
      obtain ⟨a', cap', es, -, -, hcs⟩ := hst3
      simp only [Value.slice.injEq, true_and] at es
      obtain ⟨rfl, rfl⟩ := es
      obtain ⟨sb, so, rfl, -⟩ := hcs (by intro e; rw [e] at hlt; simp at hlt)
      have hwi : IntKind.i64.wrap ((k : Int) + 1) = (k : Int) + 1 := by rw [IntKind.wrap_i64]; omega
      have hwi2 : wrap64 ((k : Int) + 1) = (k : Int) + 1 := by unfold wrap64; omega
      have zcap : k + 1 ≤ sc := by omega
      have hslr : ∀ W, (Instr.slice 30 (.slice (some ⟨sb, so, none⟩) (wayOf bs1).length sc) none (some (.int .i64 ((k : Int) + 1))) none).run Tryz.prog W = .ok (.slice (some ⟨sb, so, none⟩) (k + 1) sc) W := by
        intro W
        obtain ⟨K, hK⟩ : ∃ K : Int, (k : Int) + 1 = K := ⟨_, rfl⟩
        have h0 : 0 ≤ K := by omega
        have h1 : K ≤ (sc : Int) := by omega
        have h2 : K.toNat = k + 1 := by omega
        rw [hK]
        clear hK
        go_simp
      have hdw : Below wr.heap.size wr wr.drew := (Below.refl _ _).drew
      have hlg0 := fun W (hW : Below wr.heap.size wr W) => LFind_from 3 ((wayOf bs1).take (k + 1)) _ v _ _ W3 W (hBr.trans (hW.mono hBr.size)) (hst'.below hW) hl3 ((nice_ten 3 v hnx).le (by rw [List.length_take]; omega))
      have hda : ∀ o, Below wr.heap.size wr (wr.drew.alloc o) := fun o => hdw.alloc (Nat.le_refl _) o
      simp only [find_take hfa hpk] at hlg0
      obtain ⟨x0, x1, x2, x3, x4, xf⟩ := row5 ((hBr.block _ (lt_of_heap q3)).trans q3)
      obtain ⟨y0, y1, y2, y3, y4, yf⟩ := row5 qa
      have hlta := lt_of_heap qa
      have hlt3r : w3.heap.size < wr.heap.size := by have := hBr.size; omega
      have HP := (show Hid _ from And.intro hpk hfa)
      clear hBr hla hfa qa hB3 q3 hl3 hnx hE3 hfit hst' hcs hpk
      rcases hat : atP a p with _ | y
      · rw [hat] at hlg0
        have hlg : ∀ W, Below wr.heap.size wr W → Calls Tryz.prog 11 #[.agg #[.int .i64 v.kind, .int .i64 v.num, .string v.text, .slice a1 v.list.length c1, .slice a2 v.fields.length c2], .slice (some ⟨sb, so, none⟩) (k + 1) sc] W fun e w' => ∃ l' f' m', e = .returned (.tuple #[.agg #[.int .i64 0, .int .i64 0, .string ⟨#[]⟩, l', f'], .bool false]) ∧ Lies m' W3 zeroV l' f' ∧ Below W.heap.size W w' := hlg0
        have hmay0 := may_stop HP.out.2 HP.out.1 hat
        have HM := (show Hid _ from hmay0)
        clear hlg0 hat hmay0
        go_wp2_with fail
        go_region_with (go_at_call 11; first | (refine (hlg _ hdw).mono ?_; rintro e w8 ⟨l8, f8, m8, rfl, hl8, hb8⟩; obtain ⟨z1, d1, z3, d3, e1, e2⟩ := Rep.slices hl8; have e1' : l8 = .slice z1 0 d1 := e1; have e2' : f8 = .slice z3 0 d3 := e2; subst e1' e2'; clear e1 e2; have hb8' := (hdw).trans (hb8.mono (hdw).size); have H8 := (show Hid _ from And.intro hb8' hl8); clear hb8 hb8' hl8) | (refine (hlg _ (hda _)).mono ?_; rintro e w8 ⟨l8, f8, m8, rfl, hl8, hb8⟩; obtain ⟨z1, d1, z3, d3, e1, e2⟩ := Rep.slices hl8; have e1' : l8 = .slice z1 0 d1 := e1; have e2' : f8 = .slice z3 0 d3 := e2; subst e1' e2'; clear e1 e2; have hb8' := ((hda _)).trans (hb8.mono ((hda _)).size); have qz : w8.heap[wr.heap.size]? = some (.cells #[.int .i64 0, .int .i64 0, .string ⟨#[]⟩, .slice none 0 0, .slice none 0 0] 28 (0, 0)) := row_below hb8 (heap_alloc_new wr.drew _); obtain ⟨j0, j1, j2, j3, j4, jf⟩ := row5 qz; have HZ := (show Hid _ from qz); clear qz; have H8 := (show Hid _ from And.intro hb8' hl8); clear hb8 hb8' hl8))
        all_goals
          first
            | (obtain ⟨W9, hW9⟩ : ∃ W, w8.alloc (.cells #[.int .i64 0, .int .i64 0, .string ⟨#[]⟩, .slice z1 0 d1, .slice z3 0 d3] 28) = W := ⟨_, rfl⟩; rw [hW9]; have hb9 : Below wr.heap.size wr W9 := (by rw [← hW9]; exact H8.out.1.alloc H8.out.1.size _))
            | (obtain ⟨W9, hW9⟩ : ∃ W, ((((w8.setCell ⟨wr.heap.size, 0, none⟩ (.int .i64 0)).setCell ⟨wr.heap.size, 1, none⟩ (.int .i64 0)).setCell ⟨wr.heap.size, 2, none⟩ (.string ⟨#[]⟩)).setCell ⟨wr.heap.size, 3, none⟩ (.slice z1 0 d1)).setCell ⟨wr.heap.size, 4, none⟩ (.slice z3 0 d3) = W := ⟨_, rfl⟩; rw [hW9]; have hb9 : Below wr.heap.size wr W9 := (by rw [← hW9]; exact set5W_below H8.out.1 (Nat.le_refl _) 0 1 2 3 4 _ _ _ _ _))
          obtain ⟨hBr, hla, hfa, qa⟩ := A.out
          have hb39 := hBr.trans (hb9.mono hBr.size)
          have HB9 := (show Hid _ from hb39)
          obtain ⟨y0, y1, y2, y3, y4, yf⟩ := row5 ((hb9.block _ (lt_of_heap qa)).trans qa)
          clear hBr hla hfa qa hb39 hb9 hW9 hlg hdw hda
          by_cases hk5 : a.kind = 5
          · have e5 : (a.kind == 5) = true := by simpa using hk5
            have HMAY := (show Hid (mayP v (wayOf bs1) = true) from HM.out.trans (decide_eq_true hk5))
            obtain ⟨hB3, q3, hl3, hst3, hnx, hE3, hfit⟩ := H3.out
            obtain ⟨y, hpy⟩ : ∃ y, putP v (wayOf bs1) zeroV = some y := by
              have := put_may (wayOf bs1) v zeroV
              rw [HMAY.out] at this
              exact Option.isSome_iff_exists.1 this
            have hput := Put6_any 3 0 4 (wayOf bs1) _ v zeroV _ _ (.slice none 0 0) (.slice none 0 0) W9 (hE3.below HB9.out) (way_size bs1) (by have := way_len bs1; omega) (hst3.below HB9.out) (hl3.below HB9.out) ⟨rfl, rfl, rfl, rfl⟩ hfit (by omega)
            rw [hpy] at hput
            have HPY := (show Hid _ from hpy)
            clear hpy
            simp only [zeroV] at hput
            obtain ⟨x0, x1, x2, x3, x4, xf⟩ := row5 ((HB9.out.block _ (lt_of_heap q3)).trans q3)
            clear hB3 q3 hl3 hst3 hnx hE3 hfit
            go_wp2_with fail
            refine hput.mono ?_
            rintro e w6 ⟨hb6, ly, fy, m6, rfl, hly⟩
            obtain ⟨a5, c5, a6, c6, rfl, rfl⟩ := Rep.slices hly
            obtain ⟨hB3, q3, hl3, hst3, hnx, hE3, hfit⟩ := H3.out
            obtain ⟨W6, hW6⟩ : ∃ W, w6.alloc (.cells #[.int .i64 y.kind, .int .i64 y.num, .string y.text, .slice a5 y.list.length c5, .slice a6 y.fields.length c6] 28) = W := ⟨_, rfl⟩
            obtain ⟨hbox6, q6⟩ := boxed hW6
            have hb36 := HB9.out.trans ((hb6.trans (hbox6.mono hb6.size)).mono HB9.out.size)
            obtain ⟨x0, x1, x2, x3, x4, xf⟩ := row5 ((hb36.block _ (lt_of_heap q3)).trans q3)
            have H6 := (show Hid _ from And.intro hb36 (And.intro q6 (hly.below hbox6)))
            rcases hfn : findP v (wayOf bs1) with _ | x
            · have hlft := LFind_any 3 (wayOf bs1) _ v _ _ (W6) (hst3.below hb36) (hl3.below hb36) ((nice_ten 3 v hnx).le (by have := way_len bs1; omega))
              rw [hfn] at hlft
              have hlgt : Calls Tryz.prog 11 #[.agg #[.int .i64 v.kind, .int .i64 v.num, .string v.text, .slice a1 v.list.length c1, .slice a2 v.fields.length c2], .slice (some ⟨sb, so, none⟩) (wayOf bs1).length sc] (W6) fun e w' => ∃ l' f' m', e = .returned (.tuple #[.agg #[.int .i64 0, .int .i64 0, .string ⟨#[]⟩, l', f'], .bool false]) ∧ Lies m' (W6) zeroV l' f' ∧ Below (W6).heap.size (W6) w' := hlft
              have HNt := (show Hid _ from hB3.trans ((hb36).mono hB3.size))
              clear hfn hlft hput hb6 hly hbox6 q6 hb36
              clear hB3 q3 hl3 hst3 hnx hE3 hfit
              go_wp2_with fail
              refine hlgt.mono ?_
              rintro e wf ⟨lf', ff', mf', rfl, hlf'', hbf⟩
              obtain ⟨z1f, d1f, z3f, d3f, e1f, e2f⟩ := Rep.slices hlf''
              have e1f' : lf' = .slice z1f 0 d1f := e1f
              have e2f' : ff' = .slice z3f 0 d3f := e2f
              subst e1f' e2f'
              have hBf := HNt.out.trans (hbf.mono HNt.out.size)
              clear hlf'' e1f e2f hbf hlgt
              go_wp2_with fail
              go_ret
              exact ⟨rfl, hBf.alloc hBf.size _⟩
            · have hlf2 := LFind_any 3 (wayOf bs1) _ v _ _ W6 (hst3.below hb36) (hl3.below hb36) ((nice_ten 3 v hnx).le (by have := way_len bs1; omega))
              rw [hfn] at hlf2
              have hlg2 : Calls Tryz.prog 11 #[.agg #[.int .i64 v.kind, .int .i64 v.num, .string v.text, .slice a1 v.list.length c1, .slice a2 v.fields.length c2], .slice (some ⟨sb, so, none⟩) (wayOf bs1).length sc] W6 fun e w' => ∃ l' f' m', e = .returned (.tuple #[.agg #[.int .i64 x.kind, .int .i64 x.num, .string x.text, l', f'], .bool true]) ∧ Lies m' W6 x l' f' ∧ Below W6.heap.size W6 w' := hlf2
              have HFN := (show Hid _ from hfn)
              clear hfn hlf2 hput hb6 hly hbox6 q6 hb36
              clear hB3 q3 hl3 hst3 hnx hE3 hfit
              go_wp2_with fail
              refine hlg2.mono ?_
              rintro e w7 ⟨l7, f7, m7, rfl, hlx, hb7⟩
              obtain ⟨a7, c7, a8, c8, rfl, rfl⟩ := Rep.slices hlx
              obtain ⟨hB3, q3, hl3, hst3, hnx, hE3, hfit⟩ := H3.out
              obtain ⟨hb36, q6, hly⟩ := H6.out
              obtain ⟨W7, hW7⟩ : ∃ W, w7.alloc (.cells #[.int .i64 x.kind, .int .i64 x.num, .string x.text, .slice a7 x.list.length c7, .slice a8 x.fields.length c8] 28) = W := ⟨_, rfl⟩
              obtain ⟨hbox7, q7⟩ := boxed hW7
              have hb67 := hb7.trans (hbox7.mono hb7.size)
              have hb37 := hb36.trans (hb67.mono hb36.size)
              have hput2 := Put6_any 3 m7 4 (wayOf bs1) _ v x _ _ _ _ W7 (hE3.below hb37) (way_size bs1) (by have := way_len bs1; omega) (hst3.below hb37) (hl3.below hb37) (hlx.below hb67) hfit (by omega)
              rw [put_same (wayOf bs1) 4 v x (way_len bs1) (Nice.up 3 v hnx) HFN.out] at hput2
              obtain ⟨x0, x1, x2, x3, x4, xf⟩ := row5 ((hb37.block _ (lt_of_heap q3)).trans q3)
              obtain ⟨s0, s1, s2, s3, s4, sf⟩ := row5 q7
              have H7 := (show Hid _ from And.intro hb37 (And.intro ((hb67.block _ (lt_of_heap q6)).trans q6) (And.intro (hly.below hb67) (And.intro q7 (hlx.below hb67)))))
              clear hlg2 hlx hb7 hb36 q6 hly hbox7 q7 hb67 hb37
              clear hB3 q3 hl3 hst3 hnx hE3 hfit
              go_wp2_with fail
              refine hput2.mono ?_
              rintro e w8 ⟨hb8, l8, f8, m8, rfl, hl8⟩
              obtain ⟨a9, c9, a10, c10, rfl, rfl⟩ := Rep.slices hl8
              obtain ⟨hB3, q3, hl3, hst3, hnx, hE3, hfit⟩ := H3.out
              obtain ⟨hb37, q6, hly, q7, hlx⟩ := H7.out
              obtain ⟨W8, hW8⟩ : ∃ W, w8.alloc (.cells #[.int .i64 v.kind, .int .i64 v.num, .string v.text, .slice a9 v.list.length c9, .slice a10 v.fields.length c10] 28) = W := ⟨_, rfl⟩
              obtain ⟨hbox8, q8⟩ := boxed hW8
              have hb78 := hb8.trans (hbox8.mono hb8.size)
              have hb38 := hb37.trans (hb78.mono hb37.size)
              have hput3 := Put6_any m6 m7 5 (wayOf bs1) _ y x _ _ _ _ W8 (hE3.below hb38) (way_size bs1) (by have := way_len bs1; omega) (hst3.below hb38) (hly.below hb78) (hlx.below hb78) (fit_put (wayOf bs1) v zeroV y HPY.out hfit) (by omega)
              rw [put_back (wayOf bs1) 4 v zeroV x y (way_len bs1) (Nice.up 3 v hnx) HFN.out HPY.out] at hput3
              obtain ⟨y0, y1, y2, y3, y4, yf⟩ := row5 ((hb78.block _ (lt_of_heap q6)).trans q6)
              obtain ⟨s0, s1, s2, s3, s4, sf⟩ := row5 ((hb78.block _ (lt_of_heap q7)).trans q7)
              have H8 := (show Hid _ from And.intro hb38 (And.intro q8 (hl8.below hbox8)))
              clear hput2 hl8 hb8 hb37 q6 hly q7 hlx hbox8 q8 hb78 hb38 x0 x1 x2 x3 x4 xf
              clear hB3 q3 hl3 hst3 hnx hE3 hfit
              go_wp2_with fail
              refine hput3.mono ?_
              rintro e w9 ⟨hb9, l9, f9, m9, rfl, hl9⟩
              obtain ⟨a11, c11, a12, c12, rfl, rfl⟩ := Rep.slices hl9
              obtain ⟨hB3, q3, hl3, hst3, hnx, hE3, hfit⟩ := H3.out
              obtain ⟨hb38, q8, hl8⟩ := H8.out
              obtain ⟨W9, hW9⟩ : ∃ W, w9.alloc (.cells #[.int .i64 v.kind, .int .i64 v.num, .string v.text, .slice a11 v.list.length c11, .slice a12 v.fields.length c12] 28) = W := ⟨_, rfl⟩
              obtain ⟨hbox9, q9⟩ := boxed hW9
              have hb89 := hb9.trans (hbox9.mono hb9.size)
              have hb39 := hb38.trans (hb89.mono hb38.size)
              have hsame := same_any (hl8.below hb89) (hl3.below hb39)
              have hsame2 := fun W (hW : Below W9.heap.size W9 W) => same_any ((hl9.below hbox9).below hW) ((hl3.below hb39).below hW)
              obtain ⟨x0, x1, x2, x3, x4, xf⟩ := row5 ((hb39.block _ (lt_of_heap q3)).trans q3)
              obtain ⟨z0, z1, z2, z3, z4, zf⟩ := row5 ((hb89.block _ (lt_of_heap q8)).trans q8)
              have H9 := (show Hid _ from And.intro (hB3.trans (hb39.mono hB3.size)) (And.intro q9 ((hb39.block _ (lt_of_heap q3)).trans q3)))
              clear hput3 hl9 hb9 hb38 q8 hl8 hbox9 q9 hb89 hb39
              clear hB3 q3 hl3 hst3 hnx hE3 hfit
              go_wp2_with fail
              refine hsame.mono ?_
              rintro e w10 ⟨rfl, hb10⟩
              have hs2 := hsame2 w10 hb10
              obtain ⟨hB9, q9, q3⟩ := H9.out
              obtain ⟨x0, x1, x2, x3, x4, xf⟩ := row5 ((hb10.block _ (lt_of_heap q3)).trans q3)
              obtain ⟨k0, k1, k2, k3, k4, kf⟩ := row5 ((hb10.block _ (lt_of_heap q9)).trans q9)
              have H10 := (show Hid _ from hB9.trans (hb10.mono hB9.size))
              clear hsame hsame2 hB9 q9 q3 hb10
              go_wp2_with fail
              refine hs2.mono ?_
              rintro e w11 ⟨rfl, hb11⟩
              go_wp2_with fail
              go_ret
              exact ⟨rfl, H10.out.trans (hb11.mono H10.out.size)⟩
          · have e5 : (a.kind == 5) = false := by simpa using hk5
            have HMAY := (show Hid (mayP v (wayOf bs1) = false) from HM.out.trans (decide_eq_false hk5))
            obtain ⟨hB3, q3, hl3, hst3, hnx, hE3, hfit⟩ := H3.out
            have hfn : findP v (wayOf bs1) = none := by
              rcases h : findP v (wayOf bs1) with _ | x
              · rfl
              · have := may_find h; rw [HMAY.out] at this; cases this
            have hpn : putP v (wayOf bs1) zeroV = none := by
              have := put_may (wayOf bs1) v zeroV
              rw [HMAY.out] at this
              rcases h : putP v (wayOf bs1) zeroV with _ | x
              · rfl
              · rw [h] at this; cases this
            have hput := Put6_any 3 0 4 (wayOf bs1) _ v zeroV _ _ (.slice none 0 0) (.slice none 0 0) W9 (hE3.below HB9.out) (way_size bs1) (by have := way_len bs1; omega) (hst3.below HB9.out) (hl3.below HB9.out) ⟨rfl, rfl, rfl, rfl⟩ hfit (by omega)
            rw [hpn] at hput
            simp only [zeroV] at hput
            obtain ⟨x0, x1, x2, x3, x4, xf⟩ := row5 ((HB9.out.block _ (lt_of_heap q3)).trans q3)
            have HFN := (show Hid _ from hfn)
            clear hfn hpn
            clear hB3 q3 hl3 hst3 hnx hE3 hfit
            go_wp2_with fail
            refine hput.mono ?_
            rintro e w6 ⟨hb6, ue, ze, rfl, hflt⟩
            obtain ⟨hB3, q3, hl3, hst3, hnx, hE3, hfit⟩ := H3.out
            have hfn := HFN.out
            have hb36 := HB9.out.trans (hb6.mono HB9.out.size)
            have hb36z : Below W3.heap.size W3 (w6.alloc (.cells #[.int .i64 0, .int .i64 0, .string ⟨#[]⟩, .slice none 0 0, .slice none 0 0] 28)) := hb36.alloc hb36.size _
            obtain ⟨x0, x1, x2, x3, x4, xf⟩ := row5 ((hb36.block _ (lt_of_heap q3)).trans q3)
            obtain ⟨x0', x1', x2', x3', x4', xf'⟩ := row5 ((hb36z.block _ (lt_of_heap q3)).trans q3)
            have hlt36 : w3.heap.size < w6.heap.size := by have := hb36.size; omega
            have hlfn := LFind_any 3 (wayOf bs1) _ v _ _ (w6.alloc (.cells #[.int .i64 0, .int .i64 0, .string ⟨#[]⟩, .slice none 0 0, .slice none 0 0] 28)) (hst3.below hb36z) (hl3.below hb36z) ((nice_ten 3 v hnx).le (by have := way_len bs1; omega))
            rw [hfn] at hlfn
            have hlgn : Calls Tryz.prog 11 #[.agg #[.int .i64 v.kind, .int .i64 v.num, .string v.text, .slice a1 v.list.length c1, .slice a2 v.fields.length c2], .slice (some ⟨sb, so, none⟩) (wayOf bs1).length sc] (w6.alloc (.cells #[.int .i64 0, .int .i64 0, .string ⟨#[]⟩, .slice none 0 0, .slice none 0 0] 28)) fun e w' => ∃ l' f' m', e = .returned (.tuple #[.agg #[.int .i64 0, .int .i64 0, .string ⟨#[]⟩, l', f'], .bool false]) ∧ Lies m' (w6.alloc (.cells #[.int .i64 0, .int .i64 0, .string ⟨#[]⟩, .slice none 0 0, .slice none 0 0] 28)) zeroV l' f' ∧ Below (w6.alloc (.cells #[.int .i64 0, .int .i64 0, .string ⟨#[]⟩, .slice none 0 0, .slice none 0 0] 28)).heap.size (w6.alloc (.cells #[.int .i64 0, .int .i64 0, .string ⟨#[]⟩, .slice none 0 0, .slice none 0 0] 28)) w' := hlfn
            have HNn := (show Hid _ from hB3.trans ((hb36z).mono hB3.size))
            clear hfn hlfn hput hb6 hflt hb36 hb36z
            clear hB3 q3 hl3 hst3 hnx hE3 hfit
            go_wp2_with fail
            refine hlgn.mono ?_
            rintro e wf ⟨lf', ff', mf', rfl, hlf'', hbf⟩
            obtain ⟨z1f, d1f, z3f, d3f, e1f, e2f⟩ := Rep.slices hlf''
            have e1f' : lf' = .slice z1f 0 d1f := e1f
            have e2f' : ff' = .slice z3f 0 d3f := e2f
            subst e1f' e2f'
            have hBf := HNn.out.trans (hbf.mono HNn.out.size)
            clear hlf'' e1f e2f hbf hlgn
            go_wp2_with fail
            go_ret
            exact ⟨rfl, hBf.alloc hBf.size _⟩
      · rw [hat] at hlg0
        have hlg : ∀ W, Below wr.heap.size wr W → Calls Tryz.prog 11 #[.agg #[.int .i64 v.kind, .int .i64 v.num, .string v.text, .slice a1 v.list.length c1, .slice a2 v.fields.length c2], .slice (some ⟨sb, so, none⟩) (k + 1) sc] W fun e w' => ∃ l' f' m', e = .returned (.tuple #[.agg #[.int .i64 y.kind, .int .i64 y.num, .string y.text, l', f'], .bool true]) ∧ Lies m' W3 y l' f' ∧ Below W.heap.size W w' := hlg0
        have HAT := (show Hid _ from (find_take HP.out.2 HP.out.1).trans hat)
        clear hlg0 hat
        go_wp2_with fail
        go_region_with (go_at_call 11; first | (refine (hlg _ hdw).mono ?_; rintro e w8 ⟨l8, f8, m8, rfl, hl8, hb8⟩; obtain ⟨z1, d1, z3, d3, rfl, rfl⟩ := Rep.slices hl8; have hb8' := (hdw).trans (hb8.mono (hdw).size); have H8 := (show Hid _ from And.intro hb8' hl8); clear hb8 hb8' hl8) | (refine (hlg _ (hda _)).mono ?_; rintro e w8 ⟨l8, f8, m8, rfl, hl8, hb8⟩; obtain ⟨z1, d1, z3, d3, rfl, rfl⟩ := Rep.slices hl8; have hb8' := ((hda _)).trans (hb8.mono ((hda _)).size); have qz : w8.heap[wr.heap.size]? = some (.cells #[.int .i64 0, .int .i64 0, .string ⟨#[]⟩, .slice none 0 0, .slice none 0 0] 28 (0, 0)) := row_below hb8 (heap_alloc_new wr.drew _); obtain ⟨j0, j1, j2, j3, j4, jf⟩ := row5 qz; have HZ := (show Hid _ from qz); clear qz; have H8 := (show Hid _ from And.intro hb8' hl8); clear hb8 hb8' hl8))
        all_goals
          first
            | (obtain ⟨W9, hW9⟩ : ∃ W, w8.alloc (.cells #[.int .i64 y.kind, .int .i64 y.num, .string y.text, .slice z1 y.list.length d1, .slice z3 y.fields.length d3] 28) = W := ⟨_, rfl⟩; rw [hW9]; have hb9 : Below wr.heap.size wr W9 := (by rw [← hW9]; exact H8.out.1.alloc H8.out.1.size _); have qx : W9.heap[w8.heap.size]? = some (.cells #[.int .i64 y.kind, .int .i64 y.num, .string y.text, .slice z1 y.list.length d1, .slice z3 y.fields.length d3] 28) := (by rw [← hW9]; exact heap_alloc_new w8 _))
            | (obtain ⟨W9, hW9⟩ : ∃ W, ((((w8.setCell ⟨wr.heap.size, 0, none⟩ (.int .i64 y.kind)).setCell ⟨wr.heap.size, 1, none⟩ (.int .i64 y.num)).setCell ⟨wr.heap.size, 2, none⟩ (.string y.text)).setCell ⟨wr.heap.size, 3, none⟩ (.slice z1 y.list.length d1)).setCell ⟨wr.heap.size, 4, none⟩ (.slice z3 y.fields.length d3) = W := ⟨_, rfl⟩; rw [hW9]; have hb9 : Below wr.heap.size wr W9 := (by rw [← hW9]; exact set5W_below H8.out.1 (Nat.le_refl _) 0 1 2 3 4 _ _ _ _ _); have qx : W9.heap[wr.heap.size]? = some (.cells #[.int .i64 y.kind, .int .i64 y.num, .string y.text, .slice z1 y.list.length d1, .slice z3 y.fields.length d3] 28 (0, 0)) := (by rw [← hW9]; exact box_set HZ.out _ _ _ _ _))
          obtain ⟨hBr, hla, hfa, qa⟩ := A.out
          have hb39 := hBr.trans (hb9.mono hBr.size)
          have qa9 := (hb9.block _ (lt_of_heap qa)).trans qa
          obtain ⟨y0, y1, y2, y3, y4, yf⟩ := row5 qa9
          obtain ⟨t0, t1, t2, t3, t4, tf⟩ := row5 qx
          have HR := (show Hid _ from And.intro hb39 qa9)
          clear hBr hla hfa qa hb39 hb9 hW9 hlg hdw hda qa9 qx
          go_wp2
          go_roundg ((wayOf bs1).length - (k + 1))
          case measure => omega
          case rel =>
            refine ⟨k + 1, m8, y, z1, d1, z3, d3, by omega, by omega, by go_num, rfl, (show Aside _ from ⟨set5W_below HR.out.1 (Nat.le_refl _) 0 1 2 3 4 _ _ _ _ _, H8.out.2, HAT.out, box_set HR.out.2 _ _ _ _ _⟩)⟩
    · have zk : ¬ (k : Int) < ((wayOf bs1).length : Int) := by omega
      obtain ⟨hBr, hla, hfa, qa⟩ := A.out
      have HMAY := (show Hid (mayP v (wayOf bs1) = true) from may_end (by omega) hfa)
      have HB9 := (show Hid _ from hBr)
      clear hBr hla hfa qa
      obtain ⟨hB3, q3, hl3, hst3, hnx, hE3, hfit⟩ := H3.out
      obtain ⟨y, hpy⟩ : ∃ y, putP v (wayOf bs1) zeroV = some y := by
        have := put_may (wayOf bs1) v zeroV
        rw [HMAY.out] at this
        exact Option.isSome_iff_exists.1 this
      have hput := Put6_any 3 0 4 (wayOf bs1) _ v zeroV _ _ (.slice none 0 0) (.slice none 0 0) wr (hE3.below HB9.out) (way_size bs1) (by have := way_len bs1; omega) (hst3.below HB9.out) (hl3.below HB9.out) ⟨rfl, rfl, rfl, rfl⟩ hfit (by omega)
      rw [hpy] at hput
      have HPY := (show Hid _ from hpy)
      clear hpy
      simp only [zeroV] at hput
      obtain ⟨x0, x1, x2, x3, x4, xf⟩ := row5 ((HB9.out.block _ (lt_of_heap q3)).trans q3)
      clear hB3 q3 hl3 hst3 hnx hE3 hfit
      go_wp2_with fail
      refine hput.mono ?_
      rintro e w6 ⟨hb6, ly, fy, m6, rfl, hly⟩
      obtain ⟨a5, c5, a6, c6, rfl, rfl⟩ := Rep.slices hly
      obtain ⟨hB3, q3, hl3, hst3, hnx, hE3, hfit⟩ := H3.out
      obtain ⟨W6, hW6⟩ : ∃ W, w6.alloc (.cells #[.int .i64 y.kind, .int .i64 y.num, .string y.text, .slice a5 y.list.length c5, .slice a6 y.fields.length c6] 28) = W := ⟨_, rfl⟩
      obtain ⟨hbox6, q6⟩ := boxed hW6
      have hb36 := HB9.out.trans ((hb6.trans (hbox6.mono hb6.size)).mono HB9.out.size)
      obtain ⟨x0, x1, x2, x3, x4, xf⟩ := row5 ((hb36.block _ (lt_of_heap q3)).trans q3)
      have H6 := (show Hid _ from And.intro hb36 (And.intro q6 (hly.below hbox6)))
      rcases hfn : findP v (wayOf bs1) with _ | x
      · have hlft := LFind_any 3 (wayOf bs1) _ v _ _ (W6) (hst3.below hb36) (hl3.below hb36) ((nice_ten 3 v hnx).le (by have := way_len bs1; omega))
        rw [hfn] at hlft
        have hlgt : Calls Tryz.prog 11 #[.agg #[.int .i64 v.kind, .int .i64 v.num, .string v.text, .slice a1 v.list.length c1, .slice a2 v.fields.length c2], .slice sa (wayOf bs1).length sc] (W6) fun e w' => ∃ l' f' m', e = .returned (.tuple #[.agg #[.int .i64 0, .int .i64 0, .string ⟨#[]⟩, l', f'], .bool false]) ∧ Lies m' (W6) zeroV l' f' ∧ Below (W6).heap.size (W6) w' := hlft
        have HNt := (show Hid _ from hB3.trans ((hb36).mono hB3.size))
        clear hfn hlft hput hb6 hly hbox6 q6 hb36
        clear hB3 q3 hl3 hst3 hnx hE3 hfit
        go_wp2_with fail
        refine hlgt.mono ?_
        rintro e wf ⟨lf', ff', mf', rfl, hlf'', hbf⟩
        obtain ⟨z1f, d1f, z3f, d3f, e1f, e2f⟩ := Rep.slices hlf''
        have e1f' : lf' = .slice z1f 0 d1f := e1f
        have e2f' : ff' = .slice z3f 0 d3f := e2f
        subst e1f' e2f'
        have hBf := HNt.out.trans (hbf.mono HNt.out.size)
        clear hlf'' e1f e2f hbf hlgt
        go_wp2_with fail
        go_ret
        exact ⟨rfl, hBf.alloc hBf.size _⟩
      · have hlf2 := LFind_any 3 (wayOf bs1) _ v _ _ W6 (hst3.below hb36) (hl3.below hb36) ((nice_ten 3 v hnx).le (by have := way_len bs1; omega))
        rw [hfn] at hlf2
        have hlg2 : Calls Tryz.prog 11 #[.agg #[.int .i64 v.kind, .int .i64 v.num, .string v.text, .slice a1 v.list.length c1, .slice a2 v.fields.length c2], .slice sa (wayOf bs1).length sc] W6 fun e w' => ∃ l' f' m', e = .returned (.tuple #[.agg #[.int .i64 x.kind, .int .i64 x.num, .string x.text, l', f'], .bool true]) ∧ Lies m' W6 x l' f' ∧ Below W6.heap.size W6 w' := hlf2
        have HFN := (show Hid _ from hfn)
        clear hfn hlf2 hput hb6 hly hbox6 q6 hb36
        clear hB3 q3 hl3 hst3 hnx hE3 hfit
        go_wp2_with fail
        refine hlg2.mono ?_
        rintro e w7 ⟨l7, f7, m7, rfl, hlx, hb7⟩
        obtain ⟨a7, c7, a8, c8, rfl, rfl⟩ := Rep.slices hlx
        obtain ⟨hB3, q3, hl3, hst3, hnx, hE3, hfit⟩ := H3.out
        obtain ⟨hb36, q6, hly⟩ := H6.out
        obtain ⟨W7, hW7⟩ : ∃ W, w7.alloc (.cells #[.int .i64 x.kind, .int .i64 x.num, .string x.text, .slice a7 x.list.length c7, .slice a8 x.fields.length c8] 28) = W := ⟨_, rfl⟩
        obtain ⟨hbox7, q7⟩ := boxed hW7
        have hb67 := hb7.trans (hbox7.mono hb7.size)
        have hb37 := hb36.trans (hb67.mono hb36.size)
        have hput2 := Put6_any 3 m7 4 (wayOf bs1) _ v x _ _ _ _ W7 (hE3.below hb37) (way_size bs1) (by have := way_len bs1; omega) (hst3.below hb37) (hl3.below hb37) (hlx.below hb67) hfit (by omega)
        rw [put_same (wayOf bs1) 4 v x (way_len bs1) (Nice.up 3 v hnx) HFN.out] at hput2
        obtain ⟨x0, x1, x2, x3, x4, xf⟩ := row5 ((hb37.block _ (lt_of_heap q3)).trans q3)
        obtain ⟨s0, s1, s2, s3, s4, sf⟩ := row5 q7
        have H7 := (show Hid _ from And.intro hb37 (And.intro ((hb67.block _ (lt_of_heap q6)).trans q6) (And.intro (hly.below hb67) (And.intro q7 (hlx.below hb67)))))
        clear hlg2 hlx hb7 hb36 q6 hly hbox7 q7 hb67 hb37
        clear hB3 q3 hl3 hst3 hnx hE3 hfit
        go_wp2_with fail
        refine hput2.mono ?_
        rintro e w8 ⟨hb8, l8, f8, m8, rfl, hl8⟩
        obtain ⟨a9, c9, a10, c10, rfl, rfl⟩ := Rep.slices hl8
        obtain ⟨hB3, q3, hl3, hst3, hnx, hE3, hfit⟩ := H3.out
        obtain ⟨hb37, q6, hly, q7, hlx⟩ := H7.out
        obtain ⟨W8, hW8⟩ : ∃ W, w8.alloc (.cells #[.int .i64 v.kind, .int .i64 v.num, .string v.text, .slice a9 v.list.length c9, .slice a10 v.fields.length c10] 28) = W := ⟨_, rfl⟩
        obtain ⟨hbox8, q8⟩ := boxed hW8
        have hb78 := hb8.trans (hbox8.mono hb8.size)
        have hb38 := hb37.trans (hb78.mono hb37.size)
        have hput3 := Put6_any m6 m7 5 (wayOf bs1) _ y x _ _ _ _ W8 (hE3.below hb38) (way_size bs1) (by have := way_len bs1; omega) (hst3.below hb38) (hly.below hb78) (hlx.below hb78) (fit_put (wayOf bs1) v zeroV y HPY.out hfit) (by omega)
        rw [put_back (wayOf bs1) 4 v zeroV x y (way_len bs1) (Nice.up 3 v hnx) HFN.out HPY.out] at hput3
        obtain ⟨y0, y1, y2, y3, y4, yf⟩ := row5 ((hb78.block _ (lt_of_heap q6)).trans q6)
        obtain ⟨s0, s1, s2, s3, s4, sf⟩ := row5 ((hb78.block _ (lt_of_heap q7)).trans q7)
        have H8 := (show Hid _ from And.intro hb38 (And.intro q8 (hl8.below hbox8)))
        clear hput2 hl8 hb8 hb37 q6 hly q7 hlx hbox8 q8 hb78 hb38 x0 x1 x2 x3 x4 xf
        clear hB3 q3 hl3 hst3 hnx hE3 hfit
        go_wp2_with fail
        refine hput3.mono ?_
        rintro e w9 ⟨hb9, l9, f9, m9, rfl, hl9⟩
        obtain ⟨a11, c11, a12, c12, rfl, rfl⟩ := Rep.slices hl9
        obtain ⟨hB3, q3, hl3, hst3, hnx, hE3, hfit⟩ := H3.out
        obtain ⟨hb38, q8, hl8⟩ := H8.out
        obtain ⟨W9, hW9⟩ : ∃ W, w9.alloc (.cells #[.int .i64 v.kind, .int .i64 v.num, .string v.text, .slice a11 v.list.length c11, .slice a12 v.fields.length c12] 28) = W := ⟨_, rfl⟩
        obtain ⟨hbox9, q9⟩ := boxed hW9
        have hb89 := hb9.trans (hbox9.mono hb9.size)
        have hb39 := hb38.trans (hb89.mono hb38.size)
        have hsame := same_any (hl8.below hb89) (hl3.below hb39)
        have hsame2 := fun W (hW : Below W9.heap.size W9 W) => same_any ((hl9.below hbox9).below hW) ((hl3.below hb39).below hW)
        obtain ⟨x0, x1, x2, x3, x4, xf⟩ := row5 ((hb39.block _ (lt_of_heap q3)).trans q3)
        obtain ⟨z0, z1, z2, z3, z4, zf⟩ := row5 ((hb89.block _ (lt_of_heap q8)).trans q8)
        have H9 := (show Hid _ from And.intro (hB3.trans (hb39.mono hB3.size)) (And.intro q9 ((hb39.block _ (lt_of_heap q3)).trans q3)))
        clear hput3 hl9 hb9 hb38 q8 hl8 hbox9 q9 hb89 hb39
        clear hB3 q3 hl3 hst3 hnx hE3 hfit
        go_wp2_with fail
        refine hsame.mono ?_
        rintro e w10 ⟨rfl, hb10⟩
        have hs2 := hsame2 w10 hb10
        obtain ⟨hB9, q9, q3⟩ := H9.out
        obtain ⟨x0, x1, x2, x3, x4, xf⟩ := row5 ((hb10.block _ (lt_of_heap q3)).trans q3)
        obtain ⟨k0, k1, k2, k3, k4, kf⟩ := row5 ((hb10.block _ (lt_of_heap q9)).trans q9)
        have H10 := (show Hid _ from hB9.trans (hb10.mono hB9.size))
        clear hsame hsame2 hB9 q9 q3 hb10
        go_wp2_with fail
        refine hs2.mono ?_
        rintro e w11 ⟨rfl, hb11⟩
        go_wp2_with fail
        go_ret
        exact ⟨rfl, H10.out.trans (hb11.mono H10.out.size)⟩
end Go.Proofs.YtgcccihnlecpnaaGreatDoor
