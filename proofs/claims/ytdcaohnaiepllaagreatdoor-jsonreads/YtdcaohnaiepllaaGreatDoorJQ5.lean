/-
  The law's many by its contract: lists. Conditions: as stated.
-/
import Derived.Test.YtdcaohnaiepllaaGreatDoorJQ4
namespace Go.Proofs.YtdcaohnaiepllaaGreatDoor
open Go.RowKit Go.Extern.Stop Go.Stop Go.Extern

theorem list_rep {n : Nat} {w w4 : World} {sl : Value} {es : List El} {a0 a1 a2 a3 a4 : Value} (hM : MSt 4 w w4 sl (.slice none 0 0)) (hG : GrowsJ n w4 (w.heap.size + 1) sl es) (hl : es.length ≤ 1000000) :
    Rep (fun b => w.heap.size ≤ b) (n + 1) (set5W w4 (w.heap.size + 1) 0 1 2 3 4 a0 a1 a2 a3 a4) (listV (es.map El.v)) sl (.slice none 0 0) := by
  have hne : ∀ b, w.heap.size + 1 < b → (set5W w4 (w.heap.size + 1) 0 1 2 3 4 a0 a1 a2 a3 a4).heap[b]? = w4.heap[b]? := fun b hb => set5W_ne _ _ _ _ _ _ _ _ _ _ _ _ (by omega)
  have hG' := hG.move (W' := set5W w4 (w.heap.size + 1) 0 1 2 3 4 a0 a1 a2 a3 a4) fun b hb _ => hne b hb
  have _ := hM.below
  exact ⟨⟨es, rfl, ⟨ownsRow_move (fun b _ _ => ⟨Nat.zero_le _, rfl⟩) hG'.own, by omega, fun b hb => by have := (hG'.own.lt b hb).1; show w.heap.size ≤ b; omega⟩, fun e he => (hG'.rep e he).move fun b hb _ => ⟨by show w.heap.size ≤ b; omega, rfl⟩⟩, ⟨[], rfl, RowAt.nil, fun e he => by cases he⟩⟩

set_option maxRecDepth 100000 in
set_option maxHeartbeats 16000000 in
theorem many_list (n : Nat) (D : Int) (hD : 0 ≤ D) (hD2 : D ≤ 100) (ih : ReadAt n (D + 1)) (s : ByteArray) (hs : s.size ≤ 4096) (k : Nat) (hk : k ≤ s.size) (w : World) :
    Calls Tryz.prog 40 #[.string s, .int .i64 (k : Int), .int .i64 D, .agg #[.int .i64 4, .int .i64 0, .string ⟨#[]⟩, .slice none 0 0, .slice none 0 0], .string ⟨#[93]⟩] w (RdA s (n + 1) w (listP (valueW n) (s.data.toList.drop k))) := by
  obtain ⟨V0, hV0⟩ : ∃ O, O = Obj.cells #[.int .i64 4, .int .i64 0, .string ⟨#[]⟩, .slice none 0 0, .slice none 0 0] 31 := ⟨_, rfl⟩
  obtain ⟨Z0, hZ0⟩ : ∃ O, O = Obj.cells #[.int .i64 0, .int .i64 0, .string ⟨#[]⟩, .slice none 0 0, .slice none 0 0] 31 := ⟨_, rfl⟩
  obtain ⟨W, hW⟩ : ∃ W, W = (w.alloc V0).alloc Z0 := ⟨_, rfl⟩
  have hM : MSt 4 w W (.slice none 0 0) (.slice none 0 0) := by
    refine ⟨?_, ?_, ?_⟩
    · rw [hW]; exact ((Below.refl _ _).alloc (Nat.le_refl _) _).alloc (by simp) _
    · rw [hW, heap_alloc2_old, hV0]
    · rw [hW, heap_alloc2_new, hZ0]
  have hWs : W.heap.size = w.heap.size + 2 := by rw [hW]; simp
  obtain ⟨RES, hRES⟩ : ∃ R, listP (valueW n) (s.data.toList.drop k) = R := ⟨_, rfl⟩
  rw [hRES]
  have hbl := blank_any s hs k hk W
  have HI := (show Hid _ from And.intro ih (And.intro hRES (And.intro hM hWs)))
  rw [hW, hV0, hZ0] at hbl
  clear ih hRES hM
  go_enter Tryz.func40, Tryz.ntmps40
  go_wp2_with fail
  refine hbl.mono ?_
  rintro e w1 ⟨⟨k1, rfl, hk0, hk1, hd1⟩, hw1⟩
  rw [← hV0, ← hZ0, ← hW] at hw1
  rw [hw1]
  clear hw1 hbl hW hV0 hZ0 V0 Z0
  have his := is_any s hs k1 hk1 ⟨#[93]⟩ (by decide) W
  rw [show (⟨#[93]⟩ : ByteArray).data.toList = [93] from rfl, pref_one _ 93 (by decide), show (93 : UInt8).toNat = 93 from rfl, hd1] at his
  obtain ⟨b1, hb1⟩ : ∃ b, decide (hd (skip (s.data.toList.drop k)) = 93) = b := ⟨_, rfl⟩
  rw [hb1] at his
  have H1 := (show Hid _ from And.intro hd1 (And.intro hb1 hk0))
  clear hd1 hb1 hk0
  go_wp2_with fail
  refine his.mono ?_
  rintro e w2 ⟨rfl, hw2⟩
  rw [hw2]
  clear hw2 his
  cases b1
  · -- something stands in it
    have hL : LRd s n RES k1 [] := by
      obtain ⟨hd1, hb1, _⟩ := H1.out
      refine ⟨by rw [hd1, skip_skip], (skip (s.data.toList.drop k)).length + 1, by rw [hd1]; omega, ?_⟩
      rw [← HI.out.2.1, hd1]
      unfold listP
      rw [if_neg (of_decide_eq_false hb1)]
      rfl
    have HL := (show Hid _ from hL)
    clear hL
    go_wp2_with fail
    go_loopg [1, 13, 14, 15] s.size (fun gg at' _ _ _ wr => ∃ (q : Nat) (es : List El) (sl : Value), q ≤ s.size ∧ s.size - q ≤ gg ∧ at' = .int .i64 (q : Int) ∧ es.length ≤ q ∧ Aside (LRd s n RES q es) ∧ Aside (MSt 4 w wr sl (.slice none 0 0) ∧ GrowsJ n wr (w.heap.size + 1) sl es ∧ w.heap.size + 2 ≤ wr.heap.size))
    case atStart => exact ⟨k1, [], .slice none 0 0, hk1, by omega, rfl, by simp, HL.out, HI.out.2.2.1, ⟨World.ownsRow_nil _ _ _ _, fun e he => by cases he⟩, by rw [HI.out.2.2.2]; exact Nat.le_refl _⟩
    case round =>
      obtain ⟨q, es, sl, hq, hgg, rfl, hesq, hL, hM⟩ := hrel
      obtain ⟨hMs, hG, hsz⟩ := hM.out
      obtain ⟨sa, sc, rfl⟩ := ownsRow_slice hG.own
      obtain ⟨j0, j1, j2, j3, j4, jf⟩ := row5 hMs.row8
      have hlt8 := lt_of_heap hMs.row8
      obtain ⟨ZX, hZX⟩ : ∃ O, O = Obj.cells #[.int .i64 0, .int .i64 0, .string ⟨#[]⟩, .slice none 0 0, .slice none 0 0] 31 := ⟨_, rfl⟩
      have hBX : Below wr.heap.size wr (wr.alloc ZX) := (Below.refl _ _).alloc (Nat.le_refl _) _
      have hread := HI.out.1 s hs q hq (wr.alloc ZX) hL.out.sk
      rw [hZX] at hread
      have hDw : wrap64 (D + 1) = D + 1 := by unfold wrap64; omega
      have HZ := (show Hid _ from And.intro hBX hZX)
      clear hBX hZX hMs
      go_wp2_with fail
      refine hread.mono ?_
      rintro e w1 ⟨x, al, nl, cl, af, nf, cf, j, c, rfl, hb1, hr⟩
      obtain ⟨hBX, hZX⟩ := HZ.out
      rw [← hZX] at hb1 hr
      obtain ⟨hMs, -, -⟩ := hM.out
      have hb01 : Below wr.heap.size wr w1 := hBX.trans (hb1.mono hBX.size)
      have hM1 := hMs.later hb01
      have rX1 : w1.heap[wr.heap.size]? = some ZX := (hb1.block _ (by simp)).trans (heap_alloc_new wr _)
      rw [hZX] at rX1
      obtain ⟨m0, m1, m2, m3, m4, mf⟩ := row5 rX1
      obtain ⟨i0, i1, i2, i3, i4, hif⟩ := row5 hM1.row8
      have hltX := lt_of_heap rX1
      have hlt8' := lt_of_heap hM1.row8
      have hne1 : w.heap.size ≠ wr.heap.size := by omega
      have hne2 : wr.heap.size ≠ w.heap.size := by omega
      -- what the box's store leaves
      obtain ⟨S5, hS5⟩ : ∃ W, W = set5W w1 wr.heap.size 0 1 2 3 4 (.int .i64 x.kind) (.int .i64 x.num) (.string x.text) (.slice al nl cl) (.slice af nf cf) := ⟨_, rfl⟩
      have hS5s : S5.heap.size = w1.heap.size := by rw [hS5, set5W_size]
      have hS5n : ∀ b, b ≠ wr.heap.size → S5.heap[b]? = w1.heap[b]? := fun b hb => by rw [hS5]; exact set5W_ne _ _ _ _ _ _ _ _ _ _ _ _ hb
      obtain ⟨O, hO⟩ : ∃ O, O = Obj.cells #[.int .i64 x.kind, .int .i64 x.num, .string x.text, .slice al nl cl, .slice af nf cf] 31 := ⟨_, rfl⟩
      have hzw : wr.heap.size < w1.heap.size := hltX
      have hG2 : GrowsJ n S5 (w.heap.size + 1) (.slice sa es.length sc) es := by
        obtain ⟨_, hG, _⟩ := hM.out
        refine ⟨ownsRow_move (fun b hb hl => ⟨(hG.own.lt b hb).1, (hS5n b (by omega)).trans (hb01.block b hl)⟩) hG.own, fun e he => (hG.rep e he).move fun b hb hl => ⟨hb, (hS5n b (by omega)).trans (hb01.block b hl)⟩⟩
      have hown : S5.ownsRow (w.heap.size + 1 + 1) 31 5 (.slice sa es.length sc) es.length (encEs es) := hG2.own
      have hBS : Below w.heap.size w S5 := by
        rw [hS5]
        exact set5W_below hM1.below (by omega) 0 1 2 3 4 _ _ _ _ _
      have hR3 : Aside (∀ w3, (S5.alloc O).grownBy w3 (Value.slice sa es.length sc).ownBlock → w3.heap[w.heap.size]? = some (.cells #[.int .i64 4, .int .i64 0, .string ⟨#[]⟩, .slice sa es.length sc, .slice none 0 0] 31 (0, 0)) ∧ w3.heap[w.heap.size + 1]? = some (.cells #[.int .i64 0, .int .i64 0, .string ⟨#[]⟩, .slice none 0 0, .slice none 0 0] 31 (0, 0)) ∧ Below w.heap.size w w3) := by
        intro w3 hgr
        have hne : ∀ b, b < w.heap.size + 1 + 1 → some b ≠ (Value.slice sa es.length sc).ownBlock := fun b hb e => by
          have := (hG2.own.lt b e.symm).1
          omega
        have hl8 := lt_of_heap hM1.row8
        have hl10 := lt_of_heap hM1.row10
        refine ⟨(hgr.block _ (by simp; omega) (hne _ (by omega))).trans ?_, (hgr.block _ (by simp; omega) (hne _ (by omega))).trans ?_, ?_⟩
        · rw [Below.heap_alloc _ _ _ (by omega), hS5n _ (by omega)]; exact hM1.row8
        · rw [Below.heap_alloc _ _ _ (by omega), hS5n _ (by omega)]; exact hM1.row10
        · exact (hBS.alloc hBS.size O).grown hgr (by simp; omega) (fun k e => by have := (hG2.own.lt k e).1; omega)
      have hel : es.length + 1 ≤ 1000000 := by omega
      have hbb : w.heap.size + 1 + 1 ≤ w1.heap.size := by omega
      have hrr : Hid (RdR s n (wr.alloc ZX) w1 x (.slice al nl cl) (.slice af nf cf) j c (valueW n (s.data.toList.drop q))) := hr
      have HG := (show Hid _ from And.intro hG2 (And.intro hS5s (And.intro hS5n (And.intro hS5 (And.intro hO hBS)))))
      rw [hS5] at hown hR3
      unfold set5W at hown hR3
      rw [hO] at hR3
      have HO := (show Hid _ from hown)
      clear hown hread hb1 hr hBX hZX hMs hb01 hM1 rX1 hG2 hS5s hS5n hBS
      obtain ⟨res, hres⟩ : ∃ r, valueW n (s.data.toList.drop q) = r := ⟨_, rfl⟩
      cases res with
      | error d =>
        have hRd : RES = .error d := hL.out.bad hres
        have hcd : c = d ∧ ¬ d = 0 := by
          have := hrr.out
          rw [hres] at this
          exact this
        obtain ⟨rfl, hd0⟩ := hcd
        have ec : (c != 0) = true := by simpa using hd0
        subst hRd
        have HD := (show Hid _ from hd0)
        clear hrr hres hd0
        go_wp2_with (first | (at_builtin; refine append_el rfl (.tmp 39) (.tmp 41) rfl HO.out (by simp; omega) x al nl cl af nf cf rfl _ rfl (by simp) hel ?_; intro g cap w3 hown3 hgrow3 hlie; have r3 := (hR3.out w3 hgrow3).1; have r10 := (hR3.out w3 hgrow3).2.1; obtain ⟨z0, z1, z2, z3, z4, zf⟩ := row5 r3; obtain ⟨y0, y1, y2, y3, y4, yf⟩ := row5 r10; have zz3 := lt_of_heap r3; have zz10 := lt_of_heap r10; have Y := (show Aside _ from (hR3.out w3 hgrow3).2.2); clear hown3 hgrow3 hlie r3 r10))
        refine bodyPost_ret (v := .tuple #[.agg #[.int .i64 4, .int .i64 0, .string ⟨#[]⟩, .slice (some ⟨g, 0, none⟩) (es.length + 1) cap, .slice none 0 0], .int .i64 (j : Int), .int .i64 c]) (by simp [results, Tryz.results40, go_sem, y0, y1, y2, y3, y4]) rfl ⟨listV [], some ⟨g, 0, none⟩, es.length + 1, cap, none, 0, 0, j, c, rfl, ?_, rfl, HD.out⟩
        have hk := Y.out
        repeat (with_reducible first | exact hk | refine qSetc ?_ (Nat.le_refl _) | refine qSetc ?_ (Nat.le_succ _))
      | ok p =>
        obtain ⟨xv, r⟩ := p
        have hro := hrr.out
        rw [hres] at hro
        obtain ⟨rfl, rfl, hjs, hjr, hrep⟩ := hro
        simp only at hjr hrep
        have htl := (valueW_tail n _ _ hres).len
        have hqj : q ≤ j := by
          simp only at htl
          rw [← hjr, List.length_drop, List.length_drop, ← size_list rfl] at htl
          omega
        have HP := (show Hid _ from And.intro hres (And.intro hjr (And.intro hrep htl)))
        clear hrr hres hjr hrep htl
        go_wp2_with (first | (at_builtin; refine append_el rfl (.tmp 39) (.tmp 41) rfl HO.out (by simp; omega) x al nl cl af nf cf rfl _ rfl (by simp) hel ?_; intro g cap w3 hown3 hgrow3 hlie; have r3 := (hR3.out w3 hgrow3).1; have r10 := (hR3.out w3 hgrow3).2.1; obtain ⟨z0, z1, z2, z3, z4, zf⟩ := row5 r3; obtain ⟨y0, y1, y2, y3, y4, yf⟩ := row5 r10; have zz3 := lt_of_heap r3; have zz10 := lt_of_heap r10; have Y := (show Aside _ from And.intro (hR3.out w3 hgrow3).2.2 (And.intro hown3 (And.intro hgrow3 (And.intro hlie (And.intro r3 r10))))); clear hown3 hgrow3 hlie r3 r10))
        refine (blank_any s hs j hjs _).mono ?_
        rintro e w4 ⟨⟨k2, rfl, hjk2, hk2, hd2⟩, hw4⟩
        obtain ⟨hB3, hown3, hgrow3, hlie, r3, r10⟩ := Y.out
        obtain ⟨hG2, hS5s, hS5n, hS5, hO, hBS⟩ := HG.out
        obtain ⟨hres, hjr, hrep, htl⟩ := HP.out
        have hgr : (S5.alloc O).grownBy w3 (Value.slice sa es.length sc).ownBlock := by rw [hS5, hO]; exact hgrow3
        have hlie' : (Value.slice sa es.length sc).ownBlock = some g ∨ g = S5.heap.size + 1 := by rw [hS5s]; simpa using hlie
        have hM5 : MSt 4 w w4 (.slice (some ⟨g, 0, none⟩) (es.length + 1) cap) (.slice none 0 0) := by
          rw [hw4]
          refine ⟨qSetc hB3 (Nat.le_refl _), setc_row (i := 3) r3, ?_⟩
          rw [heap_setCell_ne _ _ _ (by simp)]
          exact r10
        have hG5 : GrowsJ n w4 (w.heap.size + 1) (.slice (some ⟨g, 0, none⟩) (es.length + 1) cap) (es ++ [⟨x, .slice al nl cl, .slice af nf cf⟩]) := by
          have hG2a : GrowsJ n (S5.alloc O) (w.heap.size + 1) (.slice sa es.length sc) es := hG2.move fun b _ hl => Below.heap_alloc _ _ b hl
          have hrx : Rep (fun b => w.heap.size + 1 < b ∧ (Value.slice sa es.length sc).ownBlock ≠ some b) n (S5.alloc O) x (.slice al nl cl) (.slice af nf cf) := hrep.move fun b hb hl => by
            have hb : wr.heap.size + 1 ≤ b := by simpa using hb
            refine ⟨⟨by omega, fun e => ?_⟩, by rw [Below.heap_alloc _ _ b (by omega), hS5n b (by omega)]⟩
            have := (hM.out.2.1.own.lt b e).2
            omega
          have hG3 := hG2a.step hrx hown3 hgr (by
            rcases hlie' with e | e
            · exact .inl e
            · right; show some g = _; rw [e]; simp)
          exact hG3.move fun b hb _ => by rw [hw4]; exact heap_setCell_ne _ _ _ (by simp; omega)
        have hsz4 : w.heap.size + 2 ≤ w4.heap.size := by have := lt_of_heap hM5.row10; omega
        rw [hjr] at hd2
        have his := is_any s hs k2 hk2 ⟨#[93]⟩ (by decide) w4
        rw [show (⟨#[93]⟩ : ByteArray).data.toList = [93] from rfl, pref_one _ 93 (by decide), show (93 : UInt8).toNat = 93 from rfl, hd2] at his
        obtain ⟨b1, hb1⟩ : ∃ b, decide (hd (skip r) = 93) = b := ⟨_, rfl⟩
        rw [hb1] at his
        obtain ⟨v0, v1, v2, v3, v4, vf⟩ := row5 hM5.row8
        obtain ⟨q0, q1, q2, q3, q4, qf⟩ := row5 hM5.row10
        have hl4 := lt_of_heap hM5.row8
        have hl4' := lt_of_heap hM5.row10
        have H5 := (show Hid _ from And.intro hM5 (And.intro hG5 (And.intro hd2 (And.intro hb1 hsz4))))
        clear hw4 hB3 hown3 hgrow3 hlie r3 r10 hG2 hS5s hS5n hS5 hO hBS hres hjr hrep htl hgr hlie' hM5 hG5 hd2 hb1 hsz4 HG Y hR3 HO z0 z1 z2 z3 z4 zf y0 y1 y2 y3 y4 yf zz3 zz10 m0 m1 m2 m3 m4 mf i0 i1 i2 i3 i4 hif j0 j1 j2 j3 j4 jf
        go_wp2_with fail
        refine his.mono ?_
        rintro e w5 ⟨rfl, hw5⟩
        rw [hw5]
        clear hw5 his
        cases b1
        · -- it goes on, or it is wrong
          have his := is_any s hs k2 hk2 ⟨#[44]⟩ (by decide) w4
          rw [show (⟨#[44]⟩ : ByteArray).data.toList = [44] from rfl, pref_one _ 44 (by decide), show (44 : UInt8).toNat = 44 from rfl, H5.out.2.2.1] at his
          obtain ⟨b2, hb2⟩ : ∃ b, decide (hd (skip r) = 44) = b := ⟨_, rfl⟩
          rw [hb2] at his
          have HB2 := (show Hid _ from hb2)
          clear hb2
          go_wp2_with fail
          refine his.mono ?_
          rintro e w6 ⟨rfl, hw6⟩
          rw [hw6]
          clear hw6 his
          cases b2
          · have hR1 : RES = .error 1 := hL.out.no HP.out.1 (of_decide_eq_false H5.out.2.2.2.1) (of_decide_eq_false HB2.out)
            subst hR1
            go_wp2_with fail
            refine bodyPost_ret (v := .tuple #[.agg #[.int .i64 4, .int .i64 0, .string ⟨#[]⟩, .slice (some ⟨g, 0, none⟩) (es.length + 1) cap, .slice none 0 0], .int .i64 (k2 : Int), .int .i64 1]) (by simp [results, Tryz.results40, go_sem, q0, q1, q2, q3, q4]) rfl ⟨listV [], some ⟨g, 0, none⟩, es.length + 1, cap, none, 0, 0, k2, 1, rfl, ?_, rfl, by decide⟩
            have hk := H5.out.1.below
            repeat (with_reducible first | exact hk | refine qSetc ?_ (Nat.le_refl _) | refine qSetc ?_ (Nat.le_succ _))
          · have hk2l : k2 < s.size := by
              have h := hd_drop_lt (of_decide_eq_true HB2.out) (by decide)
              rw [← H5.out.2.2.1, List.length_drop, ← size_list rfl] at h
              omega
            have hbl := blank_any s hs (k2 + 1) (by omega) w4
            rw [show ((k2 + 1 : Nat) : Int) = (k2 : Int) + 1 from rfl] at hbl
            go_wp2_with fail
            refine hbl.mono ?_
            rintro e w7 ⟨⟨k3, rfl, hk23, hk3, hd3⟩, hw7⟩
            rw [hw7]
            clear hw7 hbl
            have HD3 := (show Hid _ from hd3)
            clear hd3
            go_wp2_with fail
            go_roundg (s.size - k3)
            case measure => omega
            case rel =>
              obtain ⟨hM5, hG5, hd2, hb1, hsz4⟩ := H5.out
              refine ⟨k3, es ++ ([⟨x, .slice al nl cl, .slice af nf cf⟩] : List El), .slice (some ⟨g, 0, none⟩) (es.length + 1) cap, hk3, Nat.le_refl _, rfl, by simp; omega, ?_, hM5, hG5, hsz4⟩
              refine hL.out.next HP.out.1 HP.out.2.2.2 (of_decide_eq_false hb1) (of_decide_eq_true HB2.out) ?_
              rw [HD3.out, ← hd2, List.drop_drop]
        · have hk2l : k2 < s.size := by
            have h := hd_drop_lt (of_decide_eq_true H5.out.2.2.2.1) (by decide)
            rw [← H5.out.2.2.1, List.length_drop, ← size_list rfl] at h
            omega
          have hR1 : RES = .ok (listV ((es ++ ([⟨x, .slice al nl cl, .slice af nf cf⟩] : List El)).map El.v), (skip r).drop 1) := hL.out.fin HP.out.1 (of_decide_eq_true H5.out.2.2.2.1)
          subst hR1
          go_wp2_with fail
          refine bodyPost_ret (v := .tuple #[.agg #[.int .i64 4, .int .i64 0, .string ⟨#[]⟩, .slice (some ⟨g, 0, none⟩) (es.length + 1) cap, .slice none 0 0], .int .i64 ((k2 : Int) + 1), .int .i64 0]) (by simp [results, Tryz.results40, go_sem, q0, q1, q2, q3, q4]) rfl ⟨listV ((es ++ ([⟨x, .slice al nl cl, .slice af nf cf⟩] : List El)).map El.v), some ⟨g, 0, none⟩, es.length + 1, cap, none, 0, 0, k2 + 1, 0, rfl, ?_, rfl, rfl, by omega, ?_, ?_⟩
          · have hk := H5.out.1.below
            repeat (with_reducible first | exact hk | refine qSetc ?_ (Nat.le_refl _) | refine qSetc ?_ (Nat.le_succ _))
          · rw [← H5.out.2.2.1, List.drop_drop]
          · obtain ⟨hM5, hG5, hd2, hb1, hsz4⟩ := H5.out
            exact list_rep hM5 hG5 (by simp; omega)
  · have hk1l : k1 < s.size := by
      have h := hd_drop_lt (of_decide_eq_true H1.out.2.1) (by decide)
      rw [← H1.out.1, List.length_drop, ← size_list rfl] at h
      omega
    have hR1 : RES = .ok (listV [], (skip (s.data.toList.drop k)).drop 1) := by
      rw [← HI.out.2.1]
      unfold listP
      rw [if_pos (of_decide_eq_true H1.out.2.1)]
    subst hR1
    have hM := HI.out.2.2.1
    obtain ⟨v0, v1, v2, v3, v4, vf⟩ := row5 hM.row8
    obtain ⟨q0, q1, q2, q3, q4, qf⟩ := row5 hM.row10
    have hl4 := lt_of_heap hM.row8
    have hl4' := lt_of_heap hM.row10
    clear hM
    go_wp2_with fail
    refine bodyPost_ret (v := .tuple #[.agg #[.int .i64 4, .int .i64 0, .string ⟨#[]⟩, .slice none 0 0, .slice none 0 0], .int .i64 ((k1 : Int) + 1), .int .i64 0]) (by simp [results, Tryz.results40, go_sem, q0, q1, q2, q3, q4]) rfl ⟨listV [], none, 0, 0, none, 0, 0, k1 + 1, 0, rfl, ?_, rfl, rfl, by omega, ?_, Rep.le (n := 0) ⟨rfl, rfl, rfl, rfl⟩ (Nat.zero_le _)⟩
    · have hk := HI.out.2.2.1.below
      repeat (with_reducible first | exact hk | refine qSetc ?_ (Nat.le_refl _) | refine qSetc ?_ (Nat.le_succ _))
    · rw [← H1.out.1, List.drop_drop]
end Go.Proofs.YtdcaohnaiepllaaGreatDoor
