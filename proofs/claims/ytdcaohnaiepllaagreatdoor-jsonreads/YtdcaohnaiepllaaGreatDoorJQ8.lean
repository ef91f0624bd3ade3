/-
  The law's read by its contract. Conditions: as stated.
-/
import Derived.Test.YtdcaohnaiepllaaGreatDoorJQ7
namespace Go.Proofs.YtdcaohnaiepllaaGreatDoor
open Go.RowKit Go.Extern.Stop Go.Stop Go.Extern

theorem pref_has : ∀ (t l : List UInt8), prefB l t = Lib.hasPrefix l t
  | [], l => by simp [prefB, Lib.hasPrefix]
  | a :: t, [] => by simp [prefB, Lib.hasPrefix]
  | a :: t, b :: l => by
    have ih := pref_has t l
    unfold prefB Lib.hasPrefix at ih ⊢
    rw [List.length_cons, List.take_succ_cons, List.isPrefixOf_cons_cons, ← ih]
    by_cases h : a = b
    · subst h; simp
    · have h2 : ¬ b = a := fun e => h e.symm
      have e1 : (a == b) = false := by simpa using h
      rw [e1, Bool.false_and]
      simp only [beq_eq_false_iff_ne, ne_eq, List.cons.injEq, not_and]
      exact fun e => absurd e h2
theorem pref_hd {l t : List UInt8} {a : UInt8} (h : prefB l (a :: t) = true) : hd l = a.toNat := by
  unfold prefB at h
  cases l with
  | nil => simp at h
  | cons b l =>
    have : b = a := by
      have := beq_iff_eq.1 h
      simp at this
      exact this.1
    subst this; rfl
theorem word_null {l : List UInt8} (h : prefB l wNull = true) : wordP l = .ok (nulV, l.drop 4) := by
  unfold wordP; rw [if_pos (by rw [← pref_has]; exact h)]
theorem word_true {l : List UInt8} (h0 : prefB l wNull = false) (h : prefB l wTrue = true) : wordP l = .ok (boolV 1, l.drop 4) := by
  have hf : ¬ Lib.hasPrefix l wFalse = true := by
    rw [← pref_has]
    intro e
    have h1 := pref_hd e
    have h2 := pref_hd h
    rw [h1] at h2
    exact absurd h2 (by decide)
  unfold wordP; rw [if_neg (by rw [← pref_has, h0]; decide), if_neg hf, if_pos (by rw [← pref_has]; exact h)]
theorem word_false {l : List UInt8} (h0 : prefB l wNull = false) (h : prefB l wFalse = true) : wordP l = .ok (boolV 0, l.drop 5) := by
  unfold wordP; rw [if_neg (by rw [← pref_has, h0]; decide), if_pos (by rw [← pref_has]; exact h)]
theorem word_no {l : List UInt8} (h0 : prefB l wNull = false) (h1 : prefB l wTrue = false) (h2 : prefB l wFalse = false) : wordP l = .error 1 := by
  unfold wordP; rw [if_neg (by rw [← pref_has, h0]; decide), if_neg (by rw [← pref_has, h2]; decide), if_neg (by rw [← pref_has, h1]; decide)]
theorem valueW_word {n : Nat} {l : List UInt8} (hs : skip l = l) (h1 : ¬ (hd l = 45 ∨ (48 ≤ hd l ∧ hd l ≤ 57))) (h2 : ¬ hd l = 34) (h3 : ¬ hd l = 91) (h4 : ¬ hd l = 123) : valueW (n + 1) l = wordP l := by
  simp only [valueW]
  rw [hs, if_neg h1, if_neg h2, if_neg h3, if_neg h4]
theorem numW_no {l : List UInt8} (h : ¬ (hd l = 45 ∨ (48 ≤ hd l ∧ hd l ≤ 57))) : numW l = .error 1 := by
  have hsg : sgn l = 0 := by unfold sgn; rw [if_neg (by omega)]
  unfold numW
  rw [hsg, List.drop_zero]
  have : digW l = none := by
    unfold digW
    rw [if_neg (by omega), if_pos (digs_no (by omega))]
  rw [this]
theorem rd_out {s : ByteArray} {n : Nat} {w W0 w1 : World} {x : V} {l f : Value} {j : Nat} {c : Int} {res : Except Int (V × List UInt8)} {a0 a1 a2 a3 a4 : Value} (hW : w.heap.size < W0.heap.size) (h : RdR s n W0 w1 x l f j c res) : RdR s n w (set5W w1 w.heap.size 0 1 2 3 4 a0 a1 a2 a3 a4) x l f j c res := by
  cases res with
  | error d => exact h
  | ok p =>
    obtain ⟨h1, h2, h3, h4, h5⟩ := h
    refine ⟨h1, h2, h3, h4, h5.move fun b hb _ => ?_⟩
    have hb : W0.heap.size ≤ b := hb
    exact ⟨by show w.heap.size ≤ b; omega, set5W_ne _ _ _ _ _ _ _ _ _ _ _ _ (by omega)⟩

set_option maxRecDepth 100000 in
set_option maxHeartbeats 4000000 in
theorem read_zero : ReadAt 0 17 := by
  intro s hs k hk w hsk
  have hB : Hid (Below w.heap.size w (w.alloc (.cells #[.int .i64 0, .int .i64 0, .string ⟨#[]⟩, .slice none 0 0, .slice none 0 0] 31))) := (Below.refl _ _).alloc (Nat.le_refl _) _
  show Calls _ _ _ _ (RdA s 0 w (.error 2))
  clear hsk
  go_enter Tryz.func22, Tryz.ntmps22
  go_wp2_with fail
  refine bodyPost_ret (v := .tuple #[.agg #[.int .i64 0, .int .i64 0, .string ⟨#[]⟩, .slice none 0 0, .slice none 0 0], .int .i64 (k : Int), .int .i64 2]) (by simp [results, Tryz.results22, go_sem]) rfl (rd_bad k 2 (by decide) ?_)
  have hk := hB.out
  repeat (with_reducible first | exact hk | refine qSetc ?_ (Nat.le_refl _))

set_option maxRecDepth 100000 in
set_option maxHeartbeats 16000000 in
theorem read_step (n : Nat) (D : Int) (hD : 0 ≤ D) (hD2 : D ≤ 16) (ih : ReadAt n (D + 1)) : ReadAt (n + 1) D := by
  intro s hs k hk w hsk
  obtain ⟨Z0, hZ0⟩ : ∃ O, O = Obj.cells #[.int .i64 0, .int .i64 0, .string ⟨#[]⟩, .slice none 0 0, .slice none 0 0] 31 := ⟨_, rfl⟩
  obtain ⟨W, hW⟩ : ∃ W, W = w.alloc Z0 := ⟨_, rfl⟩
  have hWB : Below w.heap.size w W := by rw [hW]; exact (Below.refl _ _).alloc (Nat.le_refl _) _
  have rW : W.heap[w.heap.size]? = some (.cells #[.int .i64 0, .int .i64 0, .string ⟨#[]⟩, .slice none 0 0, .slice none 0 0] 31) := by rw [hW, heap_alloc_new, hZ0]
  have hWs : w.heap.size < W.heap.size := lt_of_heap rW
  obtain ⟨g0, g1, g2, g3, g4, gf⟩ := row5 rW
  have hdd : ¬ (16 : Int) < D := by omega
  have zk0 : (0 : Int) ≤ (k : Int) := by omega
  obtain ⟨RES, hRES⟩ : ∃ R, valueW (n + 1) (s.data.toList.drop k) = R := ⟨_, rfl⟩
  rw [hRES]
  have HI := (show Hid _ from And.intro ih (And.intro hRES (And.intro hWB (And.intro rW hsk))))
  clear ih hRES hWB rW hsk
  by_cases hlt : k < s.size
  · have zk : (k : Int) < (s.size : Int) := by omega
    have zkg : ¬ (s.size : Int) ≤ (k : Int) := by omega
    obtain ⟨x, hx⟩ : ∃ x, s[k]'hlt = x := ⟨_, rfl⟩
    have hhd : hd (s.data.toList.drop k) = x.toNat := by rw [drop_at s k hlt, hx]; rfl
    have hlenL : (s.data.toList.drop k).length = s.size - k := by rw [List.length_drop, ← size_list rfl]
    have his1 := is_any s hs k hk ⟨#[110, 117, 108, 108]⟩ (by decide) W
    have his2 := is_any s hs k hk ⟨#[116, 114, 117, 101]⟩ (by decide) W
    have his3 := is_any s hs k hk ⟨#[102, 97, 108, 115, 101]⟩ (by decide) W
    obtain ⟨b1, hb1⟩ : ∃ b, prefB (s.data.toList.drop k) wNull = b := ⟨_, rfl⟩
    obtain ⟨b2, hb2⟩ : ∃ b, prefB (s.data.toList.drop k) wTrue = b := ⟨_, rfl⟩
    obtain ⟨b3, hb3⟩ : ∃ b, prefB (s.data.toList.drop k) wFalse = b := ⟨_, rfl⟩
    rw [show (⟨#[110, 117, 108, 108]⟩ : ByteArray).data.toList = wNull from rfl, hb1] at his1
    rw [show (⟨#[116, 114, 117, 101]⟩ : ByteArray).data.toList = wTrue from rfl, hb2] at his2
    rw [show (⟨#[102, 97, 108, 115, 101]⟩ : ByteArray).data.toList = wFalse from rfl, hb3] at his3
    have hlenP : ∀ t : List UInt8, prefB (s.data.toList.drop k) t = true → k + t.length ≤ s.size := fun t ht => by
      rcases Nat.lt_or_ge (s.data.toList.drop k).length t.length with h | h
      · rw [pref_short h] at ht; cases ht
      · omega
    have HB := (show Hid _ from And.intro hb1 (And.intro hb2 (And.intro hb3 (And.intro hhd hlenP))))
    clear hb1 hb2 hb3 hhd hlenP hlenL
    rw [hW, hZ0] at his1
    go_enter Tryz.func22, Tryz.ntmps22
    go_wp2_with fail
    refine his1.mono ?_
    rintro e w1 ⟨rfl, hw1⟩
    rw [← hZ0, ← hW] at hw1
    rw [hw1]
    clear hw1 his1 hW hZ0 Z0
    cases b1
    · go_wp2_with fail
      refine his2.mono ?_
      rintro e w2 ⟨rfl, hw2⟩
      rw [hw2]
      clear hw2 his2
      cases b2
      · go_wp2_with fail
        refine his3.mono ?_
        rintro e w3 ⟨rfl, hw3⟩
        rw [hw3]
        clear hw3 his3
        cases b3
        · by_cases c91 : x.toNat = 91
          · have e91 : ((x.toNat : Int) == 91) = true := bl_eq x 91 c91
            have hm := many_list n D hD (by omega) HI.out.1 s hs (k + 1) (by omega) W
            rw [show ((k + 1 : Nat) : Int) = (k : Int) + 1 from rfl] at hm
            have hR : listP (valueW n) (s.data.toList.drop (k + 1)) = RES := by
              rw [← HI.out.2.1]
              simp only [valueW]
              rw [HI.out.2.2.2.2, HB.out.2.2.2.1, if_neg (by omega), if_neg (by omega), if_pos c91, List.drop_drop]
            rw [hR] at hm
            clear hR c91
            go_wp2_with fail
            refine hm.mono ?_
            rintro e w4 ⟨y, al, nl, cl, af, nf, cf, j, c, rfl, hb4, hr4⟩
            have r4 := (hb4.block _ hWs).trans HI.out.2.2.2.1
            obtain ⟨v0, v1, v2, v3, v4, vf⟩ := row5 r4
            have hl4 := lt_of_heap r4
            have H4 := (show Hid _ from And.intro hb4 hr4)
            clear hm hb4 hr4 r4
            go_wp2_with fail
            refine bodyPost_ret (v := .tuple #[.agg #[.int .i64 y.kind, .int .i64 y.num, .string y.text, .slice al nl cl, .slice af nf cf], .int .i64 (j : Int), .int .i64 c]) (by simp [results, Tryz.results22, go_sem, v0, v1, v2, v3, v4]) rfl ⟨y, al, nl, cl, af, nf, cf, j, c, rfl, ?_, rd_out hWs H4.out.2⟩
            have hk := HI.out.2.2.1.trans (H4.out.1.mono HI.out.2.2.1.size)
            repeat (with_reducible first | exact hk | refine qSetc ?_ (Nat.le_refl _))
          · have e91 : ((x.toNat : Int) == 91) = false := bl_ne x 91 c91
            by_cases c123 : x.toNat = 123
            · have e123 : ((x.toNat : Int) == 123) = true := bl_eq x 123 c123
              have hm := many_obj n D hD (by omega) HI.out.1 s hs (k + 1) (by omega) W
              rw [show ((k + 1 : Nat) : Int) = (k : Int) + 1 from rfl] at hm
              have hR : objP (valueW n) (s.data.toList.drop (k + 1)) = RES := by
                rw [← HI.out.2.1]
                simp only [valueW]
                rw [HI.out.2.2.2.2, HB.out.2.2.2.1, if_neg (by omega), if_neg (by omega), if_neg (by omega), if_pos c123, List.drop_drop]
              rw [hR] at hm
              clear hR c91 c123
              go_wp2_with fail
              refine hm.mono ?_
              rintro e w4 ⟨y, al, nl, cl, af, nf, cf, j, c, rfl, hb4, hr4⟩
              have r4 := (hb4.block _ hWs).trans HI.out.2.2.2.1
              obtain ⟨v0, v1, v2, v3, v4, vf⟩ := row5 r4
              have hl4 := lt_of_heap r4
              have H4 := (show Hid _ from And.intro hb4 hr4)
              clear hm hb4 hr4 r4
              go_wp2_with fail
              refine bodyPost_ret (v := .tuple #[.agg #[.int .i64 y.kind, .int .i64 y.num, .string y.text, .slice al nl cl, .slice af nf cf], .int .i64 (j : Int), .int .i64 c]) (by simp [results, Tryz.results22, go_sem, v0, v1, v2, v3, v4]) rfl ⟨y, al, nl, cl, af, nf, cf, j, c, rfl, ?_, rd_out hWs H4.out.2⟩
              have hk := HI.out.2.2.1.trans (H4.out.1.mono HI.out.2.2.1.size)
              repeat (with_reducible first | exact hk | refine qSetc ?_ (Nat.le_refl _))
            · have e123 : ((x.toNat : Int) == 123) = false := bl_ne x 123 c123
              by_cases c34 : x.toNat = 34
              · have e34 : ((x.toNat : Int) == 34) = true := bl_eq x 34 c34
                have zk1 : (k : Int) ≤ (s.size : Int) := by omega
                have hE : (s.extract k s.size).data.toList = s.data.toList.drop k := by
                  rw [ByteArray.data_extract, Array.toList_extract, List.extract_eq_take_drop]
                  exact List.take_of_length_le (by rw [List.length_drop, ← size_list rfl]; omega)
                have hEz : (s.extract k s.size).size ≤ 10000 := by rw [size_list hE, List.length_drop, ← size_list rfl]; omega
                obtain ⟨rq, hrq⟩ : ∃ r, readL (s.data.toList.drop k) = r := ⟨_, rfl⟩
                have hrd := Read_any (s.extract k s.size) hEz W
                rw [hE, hrq] at hrd
                have hR : textP (s.data.toList.drop k) = RES := by
                  rw [← HI.out.2.1]
                  simp only [valueW]
                  rw [HI.out.2.2.2.2, HB.out.2.2.2.1, if_neg (by omega), if_pos c34]
                unfold textP at hR
                rw [hrq] at hR
                have HQ := (show Hid _ from hrq)
                clear hE hEz c34 c91 c123 hrq
                go_wp2_with fail
                refine hrd.mono ?_
                rintro e w4 ⟨rfl, hb4⟩
                have r4 := (hb4.block _ hWs).trans HI.out.2.2.2.1
                obtain ⟨v0, v1, v2, v3, v4, vf⟩ := row5 r4
                have hl4 := lt_of_heap r4
                have H4 := (show Hid _ from hb4)
                clear hrd hb4 r4
                cases rq with
                | none =>
                  simp only [strI]
                  have hR1 : RES = .error 1 := hR.symm
                  subst hR1
                  clear hR
                  go_wp2_with fail
                  refine bodyPost_ret (v := .tuple #[.agg #[.int .i64 0, .int .i64 0, .string ⟨#[]⟩, .slice none 0 0, .slice none 0 0], .int .i64 (k : Int), .int .i64 1]) (by simp [results, Tryz.results22, go_sem, v0, v1, v2, v3, v4]) rfl (rd_bad k 1 (by decide) ?_)
                  have hk := HI.out.2.2.1.trans (H4.out.mono HI.out.2.2.1.size)
                  repeat (with_reducible first | exact hk | refine qSetc ?_ (Nat.le_refl _))
                | some pq =>
                  obtain ⟨o, r2⟩ := pq
                  simp only [strI]
                  have hr2 := readL_pos HQ.out
                  have hr2l := readL_bound HQ.out
                  rw [List.length_drop, ← size_list rfl] at hr2l
                  have e0 : ((r2 : Int) == 0) = false := by simp; omega
                  obtain ⟨NM, hNM⟩ : ∃ N : ByteArray, (⟨o.toArray⟩ : ByteArray) = N := ⟨_, rfl⟩
                  have hR1 : RES = .ok (textV NM, s.data.toList.drop (k + r2)) := by
                    rw [← hR, ← hNM]
                    show Except.ok (_, List.drop r2 (List.drop k s.data.toList)) = _
                    rw [List.drop_drop]
                  rw [hNM]
                  have hw1 : wrap64 ((k : Int) + (r2 : Int)) = (k : Int) + (r2 : Int) := by unfold wrap64; omega
                  subst hR1
                  clear hR hNM
                  go_wp2_with fail
                  refine bodyPost_ret (v := .tuple #[.agg #[.int .i64 3, .int .i64 0, .string NM, .slice none 0 0, .slice none 0 0], .int .i64 ((k : Int) + (r2 : Int)), .int .i64 0]) (by simp [results, Tryz.results22, go_sem, v0, v1, v2, v3, v4]) rfl ⟨textV NM, none, 0, 0, none, 0, 0, k + r2, 0, rfl, ?_, rfl, rfl, by omega, rfl, Rep.le (n := 0) ⟨rfl, rfl, rfl, rfl⟩ (Nat.zero_le _)⟩
                  have hk := HI.out.2.2.1.trans (H4.out.mono HI.out.2.2.1.size)
                  repeat (with_reducible first | exact hk | refine qSetc ?_ (Nat.le_refl _))
              · have e34 : ((x.toNat : Int) == 34) = false := bl_ne x 34 c34
                have hm := lnum_any s hs k hk (n + 1) W
                have hR : numW (s.data.toList.drop k) = RES := by
                  rw [← HI.out.2.1]
                  by_cases hnum : hd (s.data.toList.drop k) = 45 ∨ (48 ≤ hd (s.data.toList.drop k) ∧ hd (s.data.toList.drop k) ≤ 57)
                  · simp only [valueW]
                    rw [HI.out.2.2.2.2, if_pos hnum]
                  · have hh := HB.out.2.2.2.1
                    rw [numW_no hnum, valueW_word HI.out.2.2.2.2 hnum (by rw [hh]; exact c34) (by rw [hh]; exact c91) (by rw [hh]; exact c123), word_no HB.out.1 HB.out.2.1 HB.out.2.2.1]
                rw [hR] at hm
                clear hR c34 c91 c123
                go_wp2_with fail
                refine hm.mono ?_
                rintro e w4 ⟨y, al, nl, cl, af, nf, cf, j, c, rfl, hb4, hr4⟩
                have r4 := (hb4.block _ hWs).trans HI.out.2.2.2.1
                obtain ⟨v0, v1, v2, v3, v4, vf⟩ := row5 r4
                have hl4 := lt_of_heap r4
                have H4 := (show Hid _ from And.intro hb4 hr4)
                clear hm hb4 hr4 r4
                go_wp2_with fail
                refine bodyPost_ret (v := .tuple #[.agg #[.int .i64 y.kind, .int .i64 y.num, .string y.text, .slice al nl cl, .slice af nf cf], .int .i64 (j : Int), .int .i64 c]) (by simp [results, Tryz.results22, go_sem, v0, v1, v2, v3, v4]) rfl ⟨y, al, nl, cl, af, nf, cf, j, c, rfl, ?_, rd_out hWs H4.out.2⟩
                have hk := HI.out.2.2.1.trans (H4.out.1.mono HI.out.2.2.1.size)
                repeat (with_reducible first | exact hk | refine qSetc ?_ (Nat.le_refl _))
        · have hh := pref_hd HB.out.2.2.1
          have hkl := HB.out.2.2.2.2 wFalse HB.out.2.2.1
          have hR1 : RES = .ok (boolV 0, s.data.toList.drop (k + 5)) := by
            rw [← HI.out.2.1, valueW_word HI.out.2.2.2.2 (by rw [hh]; decide) (by rw [hh]; decide) (by rw [hh]; decide) (by rw [hh]; decide), word_false HB.out.1 HB.out.2.2.1, List.drop_drop]
          subst hR1
          have hkl : k + 5 ≤ s.size := hkl
          clear hh
          go_wp2_with fail
          refine bodyPost_ret (v := .tuple #[.agg #[.int .i64 1, .int .i64 0, .string ⟨#[]⟩, .slice none 0 0, .slice none 0 0], .int .i64 ((k : Int) + 5), .int .i64 0]) (by simp [results, Tryz.results22, go_sem, g0, g1, g2, g3, g4]) rfl ⟨boolV 0, none, 0, 0, none, 0, 0, k + 5, 0, rfl, ?_, rfl, rfl, by omega, rfl, Rep.le (n := 0) ⟨rfl, rfl, rfl, rfl⟩ (Nat.zero_le _)⟩
          have hk := HI.out.2.2.1
          repeat (with_reducible first | exact hk | refine qSetc ?_ (Nat.le_refl _))
      · have hh := pref_hd HB.out.2.1
        have hkl := HB.out.2.2.2.2 wTrue HB.out.2.1
        have hR1 : RES = .ok (boolV 1, s.data.toList.drop (k + 4)) := by
          rw [← HI.out.2.1, valueW_word HI.out.2.2.2.2 (by rw [hh]; decide) (by rw [hh]; decide) (by rw [hh]; decide) (by rw [hh]; decide), word_true HB.out.1 HB.out.2.1, List.drop_drop]
        subst hR1
        have hkl : k + 4 ≤ s.size := hkl
        clear hh
        go_wp2_with fail
        refine bodyPost_ret (v := .tuple #[.agg #[.int .i64 1, .int .i64 1, .string ⟨#[]⟩, .slice none 0 0, .slice none 0 0], .int .i64 ((k : Int) + 4), .int .i64 0]) (by simp [results, Tryz.results22, go_sem, g0, g1, g2, g3, g4]) rfl ⟨boolV 1, none, 0, 0, none, 0, 0, k + 4, 0, rfl, ?_, rfl, rfl, by omega, rfl, Rep.le (n := 0) ⟨rfl, rfl, rfl, rfl⟩ (Nat.zero_le _)⟩
        have hk := HI.out.2.2.1
        repeat (with_reducible first | exact hk | refine qSetc ?_ (Nat.le_refl _))
    · have hh := pref_hd HB.out.1
      have hkl := HB.out.2.2.2.2 wNull HB.out.1
      have hR1 : RES = .ok (nulV, s.data.toList.drop (k + 4)) := by
        rw [← HI.out.2.1, valueW_word HI.out.2.2.2.2 (by rw [hh]; decide) (by rw [hh]; decide) (by rw [hh]; decide) (by rw [hh]; decide), word_null HB.out.1, List.drop_drop]
      subst hR1
      have hkl : k + 4 ≤ s.size := hkl
      clear hh
      go_wp2_with fail
      refine bodyPost_ret (v := .tuple #[.agg #[.int .i64 0, .int .i64 0, .string ⟨#[]⟩, .slice none 0 0, .slice none 0 0], .int .i64 ((k : Int) + 4), .int .i64 0]) (by simp [results, Tryz.results22, go_sem, g0, g1, g2, g3, g4]) rfl ⟨nulV, none, 0, 0, none, 0, 0, k + 4, 0, rfl, ?_, rfl, rfl, by omega, rfl, Rep.le (n := 0) ⟨rfl, rfl, rfl, rfl⟩ (Nat.zero_le _)⟩
      have hk := HI.out.2.2.1
      repeat (with_reducible first | exact hk | refine qSetc ?_ (Nat.le_refl _))
  · have zk : ¬ (k : Int) < (s.size : Int) := by omega
    have zkg : (s.size : Int) ≤ (k : Int) := by omega
    have hR1 : RES = .error 1 := by
      rw [← HI.out.2.1, drop_end s k (by omega)]
      rfl
    subst hR1
    have hB : Hid (Below w.heap.size w W) := HI.out.2.2.1
    rw [hW, hZ0] at hB g0 g1 g2 g3 g4 hWs
    go_enter Tryz.func22, Tryz.ntmps22
    go_wp2_with fail
    refine bodyPost_ret (v := .tuple #[.agg #[.int .i64 0, .int .i64 0, .string ⟨#[]⟩, .slice none 0 0, .slice none 0 0], .int .i64 (k : Int), .int .i64 1]) (by simp [results, Tryz.results22, go_sem]) rfl (rd_bad k 1 (by decide) ?_)
    have hk := hB.out
    repeat (with_reducible first | exact hk | refine qSetc ?_ (Nat.le_refl _))
theorem read_any : ∀ (n : Nat), n ≤ 16 → ReadAt n (17 - (n : Int))
  | 0, _ => read_zero
  | n + 1, h => by
    have ih := read_any n (by omega)
    have e : (17 : Int) - ((n + 1 : Nat) : Int) + 1 = 17 - (n : Int) := by omega
    exact read_step n _ (by omega) (by omega) (by rw [e]; exact ih)
end Go.Proofs.YtdcaohnaiepllaaGreatDoor
