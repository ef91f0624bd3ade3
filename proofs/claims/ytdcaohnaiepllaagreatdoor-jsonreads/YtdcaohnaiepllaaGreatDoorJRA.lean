/-
  The program's reader of JSON: values, and Parse. Conditions: as stated.
-/
import Derived.Test.YtdcaohnaiepllaaGreatDoorJR9
namespace Go.Proofs.YtdcaohnaiepllaaGreatDoor
open Go.RowKit Go.Extern.Stop Go.Stop Go.Extern

theorem Ans.form {w0 W w' : World} {b n : Nat} {s : ByteArray} {r : Except Int (V × List UInt8)} {e : Ending} (h : Ans w0 b s n W r e w') :
    ∃ (kd m : Int) (t : ByteArray) (a1 : Option Addr) (n1 c1 : Nat) (a2 : Option Addr) (n2 c2 : Nat) (x : Value), e = .returned (.tuple #[.agg #[.int .i64 kd, .int .i64 m, .string t, .slice a1 n1 c1, .slice a2 n2 c2], x]) ∧ (x = .nilIface ∨ ∃ u z, x = .iface u z) := by
  obtain ⟨K, h⟩ := h
  cases r with
  | error c =>
    obtain ⟨x, e1, hx⟩ := h
    exact ⟨_, _, _, _, _, _, _, _, _, _, e1, .inr hx.iface⟩
  | ok r =>
    obtain ⟨l, f, e1, hr, _⟩ := h
    obtain ⟨a1, n1, c1, a2, rfl, rfl⟩ := hr.slices
    exact ⟨_, _, _, _, _, _, _, _, _, _, e1, .inl rfl⟩
theorem Ans.store {w0 w W2 w3 : World} {b m : Nat} {s : ByteArray} {r : Except Int (V × List UInt8)} {e : Ending} (h : Ans w0 b s m W2 r e w3) (K : Kept b w W2) (r2 : W2.heap[w.heap.size]? = some (.cells #[.int .i64 0, .int .i64 0, .string ⟨#[]⟩, .slice none 0 0, .slice none 0 0] 31 (0, 0))) (hne : w.heap.size ≠ b) (hle : w0.heap.size ≤ w.heap.size) (i0 i1 i2 i3 i4 : Nat) (a0 a1 a2 a3 a4 : Value) :
    Ans w0 b s m w r e (set5W w3 w.heap.size i0 i1 i2 i3 i4 a0 a1 a2 a3 a4) := by
  obtain ⟨K3, h⟩ := h
  have hlt := lt_of_heap r2
  have r0 := (K3.block _ hlt hne).trans r2
  refine ⟨(K.trans K3).set5 (Nat.le_refl _) _ _ _ _ _ _ _ _ _ _, ?_⟩
  cases r with
  | error c =>
    obtain ⟨x, e1, hx⟩ := h
    exact ⟨x, e1, hx.set5 r0 (by decide) _ _ _ _ _ _ _ _ _ _⟩
  | ok r =>
    obtain ⟨l, f, e1, hr, k', R, hd⟩ := h
    exact ⟨l, f, e1, hr.move fun c hc _ => ⟨by omega, set5W_ne _ _ _ _ _ _ _ _ _ _ _ _ (by omega)⟩, k', R.set5 hne hle _ _ _ _ _ _ _ _ _ _, hd⟩
theorem Ans.up {w0 W w' : World} {b n m : Nat} {s : ByteArray} {r : Except Int (V × List UInt8)} {e : Ending} (h : Ans w0 b s n W r e w') (hm : n ≤ m) : Ans w0 b s m W r e w' := by
  obtain ⟨K, h⟩ := h
  refine ⟨K, ?_⟩
  cases r with
  | error c => exact h
  | ok r =>
    obtain ⟨l, f, e1, hr, k', R, hd⟩ := h
    exact ⟨l, f, e1, hr.le hm, k', R, hd⟩

set_option maxRecDepth 100000 in
set_option maxHeartbeats 8000000 in
theorem value_step (n : Nat) (D : Int) (hD : 1 ≤ D) (hD2 : D ≤ 16) (ih : ValueAt n (D + 1)) : ValueAt (n + 1) D := by
  intro w0 b s k w R
  have hB : Below w.heap.size w (w.alloc (.cells #[.int .i64 0, .int .i64 0, .string ⟨#[]⟩, .slice none 0 0, .slice none 0 0] 31)) := (Below.refl _ _).alloc (Nat.le_refl _) _
  have hbl := blanks_any (R.same hB)
  obtain ⟨RR, hRR⟩ : ∃ r, valueP (n + 1) (s.data.toList.drop k) = r := ⟨_, rfl⟩
  rw [hRR]
  have HW := (show Hid _ from And.intro hRR R)
  have HI := (show Hid _ from ih)
  have zD : ¬ (16 : Int) < D := by omega
  clear hRR R hB ih
  go_enter Tryz.func19, Tryz.ntmps19
  go_wp2_with fail
  refine hbl.mono ?_
  rintro e w1 ⟨rfl, K1, k1, _, R1, hd1⟩
  obtain ⟨r1, K1', hne, hle⟩ := wordRow HW.out.2 K1
  obtain ⟨c, hc⟩ : ∃ c : Int, ((hd (s.data.toList.drop k1) : Nat) : Int) = c := ⟨_, rfl⟩
  have hpk := peek_any R1 hc
  have H1 := (show Hid _ from And.intro K1' (And.intro R1 (And.intro hd1 (And.intro r1 (And.intro hne (And.intro hle hc))))))
  clear hbl K1 K1' R1 hd1 r1 hne hle hc
  go_wp2_with fail
  refine hpk.mono ?_
  rintro e w2 ⟨rfl, hb2⟩
  obtain ⟨K1', R1, hd1, r1, hne, hle, hc⟩ := H1.out
  have R2 := R1.same hb2
  obtain ⟨r2, K2⟩ := wordRow2 K1' r1 (Kept.of_below hb2) hne
  have hval : RR = valueP (n + 1) (s.data.toList.drop k) := HW.out.1.symm
  simp only [valueP] at hval
  rw [← hd1] at hval
  have H2 := (show Hid _ from And.intro K2 (And.intro r2 (And.intro hne (And.intro hle hval))))
  have hHc := (show Hid _ from hc)
  clear hpk hb2 K1' R1 hd1 r1 hne hle hc r2 K2 hval
  by_cases h45 : c = 45
  · subst h45
    have hcall := number_any R2
    obtain ⟨rv, hrv⟩ : ∃ r, numP (s.data.toList.drop k1) = r := ⟨_, rfl⟩
    have hRv : RR = rv := by
      have := hHc.out
      rw [H2.out.2.2.2.2, ← hrv, if_pos (by omega)]
    subst hRv
    rw [hrv] at hcall
    clear hrv
    go_wp2_with fail
    refine hcall.mono ?_
    rintro e w3 hA
    obtain ⟨kd, nm, tt, b1, n1, d1, b2, n2, d2, x, rfl, hx⟩ := hA.form
    obtain ⟨K2, r2, hne, hle, hval⟩ := H2.out
    have r3 := (hA.1.block _ (lt_of_heap r2) hne).trans r2
    obtain ⟨j0, j1, j2, j3, j4, jf⟩ := row5 r3
    have HX := (show Hid _ from And.intro hA (And.intro K2 (And.intro r2 (And.intro hne hle))))
    clear hA K2 r2 hne hle hval r3 hcall R2
    rcases hx with rfl | ⟨u, z, rfl⟩
    all_goals
      go_wp2
      obtain ⟨hA, K2, r2, hne, hle⟩ := HX.out
      exact bodyPost_ret (v := .tuple #[.agg #[.int .i64 kd, .int .i64 nm, .string tt, .slice b1 n1 d1, .slice b2 n2 d2], _]) (by simp [results, Tryz.results19, go_sem, j0, j1, j2, j3, j4]) rfl ((hA.up (by omega)).store K2 r2 hne hle 0 1 2 3 4 _ _ _ _ _)
  · have e45 : (c == 45) = false := by simp; omega
    obtain ⟨q, hq⟩ : ∃ q, decide (48 ≤ c ∧ c ≤ 57) = q := ⟨_, rfl⟩
    have hjd := fun W => jdigit_any c W
    rw [hq] at hjd
    have HQ := (show Hid _ from hq)
    clear hq
    go_wp2_with fail
    refine (hjd _).mono ?_
    rintro e w3 ⟨rfl, rfl⟩
    clear hjd
    cases q
    · have hnd := of_decide_eq_false HQ.out
      by_cases h34 : c = 34
      · subst h34
        have hcall := text_any R2
        obtain ⟨rv, hrv⟩ : ∃ r, textP (s.data.toList.drop k1) = r := ⟨_, rfl⟩
        have hRv : RR = rv := by
          have := hHc.out
          rw [H2.out.2.2.2.2, ← hrv, if_neg (by omega), if_pos (by omega)]
        subst hRv
        rw [hrv] at hcall
        clear hrv hnd h45
        go_wp2_with fail
        refine hcall.mono ?_
        rintro e w3 hA
        obtain ⟨kd, nm, tt, b1, n1, d1, b2, n2, d2, x, rfl, hx⟩ := hA.form
        obtain ⟨K2, r2, hne, hle, hval⟩ := H2.out
        have r3 := (hA.1.block _ (lt_of_heap r2) hne).trans r2
        obtain ⟨j0, j1, j2, j3, j4, jf⟩ := row5 r3
        have HX := (show Hid _ from And.intro hA (And.intro K2 (And.intro r2 (And.intro hne hle))))
        clear hA K2 r2 hne hle hval r3 hcall R2
        rcases hx with rfl | ⟨u, z, rfl⟩
        all_goals
          go_wp2
          obtain ⟨hA, K2, r2, hne, hle⟩ := HX.out
          exact bodyPost_ret (v := .tuple #[.agg #[.int .i64 kd, .int .i64 nm, .string tt, .slice b1 n1 d1, .slice b2 n2 d2], _]) (by simp [results, Tryz.results19, go_sem, j0, j1, j2, j3, j4]) rfl ((hA.up (by omega)).store K2 r2 hne hle 0 1 2 3 4 _ _ _ _ _)
      · have e34 : (c == 34) = false := by simp; omega
        by_cases h91 : c = 91
        · subst h91
          have hcall := list_any n D hD (by omega) HI.out R2 (by have := hHc.out; omega)
          obtain ⟨rv, hrv⟩ : ∃ r, listP (valueP n) ((s.data.toList.drop k1).drop 1) = r := ⟨_, rfl⟩
          have hRv : RR = rv := by
            have := hHc.out
            rw [H2.out.2.2.2.2, ← hrv, if_neg (by omega), if_neg (by omega), if_pos (by omega)]
          subst hRv
          rw [hrv] at hcall
          clear hrv hnd h45 h34
          go_wp2_with fail
          refine hcall.mono ?_
          rintro e w3 hA
          obtain ⟨kd, nm, tt, b1, n1, d1, b2, n2, d2, x, rfl, hx⟩ := hA.form
          obtain ⟨K2, r2, hne, hle, hval⟩ := H2.out
          have r3 := (hA.1.block _ (lt_of_heap r2) hne).trans r2
          obtain ⟨j0, j1, j2, j3, j4, jf⟩ := row5 r3
          have HX := (show Hid _ from And.intro hA (And.intro K2 (And.intro r2 (And.intro hne hle))))
          clear hA K2 r2 hne hle hval r3 hcall R2
          rcases hx with rfl | ⟨u, z, rfl⟩
          all_goals
            go_wp2
            obtain ⟨hA, K2, r2, hne, hle⟩ := HX.out
            exact bodyPost_ret (v := .tuple #[.agg #[.int .i64 kd, .int .i64 nm, .string tt, .slice b1 n1 d1, .slice b2 n2 d2], _]) (by simp [results, Tryz.results19, go_sem, j0, j1, j2, j3, j4]) rfl ((hA.up (by omega)).store K2 r2 hne hle 0 1 2 3 4 _ _ _ _ _)
        · have e91 : (c == 91) = false := by simp; omega
          by_cases h123 : c = 123
          · subst h123
            have hcall := object_any n D hD (by omega) HI.out R2 (by have := hHc.out; omega)
            obtain ⟨rv, hrv⟩ : ∃ r, objP (valueP n) ((s.data.toList.drop k1).drop 1) = r := ⟨_, rfl⟩
            have hRv : RR = rv := by
              have := hHc.out
              rw [H2.out.2.2.2.2, ← hrv, if_neg (by omega), if_neg (by omega), if_neg (by omega), if_pos (by omega)]
            subst hRv
            rw [hrv] at hcall
            clear hrv hnd h45 h34 h91
            go_wp2_with fail
            refine hcall.mono ?_
            rintro e w3 hA
            obtain ⟨kd, nm, tt, b1, n1, d1, b2, n2, d2, x, rfl, hx⟩ := hA.form
            obtain ⟨K2, r2, hne, hle, hval⟩ := H2.out
            have r3 := (hA.1.block _ (lt_of_heap r2) hne).trans r2
            obtain ⟨j0, j1, j2, j3, j4, jf⟩ := row5 r3
            have HX := (show Hid _ from And.intro hA (And.intro K2 (And.intro r2 (And.intro hne hle))))
            clear hA K2 r2 hne hle hval r3 hcall R2
            rcases hx with rfl | ⟨u, z, rfl⟩
            all_goals
              go_wp2
              obtain ⟨hA, K2, r2, hne, hle⟩ := HX.out
              exact bodyPost_ret (v := .tuple #[.agg #[.int .i64 kd, .int .i64 nm, .string tt, .slice b1 n1 d1, .slice b2 n2 d2], _]) (by simp [results, Tryz.results19, go_sem, j0, j1, j2, j3, j4]) rfl ((hA.up (by omega)).store K2 r2 hne hle 0 1 2 3 4 _ _ _ _ _)
          · have e123 : (c == 123) = false := by simp; omega
            have hcall := word_any R2
            obtain ⟨rv, hrv⟩ : ∃ r, wordP (s.data.toList.drop k1) = r := ⟨_, rfl⟩
            have hRv : RR = rv := by
              have := hHc.out
              rw [H2.out.2.2.2.2, ← hrv, if_neg (by omega), if_neg (by omega), if_neg (by omega), if_neg (by omega)]
            subst hRv
            rw [hrv] at hcall
            clear hrv hnd h45 h34 h91 h123
            go_wp2_with fail
            refine hcall.mono ?_
            rintro e w3 hA
            obtain ⟨kd, nm, tt, b1, n1, d1, b2, n2, d2, x, rfl, hx⟩ := hA.form
            obtain ⟨K2, r2, hne, hle, hval⟩ := H2.out
            have r3 := (hA.1.block _ (lt_of_heap r2) hne).trans r2
            obtain ⟨j0, j1, j2, j3, j4, jf⟩ := row5 r3
            have HX := (show Hid _ from And.intro hA (And.intro K2 (And.intro r2 (And.intro hne hle))))
            clear hA K2 r2 hne hle hval r3 hcall R2
            rcases hx with rfl | ⟨u, z, rfl⟩
            all_goals
              go_wp2
              obtain ⟨hA, K2, r2, hne, hle⟩ := HX.out
              exact bodyPost_ret (v := .tuple #[.agg #[.int .i64 kd, .int .i64 nm, .string tt, .slice b1 n1 d1, .slice b2 n2 d2], _]) (by simp [results, Tryz.results19, go_sem, j0, j1, j2, j3, j4]) rfl ((hA.up (by omega)).store K2 r2 hne hle 0 1 2 3 4 _ _ _ _ _)
    · have hcall := number_any R2
      obtain ⟨rv, hrv⟩ : ∃ r, numP (s.data.toList.drop k1) = r := ⟨_, rfl⟩
      have hRv : RR = rv := by
        have := hHc.out
        have := of_decide_eq_true HQ.out
        rw [H2.out.2.2.2.2, ← hrv, if_pos (by omega)]
      subst hRv
      rw [hrv] at hcall
      clear hrv
      go_wp2_with fail
      refine hcall.mono ?_
      rintro e w3 hA
      obtain ⟨kd, nm, tt, b1, n1, d1, b2, n2, d2, x, rfl, hx⟩ := hA.form
      obtain ⟨K2, r2, hne, hle, hval⟩ := H2.out
      have r3 := (hA.1.block _ (lt_of_heap r2) hne).trans r2
      obtain ⟨j0, j1, j2, j3, j4, jf⟩ := row5 r3
      have HX := (show Hid _ from And.intro hA (And.intro K2 (And.intro r2 (And.intro hne hle))))
      clear hA K2 r2 hne hle hval r3 hcall R2
      rcases hx with rfl | ⟨u, z, rfl⟩
      all_goals
        go_wp2
        obtain ⟨hA, K2, r2, hne, hle⟩ := HX.out
        exact bodyPost_ret (v := .tuple #[.agg #[.int .i64 kd, .int .i64 nm, .string tt, .slice b1 n1 d1, .slice b2 n2 d2], _]) (by simp [results, Tryz.results19, go_sem, j0, j1, j2, j3, j4]) rfl ((hA.up (by omega)).store K2 r2 hne hle 0 1 2 3 4 _ _ _ _ _)

theorem value_any : ∀ n, n ≤ 16 → ValueAt n (17 - (n : Int))
  | 0, _ => by
    intro w0 b s k w R
    have hB : Below w.heap.size w (w.alloc (.cells #[.int .i64 0, .int .i64 0, .string ⟨#[]⟩, .slice none 0 0, .slice none 0 0] 31)) := (Below.refl _ _).alloc (Nat.le_refl _) _
    have hbl := blanks_any (R.same hB)
    have HW := (show Hid _ from R)
    obtain ⟨RR, hRR⟩ : ∃ r, valueP 0 (s.data.toList.drop k) = r := ⟨_, rfl⟩
    rw [hRR]
    have HR := (show Hid _ from hRR)
    show Calls _ _ #[_, .int .i64 17] _ _
    clear R hB hRR
    go_enter Tryz.func19, Tryz.ntmps19
    go_wp2_with fail
    refine hbl.mono ?_
    rintro e w1 ⟨rfl, K1, k1, _, R1, hd1⟩
    obtain ⟨r1, K1', hne, hle⟩ := wordRow HW.out K1
    have hcall := wrongV_any R1 2 rfl
    have H1 := (show Hid _ from And.intro K1' (And.intro r1 hne))
    clear hbl K1 K1' R1 hd1 r1 hne hle
    go_wp2_with fail
    refine hcall.mono ?_
    rintro e w3 ⟨x, rfl, hx, hb3⟩
    obtain ⟨K1', r1, hne⟩ := H1.out
    obtain ⟨r3, K3⟩ := wordRow2 K1' r1 (Kept.of_below hb3) hne
    obtain ⟨j0, j1, j2, j3, j4, jf⟩ := row5 r3
    obtain ⟨u, z, rfl⟩ := hx.iface
    have HX := (show Hid _ from And.intro hx (And.intro K3 r3))
    clear hx K3 r3 K1' r1 hne hb3 hcall
    go_wp2
    obtain ⟨hx, K3, r3⟩ := HX.out
    refine bodyPost_ret (v := .tuple #[zeroA, .iface u z]) (by simp [results, Tryz.results19, go_sem, j0, j1, j2, j3, j4]) rfl (Ans.err hx K3 r3 ?_ 0 1 2 3 4 _ _ _ _ _)
    rw [← HR.out]
    rfl
  | n + 1, h => by
    have hn := value_any n (by omega)
    have := value_step n (16 - (n : Int)) (by omega) (by omega) (by rw [show (16 - (n : Int)) + 1 = 17 - (n : Int) by omega]; exact hn)
    rw [show (17 - ((n + 1 : Nat) : Int)) = 16 - (n : Int) by omega]
    exact this
end Go.Proofs.YtdcaohnaiepllaaGreatDoor
