/-
  The program's reader of JSON: values, and Parse. Conditions: as stated.
  The program's Parse by its contract: it answers what the plain function reads. Conditions: as stated.
  What is read of what was printed: the same value, printed the same; and how long it is. No conditions beyond those stated.
-/
import Derived.Test.YtnkoblhdbccbeaaGreatDoorU15
import Derived.Test.YtnkoblhdbccbeaaGreatDoorU11
import Derived.Test.YtnkoblhdbccbeaaGreatDoorU12
namespace Go.Proofs.YtnkoblhdbccbeaaGreatDoor
open Go.RowKit Go.Extern.Stop Go.Stop Go.Extern

theorem Ans.form {w0 W w' : World} {b n : Nat} {s : ByteArray} {r : Except Int (V × List UInt8)} {e : Ending} (h : Ans w0 b s n W r e w') :
    ∃ (kd m : Int) (t : ByteArray) (a1 : Option Addr) (n1 c1 : Nat) (a2 : Option Addr) (n2 c2 : Nat) (x : Value), e = .returned (.tuple #[.agg #[.int .i64 kd, .int .i64 m, .string t, .slice a1 n1 c1, .slice a2 n2 c2], x]) ∧ (x = .nilIface ∨ ∃ u z, x = .iface u z) := by
  obtain ⟨K, h⟩ := h
  cases r with
  | error c =>
    obtain ⟨x, e1, hx⟩ := h
    exact ⟨_, _, _, _, _, _, _, _, _, _, e1, .inr hx.iface⟩
  | ok r =>
    obtain ⟨l, f, e1, hr, _⟩ := h
    obtain ⟨a1, n1, c1, a2, rfl, rfl⟩ := hr.slices
    exact ⟨_, _, _, _, _, _, _, _, _, _, e1, .inl rfl⟩
theorem Ans.store {w0 w W2 w3 : World} {b m : Nat} {s : ByteArray} {r : Except Int (V × List UInt8)} {e : Ending} (h : Ans w0 b s m W2 r e w3) (K : Kept b w W2) (r2 : W2.heap[w.heap.size]? = some (.cells #[.int .i64 0, .int .i64 0, .string ⟨#[]⟩, .slice none 0 0, .slice none 0 0] 31 (0, 0))) (hne : w.heap.size ≠ b) (hle : w0.heap.size ≤ w.heap.size) (i0 i1 i2 i3 i4 : Nat) (a0 a1 a2 a3 a4 : Value) :
    Ans w0 b s m w r e (set5W w3 w.heap.size i0 i1 i2 i3 i4 a0 a1 a2 a3 a4) := by
  obtain ⟨K3, h⟩ := h
  have hlt := lt_of_heap r2
  have r0 := (K3.block _ hlt hne).trans r2
  refine ⟨(K.trans K3).set5 (Nat.le_refl _) _ _ _ _ _ _ _ _ _ _, ?_⟩
  cases r with
  | error c =>
    obtain ⟨x, e1, hx⟩ := h
    exact ⟨x, e1, hx.set5 r0 (by decide) _ _ _ _ _ _ _ _ _ _⟩
  | ok r =>
    obtain ⟨l, f, e1, hr, k', R, hd⟩ := h
    exact ⟨l, f, e1, hr.move fun c hc _ => ⟨by omega, set5W_ne _ _ _ _ _ _ _ _ _ _ _ _ (by omega)⟩, k', R.set5 hne hle _ _ _ _ _ _ _ _ _ _, hd⟩
theorem Ans.up {w0 W w' : World} {b n m : Nat} {s : ByteArray} {r : Except Int (V × List UInt8)} {e : Ending} (h : Ans w0 b s n W r e w') (hm : n ≤ m) : Ans w0 b s m W r e w' := by
  obtain ⟨K, h⟩ := h
  refine ⟨K, ?_⟩
  cases r with
  | error c => exact h
  | ok r =>
    obtain ⟨l, f, e1, hr, k', R, hd⟩ := h
    exact ⟨l, f, e1, hr.le hm, k', R, hd⟩

set_option maxRecDepth 100000 in
set_option maxHeartbeats 8000000 in
theorem value_step (n : Nat) (D : Int) (hD : 1 ≤ D) (hD2 : D ≤ 16) (ih : ValueAt n (D + 1)) : ValueAt (n + 1) D := by
  intro w0 b s k w R
  have hB : Below w.heap.size w (w.alloc (.cells #[.int .i64 0, .int .i64 0, .string ⟨#[]⟩, .slice none 0 0, .slice none 0 0] 31)) := (Below.refl _ _).alloc (Nat.le_refl _) _
  have hbl := blanks_any (R.same hB)
  obtain ⟨RR, hRR⟩ : ∃ r, valueP (n + 1) (s.data.toList.drop k) = r := ⟨_, rfl⟩
  rw [hRR]
  have HW := (show Hid _ from And.intro hRR R)
  have HI := (show Hid _ from ih)
  have zD : ¬ (16 : Int) < D := by omega
  clear hRR R hB ih
  go_enter Tryz.func27, Tryz.ntmps27
  go_wp2_with fail
  refine hbl.mono ?_
  rintro e w1 ⟨rfl, K1, k1, _, R1, hd1⟩
  obtain ⟨r1, K1', hne, hle⟩ := wordRow HW.out.2 K1
  obtain ⟨c, hc⟩ : ∃ c : Int, ((hd (s.data.toList.drop k1) : Nat) : Int) = c := ⟨_, rfl⟩
  have hpk := peek_any R1 hc
  have H1 := (show Hid _ from And.intro K1' (And.intro R1 (And.intro hd1 (And.intro r1 (And.intro hne (And.intro hle hc))))))
  clear hbl K1 K1' R1 hd1 r1 hne hle hc
  go_wp2_with fail
  refine hpk.mono ?_
  rintro e w2 ⟨rfl, hb2⟩
  obtain ⟨K1', R1, hd1, r1, hne, hle, hc⟩ := H1.out
  have R2 := R1.same hb2
  obtain ⟨r2, K2⟩ := wordRow2 K1' r1 (Kept.of_below hb2) hne
  have hval : RR = valueP (n + 1) (s.data.toList.drop k) := HW.out.1.symm
  simp only [valueP] at hval
  rw [← hd1] at hval
  have H2 := (show Hid _ from And.intro K2 (And.intro r2 (And.intro hne (And.intro hle hval))))
  have hHc := (show Hid _ from hc)
  clear hpk hb2 K1' R1 hd1 r1 hne hle hc r2 K2 hval
  by_cases h45 : c = 45
  · subst h45
    have hcall := number_any R2
    obtain ⟨rv, hrv⟩ : ∃ r, numP (s.data.toList.drop k1) = r := ⟨_, rfl⟩
    have hRv : RR = rv := by
      have := hHc.out
      rw [H2.out.2.2.2.2, ← hrv, if_pos (by omega)]
    subst hRv
    rw [hrv] at hcall
    clear hrv
    go_wp2_with fail
    refine hcall.mono ?_
    rintro e w3 hA
    obtain ⟨kd, nm, tt, b1, n1, d1, b2, n2, d2, x, rfl, hx⟩ := hA.form
    obtain ⟨K2, r2, hne, hle, hval⟩ := H2.out
    have r3 := (hA.1.block _ (lt_of_heap r2) hne).trans r2
    obtain ⟨j0, j1, j2, j3, j4, jf⟩ := row5 r3
    have HX := (show Hid _ from And.intro hA (And.intro K2 (And.intro r2 (And.intro hne hle))))
    clear hA K2 r2 hne hle hval r3 hcall R2
    rcases hx with rfl | ⟨u, z, rfl⟩
    all_goals
      go_wp2
      obtain ⟨hA, K2, r2, hne, hle⟩ := HX.out
      exact bodyPost_ret (v := .tuple #[.agg #[.int .i64 kd, .int .i64 nm, .string tt, .slice b1 n1 d1, .slice b2 n2 d2], _]) (by simp [results, Tryz.results27, go_sem, j0, j1, j2, j3, j4]) rfl ((hA.up (by omega)).store K2 r2 hne hle 0 1 2 3 4 _ _ _ _ _)
  · have e45 : (c == 45) = false := by simp; omega
    obtain ⟨q, hq⟩ : ∃ q, decide (48 ≤ c ∧ c ≤ 57) = q := ⟨_, rfl⟩
    have hjd := fun W => jdigit_any c W
    rw [hq] at hjd
    have HQ := (show Hid _ from hq)
    clear hq
    go_wp2_with fail
    refine (hjd _).mono ?_
    rintro e w3 ⟨rfl, rfl⟩
    clear hjd
    cases q
    · have hnd := of_decide_eq_false HQ.out
      by_cases h34 : c = 34
      · subst h34
        have hcall := text_any R2
        obtain ⟨rv, hrv⟩ : ∃ r, textP (s.data.toList.drop k1) = r := ⟨_, rfl⟩
        have hRv : RR = rv := by
          have := hHc.out
          rw [H2.out.2.2.2.2, ← hrv, if_neg (by omega), if_pos (by omega)]
        subst hRv
        rw [hrv] at hcall
        clear hrv hnd h45
        go_wp2_with fail
        refine hcall.mono ?_
        rintro e w3 hA
        obtain ⟨kd, nm, tt, b1, n1, d1, b2, n2, d2, x, rfl, hx⟩ := hA.form
        obtain ⟨K2, r2, hne, hle, hval⟩ := H2.out
        have r3 := (hA.1.block _ (lt_of_heap r2) hne).trans r2
        obtain ⟨j0, j1, j2, j3, j4, jf⟩ := row5 r3
        have HX := (show Hid _ from And.intro hA (And.intro K2 (And.intro r2 (And.intro hne hle))))
        clear hA K2 r2 hne hle hval r3 hcall R2
        rcases hx with rfl | ⟨u, z, rfl⟩
        all_goals
          go_wp2
          obtain ⟨hA, K2, r2, hne, hle⟩ := HX.out
          exact bodyPost_ret (v := .tuple #[.agg #[.int .i64 kd, .int .i64 nm, .string tt, .slice b1 n1 d1, .slice b2 n2 d2], _]) (by simp [results, Tryz.results27, go_sem, j0, j1, j2, j3, j4]) rfl ((hA.up (by omega)).store K2 r2 hne hle 0 1 2 3 4 _ _ _ _ _)
      · have e34 : (c == 34) = false := by simp; omega
        by_cases h91 : c = 91
        · subst h91
          have hcall := list_any n D hD (by omega) HI.out R2 (by have := hHc.out; omega)
          obtain ⟨rv, hrv⟩ : ∃ r, listP (valueP n) ((s.data.toList.drop k1).drop 1) = r := ⟨_, rfl⟩
          have hRv : RR = rv := by
            have := hHc.out
            rw [H2.out.2.2.2.2, ← hrv, if_neg (by omega), if_neg (by omega), if_pos (by omega)]
          subst hRv
          rw [hrv] at hcall
          clear hrv hnd h45 h34
          go_wp2_with fail
          refine hcall.mono ?_
          rintro e w3 hA
          obtain ⟨kd, nm, tt, b1, n1, d1, b2, n2, d2, x, rfl, hx⟩ := hA.form
          obtain ⟨K2, r2, hne, hle, hval⟩ := H2.out
          have r3 := (hA.1.block _ (lt_of_heap r2) hne).trans r2
          obtain ⟨j0, j1, j2, j3, j4, jf⟩ := row5 r3
          have HX := (show Hid _ from And.intro hA (And.intro K2 (And.intro r2 (And.intro hne hle))))
          clear hA K2 r2 hne hle hval r3 hcall R2
          rcases hx with rfl | ⟨u, z, rfl⟩
          all_goals
            go_wp2
            obtain ⟨hA, K2, r2, hne, hle⟩ := HX.out
            exact bodyPost_ret (v := .tuple #[.agg #[.int .i64 kd, .int .i64 nm, .string tt, .slice b1 n1 d1, .slice b2 n2 d2], _]) (by simp [results, Tryz.results27, go_sem, j0, j1, j2, j3, j4]) rfl ((hA.up (by omega)).store K2 r2 hne hle 0 1 2 3 4 _ _ _ _ _)
        · have e91 : (c == 91) = false := by simp; omega
          by_cases h123 : c = 123
          · subst h123
            have hcall := object_any n D hD (by omega) HI.out R2 (by have := hHc.out; omega)
            obtain ⟨rv, hrv⟩ : ∃ r, objP (valueP n) ((s.data.toList.drop k1).drop 1) = r := ⟨_, rfl⟩
            have hRv : RR = rv := by
              have := hHc.out
              rw [H2.out.2.2.2.2, ← hrv, if_neg (by omega), if_neg (by omega), if_neg (by omega), if_pos (by omega)]
            subst hRv
            rw [hrv] at hcall
            clear hrv hnd h45 h34 h91
            go_wp2_with fail
            refine hcall.mono ?_
            rintro e w3 hA
            obtain ⟨kd, nm, tt, b1, n1, d1, b2, n2, d2, x, rfl, hx⟩ := hA.form
            obtain ⟨K2, r2, hne, hle, hval⟩ := H2.out
            have r3 := (hA.1.block _ (lt_of_heap r2) hne).trans r2
            obtain ⟨j0, j1, j2, j3, j4, jf⟩ := row5 r3
            have HX := (show Hid _ from And.intro hA (And.intro K2 (And.intro r2 (And.intro hne hle))))
            clear hA K2 r2 hne hle hval r3 hcall R2
            rcases hx with rfl | ⟨u, z, rfl⟩
            all_goals
              go_wp2
              obtain ⟨hA, K2, r2, hne, hle⟩ := HX.out
              exact bodyPost_ret (v := .tuple #[.agg #[.int .i64 kd, .int .i64 nm, .string tt, .slice b1 n1 d1, .slice b2 n2 d2], _]) (by simp [results, Tryz.results27, go_sem, j0, j1, j2, j3, j4]) rfl ((hA.up (by omega)).store K2 r2 hne hle 0 1 2 3 4 _ _ _ _ _)
          · have e123 : (c == 123) = false := by simp; omega
            have hcall := word_any R2
            obtain ⟨rv, hrv⟩ : ∃ r, wordP (s.data.toList.drop k1) = r := ⟨_, rfl⟩
            have hRv : RR = rv := by
              have := hHc.out
              rw [H2.out.2.2.2.2, ← hrv, if_neg (by omega), if_neg (by omega), if_neg (by omega), if_neg (by omega)]
            subst hRv
            rw [hrv] at hcall
            clear hrv hnd h45 h34 h91 h123
            go_wp2_with fail
            refine hcall.mono ?_
            rintro e w3 hA
            obtain ⟨kd, nm, tt, b1, n1, d1, b2, n2, d2, x, rfl, hx⟩ := hA.form
            obtain ⟨K2, r2, hne, hle, hval⟩ := H2.out
            have r3 := (hA.1.block _ (lt_of_heap r2) hne).trans r2
            obtain ⟨j0, j1, j2, j3, j4, jf⟩ := row5 r3
            have HX := (show Hid _ from And.intro hA (And.intro K2 (And.intro r2 (And.intro hne hle))))
            clear hA K2 r2 hne hle hval r3 hcall R2
            rcases hx with rfl | ⟨u, z, rfl⟩
            all_goals
              go_wp2
              obtain ⟨hA, K2, r2, hne, hle⟩ := HX.out
              exact bodyPost_ret (v := .tuple #[.agg #[.int .i64 kd, .int .i64 nm, .string tt, .slice b1 n1 d1, .slice b2 n2 d2], _]) (by simp [results, Tryz.results27, go_sem, j0, j1, j2, j3, j4]) rfl ((hA.up (by omega)).store K2 r2 hne hle 0 1 2 3 4 _ _ _ _ _)
    · have hcall := number_any R2
      obtain ⟨rv, hrv⟩ : ∃ r, numP (s.data.toList.drop k1) = r := ⟨_, rfl⟩
      have hRv : RR = rv := by
        have := hHc.out
        have := of_decide_eq_true HQ.out
        rw [H2.out.2.2.2.2, ← hrv, if_pos (by omega)]
      subst hRv
      rw [hrv] at hcall
      clear hrv
      go_wp2_with fail
      refine hcall.mono ?_
      rintro e w3 hA
      obtain ⟨kd, nm, tt, b1, n1, d1, b2, n2, d2, x, rfl, hx⟩ := hA.form
      obtain ⟨K2, r2, hne, hle, hval⟩ := H2.out
      have r3 := (hA.1.block _ (lt_of_heap r2) hne).trans r2
      obtain ⟨j0, j1, j2, j3, j4, jf⟩ := row5 r3
      have HX := (show Hid _ from And.intro hA (And.intro K2 (And.intro r2 (And.intro hne hle))))
      clear hA K2 r2 hne hle hval r3 hcall R2
      rcases hx with rfl | ⟨u, z, rfl⟩
      all_goals
        go_wp2
        obtain ⟨hA, K2, r2, hne, hle⟩ := HX.out
        exact bodyPost_ret (v := .tuple #[.agg #[.int .i64 kd, .int .i64 nm, .string tt, .slice b1 n1 d1, .slice b2 n2 d2], _]) (by simp [results, Tryz.results27, go_sem, j0, j1, j2, j3, j4]) rfl ((hA.up (by omega)).store K2 r2 hne hle 0 1 2 3 4 _ _ _ _ _)

theorem value_any : ∀ n, n ≤ 16 → ValueAt n (17 - (n : Int))
  | 0, _ => by
    intro w0 b s k w R
    have hB : Below w.heap.size w (w.alloc (.cells #[.int .i64 0, .int .i64 0, .string ⟨#[]⟩, .slice none 0 0, .slice none 0 0] 31)) := (Below.refl _ _).alloc (Nat.le_refl _) _
    have hbl := blanks_any (R.same hB)
    have HW := (show Hid _ from R)
    obtain ⟨RR, hRR⟩ : ∃ r, valueP 0 (s.data.toList.drop k) = r := ⟨_, rfl⟩
    rw [hRR]
    have HR := (show Hid _ from hRR)
    show Calls _ _ #[_, .int .i64 17] _ _
    clear R hB hRR
    go_enter Tryz.func27, Tryz.ntmps27
    go_wp2_with fail
    refine hbl.mono ?_
    rintro e w1 ⟨rfl, K1, k1, _, R1, hd1⟩
    obtain ⟨r1, K1', hne, hle⟩ := wordRow HW.out K1
    have hcall := wrongV_any R1 2 rfl
    have H1 := (show Hid _ from And.intro K1' (And.intro r1 hne))
    clear hbl K1 K1' R1 hd1 r1 hne hle
    go_wp2_with fail
    refine hcall.mono ?_
    rintro e w3 ⟨x, rfl, hx, hb3⟩
    obtain ⟨K1', r1, hne⟩ := H1.out
    obtain ⟨r3, K3⟩ := wordRow2 K1' r1 (Kept.of_below hb3) hne
    obtain ⟨j0, j1, j2, j3, j4, jf⟩ := row5 r3
    obtain ⟨u, z, rfl⟩ := hx.iface
    have HX := (show Hid _ from And.intro hx (And.intro K3 r3))
    clear hx K3 r3 K1' r1 hne hb3 hcall
    go_wp2
    obtain ⟨hx, K3, r3⟩ := HX.out
    refine bodyPost_ret (v := .tuple #[zeroA, .iface u z]) (by simp [results, Tryz.results27, go_sem, j0, j1, j2, j3, j4]) rfl (Ans.err hx K3 r3 ?_ 0 1 2 3 4 _ _ _ _ _)
    rw [← HR.out]
    rfl
  | n + 1, h => by
    have hn := value_any n (by omega)
    have := value_step n (16 - (n : Int)) (by omega) (by omega) (by rw [show (16 - (n : Int)) + 1 = 17 - (n : Int) by omega]; exact hn)
    rw [show (17 - ((n + 1 : Nat) : Int)) = 16 - (n : Int) by omega]
    exact this
end Go.Proofs.YtnkoblhdbccbeaaGreatDoor

namespace Go.Proofs.YtnkoblhdbccbeaaGreatDoor
open Go.RowKit Go.Extern.Stop Go.Stop Go.Extern

/-- what Parse answers. -/
def AnsP (W : World) (r : Except Int V) (e : Ending) (w' : World) : Prop :=
  Below W.heap.size W w' ∧
  match r with
  | .error c => ∃ x, e = .returned (.tuple #[zeroA, x]) ∧ Flt c w' x
  | .ok v => ∃ l f, e = .returned (.tuple #[.agg #[.int .i64 v.kind, .int .i64 v.num, .string v.text, l, f], .nilIface]) ∧ Rep (fun k => W.heap.size ≤ k) 16 w' v l f

theorem AnsP.err {W w1 : World} {c : Int} {x : Value} {r : Except Int V} (hb : Below W.heap.size W w1) (hx : Flt c w1 x) (r0 : w1.heap[W.heap.size]? = some (.cells #[.int .i64 0, .int .i64 0, .string ⟨#[]⟩, .slice none 0 0, .slice none 0 0] 31 (0, 0))) (hr : r = .error c) (i0 i1 i2 i3 i4 : Nat) (a0 a1 a2 a3 a4 : Value) :
    AnsP W r (.returned (.tuple #[zeroA, x])) (set5W w1 W.heap.size i0 i1 i2 i3 i4 a0 a1 a2 a3 a4) := by
  subst hr
  exact ⟨set5W_below hb (Nat.le_refl _) _ _ _ _ _ _ _ _ _ _, x, rfl, hx.set5 r0 (by decide) _ _ _ _ _ _ _ _ _ _⟩
theorem AnsP.more {W w' w'' : World} {r : Except Int V} {e : Ending} (h : AnsP W r e w') (hb : Below w'.heap.size w' w'') : AnsP W r e w'' := by
  obtain ⟨K, h⟩ := h
  refine ⟨K.trans (hb.mono K.size), ?_⟩
  cases r with
  | error c =>
    obtain ⟨x, e1, hx⟩ := h
    exact ⟨x, e1, hx.below hb⟩
  | ok r =>
    obtain ⟨l, f, e1, hr⟩ := h
    exact ⟨l, f, e1, hr.below hb⟩

set_option maxRecDepth 100000 in
set_option maxHeartbeats 4000000 in
theorem Parse_any (s : ByteArray) (w : World) (hE : JEnv w) : Calls Tryz.prog 15 #[.string s] w (AnsP w (parseP s.data.toList)) := by
  obtain ⟨RR, hRR⟩ : ∃ r, parseP s.data.toList = r := ⟨_, rfl⟩
  rw [hRR]
  obtain ⟨O0, hO0⟩ : ∃ O, O = Obj.cells #[.int .i64 0, .int .i64 0, .string ⟨#[]⟩, .slice none 0 0, .slice none 0 0] 31 := ⟨_, rfl⟩
  by_cases hbig : 4096 < s.size
  · have z1 : (4096 : Int) < (s.size : Int) := by omega
    have HW := (show Hid _ from And.intro hRR hbig)
    clear hRR hbig
    go_enter Tryz.func15, Tryz.ntmps15
    go_wp2_with fail
    refine (New_some 3 rfl _ _).mono ?_
    rintro e w2 ⟨rfl, rfl⟩
    have hBw : Below w.heap.size w (w.alloc (.cells #[.int .i64 0, .int .i64 0, .string ⟨#[]⟩, .slice none 0 0, .slice none 0 0] 31)) := (Below.refl _ _).alloc (Nat.le_refl _) _
    obtain ⟨w1, hw1⟩ : ∃ w1, w1 = w.alloc (.cells #[.int .i64 0, .int .i64 0, .string ⟨#[]⟩, .slice none 0 0, .slice none 0 0] 31) := ⟨_, rfl⟩
    rw [← hw1] at hBw ⊢
    have r1 : w1.heap[w.heap.size]? = some (.cells #[.int .i64 0, .int .i64 0, .string ⟨#[]⟩, .slice none 0 0, .slice none 0 0] 31 (0, 0)) := by rw [hw1]; exact heap_alloc_new w _
    obtain ⟨w3, hw3⟩ : ∃ w3, w3 = w1.alloc (.cells #[.string ⟨#[106, 115, 111, 110]⟩, .iface 38 (.int .i64 3)] 86) := ⟨_, rfl⟩
    have hB13 : Below w1.heap.size w1 w3 := by rw [hw3]; exact (Below.refl _ _).alloc (Nat.le_refl _) _
    have hflt : Flt 3 w3 (.iface 84 (.pointer (some ⟨w1.heap.size, 0, none⟩))) := by
      refine ⟨[⟨#[106, 115, 111, 110]⟩], _, _, rfl, ?_, rfl⟩
      rw [hw3]
      show (Array.push _ _)[_]? = _
      rw [Array.getElem?_push, if_pos rfl]
    rw [← hw3]
    have r3 := (hB13.block _ (lt_of_heap r1)).trans r1
    have hB3 := hBw.trans (hB13.mono hBw.size)
    obtain ⟨j0, j1, j2, j3, j4, jf⟩ := row5 r3
    have HX := (show Hid _ from And.intro hB3 (And.intro hflt r3))
    clear hBw r1 hB13 hflt r3 hB3 hw1 hw3
    go_wp2
    obtain ⟨hB3, hflt, r3⟩ := HX.out
    refine bodyPost_ret (v := .tuple #[zeroA, .iface 84 (.pointer (some ⟨w1.heap.size, 0, none⟩))]) (by simp [results, Tryz.results15, go_sem, j0, j1, j2, j3, j4]) rfl (AnsP.err hB3 hflt r3 ?_ 0 1 2 3 4 _ _ _ _ _)
    rw [← HW.out.1]
    unfold parseP
    exact if_pos (by rw [← size_list (s := s) rfl]; exact HW.out.2)
  · have z1 : ¬ (4096 : Int) < (s.size : Int) := by omega
    have hpv : RR = match valueP 16 s.data.toList with | .error e => .error e | .ok r => if skip r.2 = [] then .ok r.1 else .error 1 := by
      rw [← hRR]
      unfold parseP
      rw [if_neg (by rw [← size_list (s := s) rfl]; exact hbig)]
      rfl
    obtain ⟨O1, hO1⟩ : ∃ O, O = Obj.cells #[.string s, .int .i64 0] 61 := ⟨_, rfl⟩
    have hB2 : Below w.heap.size w ((w.alloc O0).alloc O1) := ((Below.refl _ _).alloc (Nat.le_refl _) _).alloc (by simp) _
    have R0 : Rd w (w.heap.size + 1) s 0 ((w.alloc O0).alloc O1) := ⟨hE, hB2, by omega, by rw [heap_alloc2_new, hO1]; rfl, Nat.zero_le _, by omega⟩
    have hcall := value_any 16 (by omega) w (w.heap.size + 1) s 0 ((w.alloc O0).alloc O1) R0
    obtain ⟨rv, hrv⟩ : ∃ r, valueP 16 (s.data.toList.drop 0) = r := ⟨_, rfl⟩
    rw [hrv, hO0, hO1, show (17 - ((16 : Nat) : Int)) = 1 from rfl] at hcall
    rw [show s.data.toList = s.data.toList.drop 0 from rfl, hrv] at hpv
    have HW := (show Hid _ from And.intro hpv (And.intro hO0 (And.intro hO1 hB2)))
    clear hRR hpv hO0 hO1 hB2 R0 hrv hbig
    go_enter Tryz.func15, Tryz.ntmps15
    go_wp2_with fail
    refine hcall.mono ?_
    rintro e w3 hA
    have hK := hA.1
    obtain ⟨hpv, hO0, hO1, hB2⟩ := HW.out
    rw [← hO0, ← hO1] at hA hK
    have r0 : w3.heap[w.heap.size]? = some (.cells #[.int .i64 0, .int .i64 0, .string ⟨#[]⟩, .slice none 0 0, .slice none 0 0] 31 (0, 0)) := by rw [hK.block _ (by simp; omega) (by omega), heap_alloc2_old, hO0]
    have hB3 : Below w.heap.size w w3 := hB2.trans (hK.below (by omega) (by simp; omega))
    obtain ⟨j0, j1, j2, j3, j4, jf⟩ := row5 r0
    have hlt0 := lt_of_heap r0
    clear hcall
    cases rv with
    | error c =>
      obtain ⟨_, x, rfl, hx⟩ := hA
      obtain ⟨u, z, rfl⟩ := hx.iface
      have HX := (show Hid _ from And.intro hx (And.intro hB3 r0))
      clear hx hB3 r0 hpv hO0 hO1 hB2 hK
      go_wp2
      obtain ⟨hx, hB3, r0⟩ := HX.out
      obtain ⟨q0, q1, q2, q3, q4⟩ := cells_set5 r0 (.cells #[.int .i64 0, .int .i64 0, .string ⟨#[]⟩, .slice none 0 0, .slice none 0 0] 31) (.int .i64 0) (.int .i64 0) (.string ⟨#[]⟩) (.slice none 0 0) (.slice none 0 0)
      exact bodyPost_ret (v := .tuple #[zeroA, .iface u z]) (by simp [results, Tryz.results15, go_sem, q0, q1, q2, q3, q4]) rfl ((AnsP.err hB3 hx r0 HW.out.1 0 1 2 3 4 _ _ _ _ _).more ((Below.refl _ _).alloc (Nat.le_refl _) _))
    | ok rv =>
      obtain ⟨_, l, f, rfl, hrx, k3, R3, hd3⟩ := hA
      obtain ⟨bl, dl, bf, df, rfl, rfl⟩ := hrx.slices
      obtain ⟨x, rest⟩ := rv
      simp only at hrx hd3 hpv ⊢
      obtain ⟨O2, hO2⟩ : ∃ O, O = Obj.cells #[.int .i64 x.kind, .int .i64 x.num, .string x.text, .slice bl x.list.length dl, .slice bf x.fields.length df] 31 := ⟨_, rfl⟩
      have hA4 : Below w3.heap.size w3 (w3.alloc O2) := (Below.refl _ _).alloc (Nat.le_refl _) _
      have hbl := blanks_any (R3.same hA4)
      have hsz3 := hK.size
      rw [hO2] at hbl
      have H3 := (show Hid _ from And.intro hrx (And.intro R3 (And.intro hd3 (And.intro hB3 (And.intro r0 (And.intro hO2 (And.intro hA4 hsz3)))))))
      clear hrx R3 hd3 hB3 r0 hO2 hA4 hpv hO0 hO1 hB2 hK hsz3 j0 j1 j2 j3 j4 jf
      go_wp2_with fail
      refine hbl.mono ?_
      rintro e w4 ⟨rfl, K4, k4, _, R4, hd4⟩
      obtain ⟨hrx, R3, hd3, hB3, r0, hO2, hA4, hsz3⟩ := H3.out
      rw [← hO2] at K4
      have hz0 : w.heap.size + 2 ≤ w3.heap.size := by simpa using hsz3
      have r4 := (K4.block _ (by simp; omega) (by omega)).trans ((hA4.block _ (lt_of_heap r0)).trans r0)
      have v4 : w4.heap[w3.heap.size]? = some (.cells #[.int .i64 x.kind, .int .i64 x.num, .string x.text, .slice bl x.list.length dl, .slice bf x.fields.length df] 31 (0, 0)) := by rw [K4.block _ (by simp) (by omega), heap_alloc_new, hO2]
      have hB4 : Below w.heap.size w w4 := (hB3.trans (hA4.mono (by omega))).trans (K4.below (by omega) (by simp; omega))
      obtain ⟨c0, c1, cf, hcb⟩ := R4.cells
      have hk4 := R4.hk
      clear hbl
      by_cases hend : k4 < s.size
      · have z2 : (k4 : Int) < (s.size : Int) := by omega
        have hwr := wrongV_any R4 1 rfl
        have hsk : skip rest ≠ [] := by
          rw [← hd3, ← hd4]
          intro h
          have := len_drop (s := s) (k := k4)
          rw [h] at this
          simp at this
          omega
        have H4 := (show Hid _ from And.intro hB4 (And.intro r4 hsk))
        clear hrx R3 hd3 hB3 r0 hO2 hA4 hsz3 K4 R4 hd4 r4 v4 hB4 hsk
        go_wp2_with fail
        refine hwr.mono ?_
        rintro e w5 ⟨x', rfl, hx, hb5⟩
        obtain ⟨hB4, r4, hsk⟩ := H4.out
        have r5 := (hb5.block _ (lt_of_heap r4)).trans r4
        have hB5 := hB4.trans (hb5.mono hB4.size)
        obtain ⟨j0, j1, j2, j3, j4, jf⟩ := row5 r5
        obtain ⟨u, z, rfl⟩ := hx.iface
        have HX := (show Hid _ from And.intro hx (And.intro hB5 r5))
        clear hx hB5 r5 hB4 r4 hb5 hwr
        go_wp2
        obtain ⟨hx, hB5, r5⟩ := HX.out
        refine bodyPost_ret (v := .tuple #[zeroA, .iface u z]) (by simp [results, Tryz.results15, go_sem, j0, j1, j2, j3, j4]) rfl (AnsP.err hB5 hx r5 ?_ 0 1 2 3 4 _ _ _ _ _)
        rw [HW.out.1]
        exact if_neg hsk
      · have z2 : ¬ (k4 : Int) < (s.size : Int) := by omega
        have hsk : skip rest = [] := by
          rw [← hd3, ← hd4]
          exact hd_end hend
        obtain ⟨j0, j1, j2, j3, j4, jf⟩ := row5 r4
        obtain ⟨m0, m1, m2, m3, m4, mf⟩ := row5 v4
        have hrx4 : Rep (fun k => w.heap.size + 2 ≤ k) 16 w4 x (.slice bl x.list.length dl) (.slice bf x.fields.length df) := hrx.move fun c hc hl => by
          have hc' : w.heap.size + 2 ≤ c := by simpa using hc
          exact ⟨hc', (K4.block c (by have := hA4.size; omega) (by omega)).trans (hA4.block c hl)⟩
        have H4 := (show Hid _ from And.intro hB4 (And.intro hrx4 hsk))
        have hne34 : w3.heap.size ≠ w.heap.size := by omega
        have hlt4 := lt_of_heap v4
        clear hrx R3 hd3 hB3 r0 hO2 hA4 hsz3 K4 R4 hd4 r4 v4 hB4 hsk hrx4
        go_wp2
        obtain ⟨hB4, hrx4, hsk⟩ := H4.out
        refine bodyPost_ret (v := .tuple #[.agg #[.int .i64 x.kind, .int .i64 x.num, .string x.text, .slice bl x.list.length dl, .slice bf x.fields.length df], .nilIface]) (by simp [results, Tryz.results15, go_sem, j0, j1, j2, j3, j4]) rfl ?_
        rw [HW.out.1]
        show AnsP w (if skip rest = [] then .ok x else .error 1) _ _
        rw [if_pos hsk]
        exact ⟨set5W_below hB4 (Nat.le_refl _) 0 1 2 3 4 _ _ _ _ _, _, _, rfl, hrx4.move fun c hc _ => ⟨by omega, set5W_ne _ _ 0 1 2 3 4 _ _ _ _ _ (by omega)⟩⟩
end Go.Proofs.YtnkoblhdbccbeaaGreatDoor

namespace Go.Proofs.YtnkoblhdbccbeaaGreatDoor

def bnd : Nat → Nat
  | 0 => 21
  | n + 1 => 2 + 4 * (5 + bnd n)
theorem bnd_ge : ∀ n, 21 ≤ bnd n
  | 0 => Nat.le_refl _
  | n + 1 => by have := bnd_ge n; simp only [bnd]; omega
theorem sepBy_le (B : Nat) : ∀ (xs : List (List UInt8)), (∀ x ∈ xs, x.length ≤ B) → (sepBy xs).length ≤ xs.length * (B + 1)
  | [], _ => by simp [sepBy]
  | [x], h => by
    have := h x (by simp)
    simp only [sepBy, List.length_singleton]; omega
  | x :: y :: r, h => by
    have h1 := h x (by simp)
    have ih := sepBy_le B (y :: r) fun z hz => h z (by simp [hz])
    show (x ++ 44 :: sepBy (y :: r)).length ≤ _
    rw [List.length_append, List.length_cons]
    have e : (x :: y :: r).length * (B + 1) = (y :: r).length * (B + 1) + (B + 1) := by rw [List.length_cons, Nat.succ_mul]
    omega
theorem print_len : ∀ (n : Nat) (v : V), Nice n v → (printV (n + 1) v).length ≤ bnd n := by
  intro n
  induction n using Nat.strongRecOn with
  | _ n ih =>
    intro v hv
    obtain ⟨k0, k1, ⟨i0, i1⟩, ⟨⟨w, hw⟩, hb⟩⟩ := hv.parts
    obtain ⟨l3, f4, hri, hli, hfi⟩ := hv.inner
    have hge := bnd_ge n
    rw [printV_step]
    obtain e | e | e | e | e | e : v.kind = 0 ∨ v.kind = 1 ∨ v.kind = 2 ∨ v.kind = 3 ∨ v.kind = 4 ∨ v.kind = 5 := by omega
    · have hp : stepL (91 :: (sepBy (v.list.map (printV n)) ++ [93])) (123 :: (sepBy (v.fields.map (fieldL n)) ++ [125])) v = wNull := by simp [stepL, e]
      rw [hp]; exact Nat.le_trans (by decide) hge
    · have hp : stepL (91 :: (sepBy (v.list.map (printV n)) ++ [93])) (123 :: (sepBy (v.fields.map (fieldL n)) ++ [125])) v = (if v.num = 1 then wTrue else wFalse) := by simp [stepL, e]
      rw [hp]
      split <;> exact Nat.le_trans (by decide) hge
    · have hp : stepL (91 :: (sepBy (v.list.map (printV n)) ++ [93])) (123 :: (sepBy (v.fields.map (fieldL n)) ++ [125])) v = Lib.itoa v.num := by simp [stepL, e]
      rw [hp]; exact Nat.le_trans (Lib.itoa_length_le v.num i0 i1) hge
    · have hp : stepL (91 :: (sepBy (v.list.map (printV n)) ++ [93])) (123 :: (sepBy (v.fields.map (fieldL n)) ++ [125])) v = quoteL v.text.data.toList := by simp [stepL, e]
      rw [hp, hw]; exact Nat.le_trans (word_len w) (by omega)
    · have hp : stepL (91 :: (sepBy (v.list.map (printV n)) ++ [93])) (123 :: (sepBy (v.fields.map (fieldL n)) ++ [125])) v = 91 :: (sepBy (v.list.map (printV n)) ++ [93]) := by simp [stepL, e]
      rw [hp]
      cases hlist : v.list with
      | nil => simp [sepBy]; omega
      | cons x xs =>
        obtain ⟨m, rfl, _⟩ := hli x (by rw [hlist]; simp)
        have hs := sepBy_le (bnd m) (v.list.map (printV (m + 1))) fun y hy => by
          obtain ⟨z, hz, rfl⟩ := List.mem_map.1 hy
          obtain ⟨m', e', hz'⟩ := hli z hz
          obtain rfl : m = m' := by omega
          exact ih m (by omega) z hz'
        rw [List.length_map, hlist] at hs
        rw [hlist] at l3
        simp only [List.length_cons, List.length_append, List.length_nil, bnd] at hs l3 ⊢
        have : (xs.length + 1) * (bnd m + 1) ≤ 3 * (bnd m + 1) := Nat.mul_le_mul_right _ l3
        omega
    · have hp : stepL (91 :: (sepBy (v.list.map (printV n)) ++ [93])) (123 :: (sepBy (v.fields.map (fieldL n)) ++ [125])) v = 123 :: (sepBy (v.fields.map (fieldL n)) ++ [125]) := by simp [stepL, e]
      rw [hp]
      cases hlist : v.fields with
      | nil => simp [sepBy]; omega
      | cons x xs =>
        obtain ⟨_, m, rfl, _⟩ := hfi x (by rw [hlist]; simp)
        have hs := sepBy_le (4 + bnd m) (v.fields.map (fieldL (m + 1))) fun y hy => by
          obtain ⟨z, hz, rfl⟩ := List.mem_map.1 hy
          obtain ⟨⟨i, hi⟩, m', e', hz'⟩ := hfi z hz
          obtain rfl : m = m' := by omega
          have h1 := ih m (by omega) z.2 hz'
          show (quoteL z.1.data.toList ++ 58 :: printV (m + 1) z.2).length ≤ _
          rw [List.length_append, List.length_cons, hi, name_len]
          omega
        rw [List.length_map, hlist] at hs
        rw [hlist] at f4
        simp only [List.length_cons, List.length_append, List.length_nil, bnd] at hs f4 ⊢
        have : (xs.length + 1) * (4 + bnd m + 1) ≤ 4 * (4 + bnd m + 1) := Nat.mul_le_mul_right _ f4
        omega
theorem nice_fit : ∀ (n : Nat) (v : V), Nice n v → Fit n v
  | 0, v, h => ⟨h.parts.2.2.1, Nat.le_trans h.parts.2.2.2.size (by decide)⟩
  | n + 1, v, h => by
    refine ⟨h.parts.2.2.1, Nat.le_trans h.parts.2.2.2.size (by decide), fun x hx => nice_fit n x (h.2.2.2.2.2.2.2.1 x hx), fun p hp => ⟨?_, nice_fit n p.2 (h.2.2.2.2.2.2.2.2 p hp).2⟩⟩
    obtain ⟨i, hi⟩ := (h.2.2.2.2.2.2.2.2 p hp).1
    rw [hi]
    exact Nat.le_trans (nameAt_size i) (by decide)

theorem cmpL_map {α : Type} {f : α → α → Int} (g : α → α) : ∀ (xs : List α), (∀ x ∈ xs, f x (g x) = 0) → cmpL f xs (xs.map g) = 0
  | [], _ => rfl
  | x :: xs, h => by
    show (if f x (g x) = 0 then cmpL f xs (xs.map g) else f x (g x)) = 0
    rw [if_pos (h x (by simp))]
    exact cmpL_map g xs fun y hy => h y (by simp [hy])
theorem can_kind {n : Nat} {v : V} (h : Nice n v) : (canV (n + 1) v).kind = v.kind := by
  obtain ⟨k0, k1, _, _⟩ := h.parts
  obtain e | e | e | e | e | e : v.kind = 0 ∨ v.kind = 1 ∨ v.kind = 2 ∨ v.kind = 3 ∨ v.kind = 4 ∨ v.kind = 5 := by omega
  all_goals simp [canV, e, nulV, boolV, intV, textV, listV, objV]
theorem can_same : ∀ (k n : Nat) (v : V), Nice n v → cmpV k v (canV (n + 1) v) = 0
  | 0, _, _, _ => rfl
  | k + 1, n, v, h => by
    obtain ⟨_, _, _, hli, hfi⟩ := h.inner
    have hk := can_kind h
    show (if v.kind = (canV (n + 1) v).kind then _ else _) = (0 : Int)
    rw [if_pos hk.symm]
    obtain ⟨k0, k1, _, _⟩ := h.parts
    obtain e | e | e | e | e | e : v.kind = 0 ∨ v.kind = 1 ∨ v.kind = 2 ∨ v.kind = 3 ∨ v.kind = 4 ∨ v.kind = 5 := by omega
    · simp [e]
    · have : (canV (n + 1) v).num = v.num := by simp [canV, e, boolV]
      simp [e, this, cmpI]
    · have : (canV (n + 1) v).num = v.num := by simp [canV, e, intV]
      simp [e, this, cmpI]
    · have : (canV (n + 1) v).text = v.text := by simp [canV, e, textV]
      simp [e, this, good_cmpT.refl]
    · have : (canV (n + 1) v).list = v.list.map (canV n) := by simp [canV, e, listV]
      simp only [e, this]
      simp only [show ¬ ((4 : Int) = 1 ∨ (4 : Int) = 2) by decide, show ¬ (4 : Int) = 3 by decide, if_false, if_true]
      refine cmpL_map _ _ fun x hx => ?_
      obtain ⟨m, rfl, hm⟩ := hli x hx
      exact can_same k m x hm
    · have : (canV (n + 1) v).fields = v.fields.map fun p => (p.1, canV n p.2) := by simp [canV, e, objV]
      simp only [e, this]
      simp only [show ¬ ((5 : Int) = 1 ∨ (5 : Int) = 2) by decide, show ¬ (5 : Int) = 3 by decide, show ¬ (5 : Int) = 4 by decide, if_false, if_true]
      refine cmpL_map _ _ fun x hx => ?_
      obtain ⟨_, m, rfl, hm⟩ := hfi x hx
      show (if cmpT x.1 x.1 = 0 then cmpV k x.2 (canV (m + 1) x.2) else _) = 0
      rw [if_pos (good_cmpT.refl _)]
      exact can_same k m x.2 hm

theorem word_valid (i : Nat) : Lib.validD (wordAt i).data.toList = true := by
  rw [valid_iff_mend]; exact decide_eq_true (word_mend i)
theorem name_valid (i : Nat) : Lib.validD (nameAt i).data.toList = true := by
  rw [valid_iff_mend]; exact decide_eq_true (name_mend i)
theorem rises_map (g : V → V) : ∀ (fs : List (ByteArray × V)), Rises fs → Rises (fs.map fun p => (p.1, g p.2))
  | [], _ => trivial
  | [_], _ => trivial
  | _ :: q :: r, h => ⟨h.1, rises_map g (q :: r) h.2⟩

theorem can_fine : ∀ (n : Nat) (v : V), Nice n v → ∀ m, n ≤ m → Fit m (canV (n + 1) v) ∧ VOk m (canV (n + 1) v) ∧ printV (m + 1) (canV (n + 1) v) = printV (n + 1) v := by
  intro n
  induction n using Nat.strongRecOn with
  | _ n ih =>
    intro v hv m hm
    obtain ⟨k0, k1, hI, ⟨⟨w, hw⟩, hb⟩⟩ := hv.parts
    obtain ⟨_, _, hri, hli, hfi⟩ := hv.inner
    have hleaf : ∀ (u : V), u.list = [] → u.fields = [] → I64 u.num → u.text.size ≤ 1000000 → Fit m u := by
      intro u h1 h2 h3 h4
      cases m with
      | zero => exact ⟨h3, h4⟩
      | succ m => exact ⟨h3, h4, fun x hx => (by rw [h1] at hx; cases hx), fun x hx => (by rw [h2] at hx; cases hx)⟩
    have z64 : I64 0 := ⟨by decide, by decide⟩
    have hz : (⟨#[]⟩ : ByteArray).size ≤ 1000000 := by decide
    obtain e | e | e | e | e | e : v.kind = 0 ∨ v.kind = 1 ∨ v.kind = 2 ∨ v.kind = 3 ∨ v.kind = 4 ∨ v.kind = 5 := by omega
    · have hc : canV (n + 1) v = nulV := by simp [canV, e]
      rw [hc]
      refine ⟨hleaf _ rfl rfl z64 hz, by cases m <;> exact .inl rfl, ?_⟩
      rw [printV_step, printV_step]; simp [stepL, e, nulV]
    · have hc : canV (n + 1) v = boolV v.num := by simp [canV, e]
      rw [hc]
      refine ⟨hleaf _ rfl rfl hI hz, ?_, ?_⟩
      · rcases hb e with h | h
        · rw [h]; cases m <;> exact .inr (.inl (.inl rfl))
        · rw [h]; cases m <;> exact .inr (.inl (.inr rfl))
      · rw [printV_step, printV_step]; by_cases hn : v.num = 1 <;> simp [stepL, e, boolV, hn]
    · have hc : canV (n + 1) v = intV v.num := by simp [canV, e]
      rw [hc]
      refine ⟨hleaf _ rfl rfl hI hz, by cases m <;> exact .inr (.inr (.inl ⟨_, rfl⟩)), ?_⟩
      rw [printV_step, printV_step]; simp [stepL, e, intV]
    · have hc : canV (n + 1) v = textV v.text := by simp [canV, e]
      rw [hc]
      have hs : v.text.size ≤ 1000000 := by rw [hw]; exact Nat.le_trans (wordAt_size w) (by decide)
      refine ⟨hleaf _ rfl rfl z64 hs, ?_, ?_⟩
      · have hvd : Lib.validD v.text.data.toList = true := by rw [hw]; exact word_valid w
        cases m <;> exact .inr (.inr (.inr (.inl ⟨_, rfl, hs, hvd⟩)))
      · rw [printV_step, printV_step]; simp [stepL, e, textV]
    · have hc : canV (n + 1) v = listV (v.list.map (canV n)) := by simp [canV, e]
      rw [hc]
      cases m with
      | zero =>
        have hl : v.list = [] := by
          cases hx : v.list with
          | nil => rfl
          | cons x xs => obtain ⟨m', e', _⟩ := hli x (by rw [hx]; simp); omega
        rw [hl]
        refine ⟨hleaf _ rfl rfl z64 hz, .inr (.inr (.inr (.inr (.inl rfl)))), ?_⟩
        rw [printV_step, printV_step]; simp [stepL, e, listV, hl]
      | succ m =>
        have hin : ∀ x ∈ v.list, Fit m (canV n x) ∧ VOk m (canV n x) ∧ printV (m + 1) (canV n x) = printV n x := fun x hx => by
          obtain ⟨k, rfl, hk⟩ := hli x hx
          exact ih k (by omega) x hk m (by omega)
        refine ⟨⟨z64, hz, fun y hy => ?_, fun y hy => by cases hy⟩, .inr (.inr (.inr (.inr (.inl ⟨_, rfl, fun y hy => ?_⟩)))), ?_⟩
        · obtain ⟨x, hx, rfl⟩ := List.mem_map.1 hy
          exact (hin x hx).1
        · obtain ⟨x, hx, rfl⟩ := List.mem_map.1 hy
          exact (hin x hx).2.1
        · have hmap : (v.list.map (canV n)).map (printV (m + 1)) = v.list.map (printV n) := by
            rw [List.map_map]
            exact List.map_congr_left fun x hx => (hin x hx).2.2
          rw [printV_step, printV_step]
          simp only [stepL, e, listV, hmap]
          simp
    · have hc : canV (n + 1) v = objV (v.fields.map fun p => (p.1, canV n p.2)) := by simp [canV, e]
      rw [hc]
      cases m with
      | zero =>
        have hl : v.fields = [] := by
          cases hx : v.fields with
          | nil => rfl
          | cons x xs => obtain ⟨_, m', e', _⟩ := hfi x (by rw [hx]; simp); omega
        rw [hl]
        refine ⟨hleaf _ rfl rfl z64 hz, .inr (.inr (.inr (.inr (.inr rfl)))), ?_⟩
        rw [printV_step, printV_step]; simp [stepL, e, objV, hl]
      | succ m =>
        have hin : ∀ x ∈ v.fields, x.1.size ≤ 1000000 ∧ Lib.validD x.1.data.toList = true ∧ Fit m (canV n x.2) ∧ VOk m (canV n x.2) ∧ printV (m + 1) (canV n x.2) = printV n x.2 := fun x hx => by
          obtain ⟨⟨i, hi⟩, k, rfl, hk⟩ := hfi x hx
          refine ⟨by rw [hi]; exact Nat.le_trans (nameAt_size i) (by decide), by rw [hi]; exact name_valid i, ih k (by omega) x.2 hk m (by omega)⟩
        refine ⟨⟨z64, hz, fun y hy => (by cases hy), fun y hy => ?_⟩, .inr (.inr (.inr (.inr (.inr ⟨_, rfl, rises_map _ _ hri, fun y hy => ?_⟩)))), ?_⟩
        · obtain ⟨x, hx, rfl⟩ := List.mem_map.1 hy
          exact ⟨(hin x hx).1, (hin x hx).2.2.1⟩
        · obtain ⟨x, hx, rfl⟩ := List.mem_map.1 hy
          exact ⟨(hin x hx).1, (hin x hx).2.1, (hin x hx).2.2.2.1⟩
        · have hmap : (v.fields.map fun p => (p.1, canV n p.2)).map (fieldL (m + 1)) = v.fields.map (fieldL n) := by
            rw [List.map_map]
            refine List.map_congr_left fun x hx => ?_
            show quoteL x.1.data.toList ++ 58 :: printV (m + 1) (canV n x.2) = _
            rw [(hin x hx).2.2.2.2]; rfl
          rw [printV_step, printV_step]
          simp only [stepL, e, objV, hmap]
          simp

/-- what is printed is read as it was. -/
theorem parse_print (v : V) (h : Nice 3 v) : parseP (printV 4 v) = .ok (canV 4 v) := by
  have hl := print_len 3 v h
  have hv := value_print 3 v h 16 (by decide) [] ⟨by decide, by decide⟩
  rw [List.append_nil] at hv
  rw [parse_value (Nat.le_trans hl (by decide)), hv]
  rfl
end Go.Proofs.YtnkoblhdbccbeaaGreatDoor
