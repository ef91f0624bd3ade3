/-
  HeapFull's walk. No conditions beyond those stated.
-/
import Derived.Test.YtjihfbahcebljaaHSt
import Derived.WalkArith
namespace Go.Proofs.Ytjihfbahcebljaa
open Go.RowKit

theorem fwrap {x : Int} (h0 : -1000000 ≤ x) (h1 : x ≤ 1000000) : IntKind.i64.wrap x = x := by rw [IntKind.wrap_i64]; omega
theorem fwrap64 {x : Int} (h0 : -1000000 ≤ x) (h1 : x ≤ 1000000) : wrap64 x = x := by unfold wrap64; omega
/-- all numbers from 1 on are there. -/
def AllTo (m : Nat) (rs : List Rec) : Prop := ∀ q : Int, (getR q rs).isSome = decide (1 ≤ q ∧ q ≤ (m : Int))

set_option maxRecDepth 100000 in
set_option maxHeartbeats 4000000 in
theorem HeapFull_walk (c0 : Int) (wc0 : (Lit.int .u16 c0).wf = true) (c1 : Int) (wc1 : (Lit.int .u8 c1).wf = true) (w : World) :
    Calls Try.prog 3 #[.int .u16 c0, .int .u8 c1] w fun e w' => e = .returned (.bool true) ∧ Below w.heap.size w w' := by
  have hc0 : 0 ≤ c0 := by
    simp only [Lit.wf, Bool.and_eq_true, decide_eq_true_eq] at wc0
    have h1 : IntKind.u16.min = 0 := rfl
    omega
  have hc1 : 0 ≤ c1 ∧ c1 ≤ 255 := by
    simp only [Lit.wf, Bool.and_eq_true, decide_eq_true_eq] at wc1
    have h1 : IntKind.u8.min = 0 := rfl
    have h2 : IntKind.u8.max = 255 := rfl
    omega
  obtain ⟨K, hK⟩ : ∃ K : Nat, c0 % 520 = (K : Int) := ⟨(c0 % 520).toNat, by omega⟩
  have hK5 : K < 520 := by omega
  have zKt : c0.tmod 520 = c0 % 520 := Int.tmod_eq_emod_of_nonneg hc0
  have zKw : IntKind.i64.wrap (K : Int) = (K : Int) := fwrap (by omega) (by omega)
  have haw := hawake_true w
  have C1 : Hid (0 ≤ c1 ∧ c1 ≤ 255) := hc1
  clear wc0 wc1 hc1
  go_enter Try.func3, Try.ntmps3
  go_wp2_with fail
  refine haw.mono ?_
  rintro e w1 ⟨rfl, hB1⟩
  clear haw
  go_wp2_with fail
  refine (NewH_any w1).mono ?_
  rintro e w2 ⟨rfl, h2, hb2⟩
  obtain ⟨B, hBd⟩ : ∃ B, w1.heap.size = B := ⟨_, rfl⟩
  rw [hBd] at h2
  have hB2 : Below w.heap.size w w2 := hB1.trans (hb2.mono hB1.size)
  have zB : w.heap.size ≤ B := by have h := hB1.size; rw [hBd] at h; exact h
  have H2 : Hid (HSt B w2 B [] 0 ∧ Below w.heap.size w w2) := ⟨h2, hB2⟩
  rw [hBd]
  clear h2 hB2 hb2 hBd hB1
  go_wp2_with fail
  clear zKw zKt hc0
  go_loopg [7, 8, 9] K (fun gg i _ _ wr => ∃ (j m : Nat) (rs : List Rec), j ≤ K ∧ K - j ≤ gg ∧ i = .int .i64 (j : Int) ∧ m = min j 500 ∧ rs.length = m ∧ Aside (HSt B wr B rs (m : Int) ∧ Below w.heap.size w wr ∧ AllTo m rs))
  case atStart => exact ⟨0, 0, [], Nat.zero_le _, by omega, rfl, rfl, rfl, H2.out.1, H2.out.2, fun q => by
    have : decide (1 ≤ q ∧ q ≤ ((0 : Nat) : Int)) = false := by simp; omega
    rw [this]; rfl⟩
  case round =>
    obtain ⟨j, m, rs, hj, hgg, rfl, hm, hrl, A⟩ := hrel
    by_cases hlt : j < K
    · have zj : (j : Int) < (K : Int) := by omega
      have YY : Hid (K - (j + 1) < gk ∧ j + 1 ≤ K) := ⟨by omega, by omega⟩
      by_cases h5 : j < 500
      · obtain rfl : m = j := by omega
        have z5 : (m : Int) < 500 := by omega
        have z5d : decide ((m : Int) < 500) = true := by simpa using z5
        have y1 : wrap64 ((m : Int) + 1) = (m : Int) + 1 := fwrap64 (by omega) (by omega)
        have hcall := InsH_any (intH (m : Int)) (.slice none 0 0) (.slice none 0 0) wr A.out.1 lies_int (by clear y1; omega) (by clear y1; omega)
        have M5 : Hid (m + 1 = min (m + 1) 500) := by clear y1; show m + 1 = _; omega
        clear hm hgg hj hlt hK hK5 h5
        go_wp2_with fail
        refine hcall.mono ?_
        rintro e w3 ⟨rfl, h3, -, hb3⟩
        have H3 : Hid (HSt B w3 B (rs ++ [((m : Int) + 1, intH (m : Int))]) (((m + 1 : Nat)) : Int) ∧ Below w.heap.size w w3 ∧ AllTo (m + 1) (rs ++ [((m : Int) + 1, intH (m : Int))])) := by
          refine ⟨h3, A.out.2.1.trans (hb3.mono zB), fun q => ?_⟩
          rw [get_appR A.out.1.2.2.1]
          clear y1
          by_cases e : q = (m : Int) + 1
          · rw [if_pos e]
            have : decide (1 ≤ q ∧ q ≤ ((m + 1 : Nat) : Int)) = true := by simp; omega
            rw [this]; rfl
          · rw [if_neg e, A.out.2.2 q]
            congr 1
            apply propext
            omega
        clear hcall h3 hb3
        go_wp2
        go_roundg (K - (m + 1))
        case measure => exact YY.out.1
        case rel => exact ⟨m + 1, m + 1, rs ++ [((m : Int) + 1, intH (m : Int))], YY.out.2, Nat.le_refl _, by go_num, M5.out, by rw [List.length_append, hrl]; rfl, H3.out⟩
      · obtain rfl : m = 500 := by omega
        have z5 : ¬ (j : Int) < 500 := by omega
        have z5d : decide ((j : Int) < 500) = false := by simpa using z5
        have y1 : wrap64 ((j : Int) + 1) = (j : Int) + 1 := fwrap64 (by omega) (by omega)
        have hcall := FullH_any (intH (j : Int)) (.slice none 0 0) (.slice none 0 0) wr A.out.1 lies_int (by rw [hrl]; exact Nat.le_refl _)
        have M5 : Hid (500 = min (j + 1) 500) := by clear y1; show 500 = _; omega
        clear hm hgg hj hlt hK hK5 h5
        go_wp2_with fail
        refine hcall.mono ?_
        rintro e w3 ⟨rfl, hb3⟩
        have H3 : Hid (HSt B w3 B rs (((500 : Nat)) : Int) ∧ Below w.heap.size w w3 ∧ AllTo 500 rs) := ⟨A.out.1.below hb3, A.out.2.1.trans (hb3.mono A.out.2.1.size), A.out.2.2⟩
        clear hcall hb3
        go_wp2
        go_roundg (K - (j + 1))
        case measure => exact YY.out.1
        case rel => exact ⟨j + 1, 500, rs, YY.out.2, Nat.le_refl _, by go_num, M5.out, hrl, H3.out⟩
    · obtain rfl : j = K := by omega
      have zj : ¬ (j : Int) < (j : Int) := by omega
      have hmin : min (j : Int) 500 = (m : Int) := by omega
      have hc1 : 0 ≤ c1 ∧ c1 ≤ 255 := C1
      have W1 : Hid (IntKind.i64.wrap c1 = c1 ∧ wrap64 (c1 + 1) = c1 + 1 ∧ wrap64 ((m : Int) + 1) = (m : Int) + 1 ∧ IntKind.i64.wrap (c1 + 1) = c1 + 1 ∧ IntKind.i64.wrap ((m : Int) + 1) = (m : Int) + 1) :=
        ⟨fwrap (by omega) (by omega), fwrap64 (by omega) (by omega), fwrap64 (by omega) (by omega), fwrap (by omega) (by omega), fwrap (by omega) (by omega)⟩
      have hdel := DelH_any (c1 + 1) wr A.out.1
      rw [A.out.2.2 (c1 + 1)] at hdel
      obtain ⟨p, hp⟩ : ∃ p, decide (1 ≤ c1 + 1 ∧ c1 + 1 ≤ (m : Int)) = p := ⟨_, rfl⟩
      rw [hp] at hdel
      have hpK : decide (c1 < (j : Int)) = p := by
        rw [← hp]
        congr 1
        apply propext
        omega
      have hlen : (delR (c1 + 1) rs).length = m - if p then 1 else 0 := by rw [len_delR, A.out.2.2 (c1 + 1), hp, hrl]
      have hroom : (delR (c1 + 1) rs).length < 500 := by
        rw [hlen]
        cases p with
        | true =>
          simp only [decide_eq_true_eq] at hpK
          simp only [if_true]
          omega
        | false =>
          simp only [decide_eq_false_iff_not] at hpK
          simp only [Bool.false_eq_true, if_false]
          omega
      have hp5 : p = false → (j : Int) < 500 := fun e => by
        subst e
        simp only [decide_eq_false_iff_not] at hpK
        omega
      have hl3 : (delR (c1 + 1) rs).length + 1 ≤ 500 := hroom
      have hm1 : (m : Int) ≤ 1000000000 := by omega
      clear hp hlen hm hgg hj hlt hK hK5 hc1 hrl
      obtain ⟨w1a, w1b, w1c, w1d, w1e⟩ := W1.out
      go_wp2_with fail
      refine hdel.mono ?_
      rintro e w3 ⟨rfl, h3, -, hb3⟩
      have hb03 := A.out.2.1.trans (hb3.mono zB)
      clear hdel hb3
      go_wp2_with fail
      refine (InsH_any zeroH (.slice none 0 0) (.slice none 0 0) w3 h3 lies_zero hroom hm1).mono ?_
      rintro e w4 ⟨rfl, h4, -, hb4⟩
      have hB4 := hb03.trans (hb4.mono zB)
      have hLn := LenH_any w4 h4
      obtain ⟨L, hL⟩ : ∃ L, (delR (c1 + 1) rs ++ [((m : Int) + 1, zeroH)]).length = L := ⟨_, rfl⟩
      rw [hL] at hLn
      have hL5 : (L : Int) ≤ 500 := by
        rw [List.length_append] at hL
        simp only [List.length_cons, List.length_nil] at hL
        clear w1a w1b w1c w1d w1e
        omega
      have H4 : Hid (Below w.heap.size w w4) := hB4
      clear h3 h4 hb4 hB4 hb03 hL hroom hl3 hm1
      cases p with
      | true =>
        have zc : c1 < (j : Int) := by simpa using hpK
        clear hpK hp5
        go_wp2_with fail
        refine hLn.mono ?_
        rintro e w5 ⟨rfl, e5⟩
        rw [e5]
        clear e5 w5 hLn
        go_wp2
        go_ret
        exact ⟨by simp, H4.out⟩
      | false =>
        have zc : ¬ c1 < (j : Int) := by simpa using hpK
        have z5 := hp5 rfl
        clear hpK hp5
        go_wp2_with fail
        refine hLn.mono ?_
        rintro e w5 ⟨rfl, e5⟩
        rw [e5]
        clear e5 w5 hLn
        go_wp2
        go_ret
        exact ⟨by simp [zc], H4.out⟩
end Go.Proofs.Ytjihfbahcebljaa
