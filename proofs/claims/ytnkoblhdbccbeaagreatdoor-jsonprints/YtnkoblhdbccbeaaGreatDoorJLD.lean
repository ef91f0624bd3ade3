/-
  The law's digits by its contract: it tells what the plain function itoa writes. Condition: the number has 64 bits.
-/
import Derived.Test.YtnkoblhdbccbeaaGreatDoorU3
import Derived.Test.YtnkoblhdbccbeaaGreatDoorU10
namespace Go.Proofs.YtnkoblhdbccbeaaGreatDoor
open Go.RowKit Go.Extern.Stop Go.Stop Go.Extern

theorem dec_lt (u : Nat) (h : u < 10) : Lib.decDigits u = [UInt8.ofNat (48 + u)] := by
  rw [Lib.decDigits, dif_pos h]
theorem dec_split (u : Nat) (h : 10 ≤ u) : Lib.decDigits u = Lib.decDigits (u / 10) ++ Lib.decDigits (u % 10) := by
  rw [dec_lt (u % 10) (by omega)]
  rw [Lib.decDigits, dif_neg (by omega)]
theorem itoa_nn (n : Int) (h : 0 ≤ n) : Lib.itoa n = Lib.decDigits n.toNat := by
  unfold Lib.itoa; rw [if_neg (by omega)]
theorem itoa_split (n : Int) (h : 10 ≤ n) : Lib.itoa n = Lib.itoa (n / 10) ++ Lib.itoa (n % 10) := by
  rw [itoa_nn n (by omega), itoa_nn (n / 10) (by omega), itoa_nn (n % 10) (by omega), dec_split _ (by omega)]
  congr 2 <;> omega
theorem itoa_neg (n : Int) (h : n < 0) : Lib.itoa n = 45 :: Lib.itoa (-n) := by
  rw [itoa_nn (-n) (by omega)]
  unfold Lib.itoa; rw [if_pos h]
  congr 2; omega
theorem itoa_split_neg (n q r : Int) (h : n ≤ -10) (hn : n = 10 * q - r) (h0 : 0 ≤ r) (h1 : r < 10) : Lib.itoa n = Lib.itoa q ++ Lib.itoa r := by
  rw [itoa_neg n (by omega), itoa_neg q (by omega), itoa_split (-n) (by omega), List.cons_append]
  congr 3 <;> omega

def tenD : ByteArray := ⟨#[48, 49, 50, 51, 52, 53, 54, 55, 56, 57]⟩
theorem ten_one : ∀ i : Fin 10, tenD.extract i.val (i.val + 1) = ⟨#[UInt8.ofNat (48 + i.val)]⟩ := by decide +kernel
theorem slice_ten (z : Int) (h0 : 0 ≤ z) (h1 : z < 10) (W : World) : (Instr.slice 9 (.string ⟨#[48, 49, 50, 51, 52, 53, 54, 55, 56, 57]⟩) (some (.int .i64 z)) (some (.int .i64 (z + 1))) none).run Tryz.prog W = .ok (.string ⟨(Lib.itoa z).toArray⟩) W := by
  have e := ten_one ⟨z.toNat, by omega⟩
  have hz : (((⟨#[48, 49, 50, 51, 52, 53, 54, 55, 56, 57]⟩ : ByteArray).size : Nat) : Int) = 10 := rfl
  rw [run_slice_string (P := Tryz.prog) W 9 _ .i64 .i64 _ _ Tryz.underlying9 h0 (by omega) (by rw [hz]; omega)]
  have e2 : (z + 1).toNat = z.toNat + 1 := by omega
  rw [e2, itoa_nn z h0, dec_lt _ (by omega)]
  have e3 := e
  unfold tenD at e3
  simp only at e3
  rw [e3]

set_option maxRecDepth 100000 in
theorem ldigits_one (z : Int) (h0 : 0 ≤ z) (h1 : z < 10) (w : World) : Calls Tryz.prog 23 #[.int .i64 z] w fun e w' => e = .returned (.string ⟨(Lib.itoa z).toArray⟩) ∧ Below w.heap.size w w' := by
  have hs := slice_ten z h0 h1
  obtain ⟨X, hX⟩ : ∃ X : ByteArray, (⟨(Lib.itoa z).toArray⟩ : ByteArray) = X := ⟨_, rfl⟩
  rw [hX] at hs ⊢
  clear hX
  go_enter Tryz.func23, Tryz.ntmps23
  go_wp2
  go_ret
  exact ⟨rfl, Below.refl _ _⟩

theorem itoa_len20 (n : Int) (h : I64 n) : (Lib.itoa n).length ≤ 21 := by
  obtain ⟨a, b⟩ := h
  exact Lib.itoa_length_le n a b

set_option maxRecDepth 100000 in
set_option maxHeartbeats 1000000 in
theorem ldigits_at : ∀ (k : Nat) (n : Int), n.natAbs ≤ k → I64 n → ∀ w : World, Calls Tryz.prog 23 #[.int .i64 n] w fun e w' => e = .returned (.string ⟨(Lib.itoa n).toArray⟩) ∧ Below w.heap.size w w' := by
  intro k
  induction k with
  | zero => intro n h _ w; exact ldigits_one n (by omega) (by omega) w
  | succ k ih =>
    intro n h hi w
    by_cases h10 : 0 ≤ n ∧ n < 10
    · exact ldigits_one n h10.1 h10.2 w
    obtain ⟨i0, i1⟩ := hi
    by_cases hp : 0 < n
    · have hq := ih (n / 10) (by omega) ⟨by omega, by omega⟩
      have hr := ldigits_one (n % 10) (by omega) (by omega)
      have hl := itoa_len20 (n / 10) ⟨by omega, by omega⟩
      have hl2 := itoa_len20 (n % 10) ⟨by omega, by omega⟩
      have hsp := itoa_split n (by omega)
      have c1 : 0 ≤ n := by omega
      have c2 : ¬ n < 10 := by omega
      obtain ⟨A, hA⟩ : ∃ A : ByteArray, (⟨(Lib.itoa (n / 10)).toArray⟩ : ByteArray) = A := ⟨_, rfl⟩
      obtain ⟨B, hB⟩ : ∃ A : ByteArray, (⟨(Lib.itoa (n % 10)).toArray⟩ : ByteArray) = A := ⟨_, rfl⟩
      have hAz : A.size ≤ 21 := by rw [← hA]; exact hl
      have hBz : B.size ≤ 21 := by rw [← hB]; exact hl2
      have H := (show Hid _ from And.intro hsp (And.intro hA hB))
      simp only [hA] at hq
      simp only [hB] at hr
      clear hsp hA hB hl hl2 ih h10 h
      go_enter Tryz.func23, Tryz.ntmps23
      go_wp2_with fail
      refine (hq _).mono ?_
      rintro e w1 ⟨rfl, hb1⟩
      go_wp2_with fail
      refine (hr _).mono ?_
      rintro e w2 ⟨rfl, hb2⟩
      go_wp2_with fail
      go_ret
      obtain ⟨hsp, hA, hB⟩ := H.out
      refine ⟨?_, hb1.trans (hb2.mono hb1.size)⟩
      rw [hsp, ← hA, ← hB]
      congr 2
    · have hneg : n < 0 := by omega
      by_cases hs : -10 < n
      · have hr := ldigits_one (-n) (by omega) (by omega)
        have hl := itoa_len20 (-n) ⟨by omega, by omega⟩
        have hsp := itoa_neg n hneg
        have c1 : ¬ 0 ≤ n := by omega
        obtain ⟨B, hB⟩ : ∃ A : ByteArray, (⟨(Lib.itoa (-n)).toArray⟩ : ByteArray) = A := ⟨_, rfl⟩
        have hBz : B.size ≤ 21 := by rw [← hB]; exact hl
        have H := (show Hid _ from And.intro hsp hB)
        obtain ⟨m, hm⟩ : ∃ m, -n = m := ⟨_, rfl⟩
        have hwm : wrap64 m = m := by unfold wrap64; omega
        simp only [hB] at hr
        simp only [hm] at hr
        clear hsp hB hl ih h10 h
        go_enter Tryz.func23, Tryz.ntmps23
        go_wp2_with fail
        refine (hr _).mono ?_
        rintro e w1 ⟨rfl, hb1⟩
        go_wp2_with fail
        go_ret
        obtain ⟨hsp, hB⟩ := H.out
        refine ⟨?_, hb1⟩
        rw [hsp, ← hB]
        congr 2
      · have c1 : ¬ 0 ≤ n := by omega
        obtain ⟨t, ht⟩ : ∃ t, n = -t := ⟨-n, by omega⟩
        have e1 : n.tdiv 10 = -(t / 10) := by rw [ht, Int.neg_tdiv, Int.tdiv_eq_ediv_of_nonneg (by omega)]
        have e2 : n.tmod 10 = -(t % 10) := by rw [ht, Int.neg_tmod, Int.tmod_eq_emod_of_nonneg (by omega)]
        obtain ⟨q, hqe⟩ : ∃ q, n.tdiv 10 = q := ⟨_, rfl⟩
        obtain ⟨r', hre⟩ : ∃ r, n.tmod 10 = r := ⟨_, rfl⟩
        obtain ⟨r, hrr⟩ : ∃ r, -r' = r := ⟨_, rfl⟩
        have hwr : wrap64 r = r := by unfold wrap64; omega
        have hwq : wrap64 q = q := by unfold wrap64; omega
        have hwp : wrap64 r' = r' := by unfold wrap64; omega
        have hq := ih q (by omega) ⟨by omega, by omega⟩
        have hr := ldigits_one r (by omega) (by omega)
        have hl := itoa_len20 q ⟨by omega, by omega⟩
        have hl2 := itoa_len20 r ⟨by omega, by omega⟩
        have hsp := itoa_split_neg n q r (by omega) (by omega) (by omega) (by omega)
        obtain ⟨A, hA⟩ : ∃ A : ByteArray, (⟨(Lib.itoa q).toArray⟩ : ByteArray) = A := ⟨_, rfl⟩
        obtain ⟨B, hB⟩ : ∃ A : ByteArray, (⟨(Lib.itoa r).toArray⟩ : ByteArray) = A := ⟨_, rfl⟩
        have hAz : A.size ≤ 21 := by rw [← hA]; exact hl
        have hBz : B.size ≤ 21 := by rw [← hB]; exact hl2
        have H := (show Hid _ from And.intro hsp (And.intro hA hB))
        simp only [hA] at hq
        simp only [hB] at hr
        clear hsp hA hB hl hl2 ih h10 h ht e1 e2
        go_enter Tryz.func23, Tryz.ntmps23
        go_wp2_with fail
        refine (hq _).mono ?_
        rintro e w1 ⟨rfl, hb1⟩
        go_wp2_with fail
        refine (hr _).mono ?_
        rintro e w2 ⟨rfl, hb2⟩
        go_wp2_with fail
        go_ret
        obtain ⟨hsp, hA, hB⟩ := H.out
        refine ⟨?_, hb1.trans (hb2.mono hb1.size)⟩
        rw [hsp, ← hA, ← hB]
        congr 2
theorem ldigits_any (n : Int) (h : I64 n) (w : World) : Calls Tryz.prog 23 #[.int .i64 n] w fun e w' => e = .returned (.string ⟨(Lib.itoa n).toArray⟩) ∧ Below w.heap.size w w' := ldigits_at n.natAbs n (Nat.le_refl _) h w
end Go.Proofs.YtnkoblhdbccbeaaGreatDoor
