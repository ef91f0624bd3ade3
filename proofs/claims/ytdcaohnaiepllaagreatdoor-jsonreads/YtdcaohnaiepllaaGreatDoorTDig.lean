/-
  Digits of base 16 and units of four of them: the program's, by their contracts. No conditions.
-/
import Derived.Test.YtdcaohnaiepllaaGreatDoorTCalls
import Derived.Test.YtdcaohnaiepllaaGreatDoorJShelf
import Derived.Test.YtdcaohnaiepllaaGreatDoorTPure2
namespace Go.Proofs.YtdcaohnaiepllaaGreatDoor
open Go.RowKit Go.Extern.Stop Go.Stop Go.Extern

/-- a number and whether there is one. -/
def pairV : Option Nat → Value
  | none => .tuple #[.int .i32 0, .bool false]
  | some r => .tuple #[.int .i32 (r : Int), .bool true]

theorem hexv_dec {c : Nat} (h0 : 48 ≤ c) (h1 : c ≤ 57) : hexv c = some (c - 48) := if_pos ⟨h0, h1⟩
theorem hexv_small {c : Nat} (h0 : 97 ≤ c) (h1 : c ≤ 102) : hexv c = some (c - 87) := by
  unfold hexv; rw [if_neg (by omega), if_pos ⟨h0, h1⟩]
theorem hexv_great {c : Nat} (h0 : 65 ≤ c) (h1 : c ≤ 70) : hexv c = some (c - 55) := by
  unfold hexv; rw [if_neg (by omega), if_neg (by omega), if_pos ⟨h0, h1⟩]
theorem hexv_none {c : Nat} (h : c < 48 ∨ (57 < c ∧ c < 65) ∨ (70 < c ∧ c < 97) ∨ 102 < c) : hexv c = none := by
  unfold hexv; rw [if_neg (by omega), if_neg (by omega), if_neg (by omega)]

theorem digit_any (x : UInt8) (w : World) : Calls Tryz.prog 136 #[.int .u8 (x.toNat : Int)] w fun e w' => e = .returned (pairV (hexv x.toNat)) ∧ w' = w := by
  have hx := x.toNat_lt
  generalize x.toNat = n at *
  obtain ⟨c, hc⟩ : ∃ c : Int, (n : Int) = c := ⟨_, rfl⟩
  rw [hc]
  have b0 : 0 ≤ c := by omega
  have b1 : c < 256 := by omega
  by_cases k0 : n < 48
  · have f0 : ¬ 48 ≤ c := by omega
    have f1 : ¬ 65 ≤ c := by omega
    have f2 : ¬ 97 ≤ c := by omega
    rw [hexv_none (by omega)]
    clear hc
    go_enter Tryz.func136, Tryz.ntmps136
    go_wp2
    go_ret2
    exact ⟨rfl, rfl⟩
  · by_cases k1 : n ≤ 57
    · have f0 : 48 ≤ c := by omega
      have f1 : c ≤ 57 := by omega
      rw [hexv_dec (by omega) k1]
      have e : ((n - 48 : Nat) : Int) = c - 48 := by omega
      simp only [pairV, e]
      clear hc e
      go_enter Tryz.func136, Tryz.ntmps136
      go_wp2
      go_ret2
      exact ⟨rfl, rfl⟩
    · by_cases k2 : n < 65
      · have f0 : 48 ≤ c := by omega
        have f1 : ¬ c ≤ 57 := by omega
        have f2 : ¬ 65 ≤ c := by omega
        have f3 : ¬ 97 ≤ c := by omega
        rw [hexv_none (by omega)]
        clear hc
        go_enter Tryz.func136, Tryz.ntmps136
        go_wp2
        go_ret2
        exact ⟨rfl, rfl⟩
      · by_cases k3 : n ≤ 70
        · have f0 : 48 ≤ c := by omega
          have f1 : ¬ c ≤ 57 := by omega
          have f2 : 65 ≤ c := by omega
          have f3 : c ≤ 70 := by omega
          rw [hexv_great (by omega) k3]
          have e : ((n - 55 : Nat) : Int) = c + 32 - 97 + 10 := by omega
          simp only [pairV, e]
          clear hc e
          go_enter Tryz.func136, Tryz.ntmps136
          go_wp2
          go_ret2
          exact ⟨rfl, rfl⟩
        · by_cases k4 : n < 97
          · have f0 : 48 ≤ c := by omega
            have f1 : ¬ c ≤ 57 := by omega
            have f2 : 65 ≤ c := by omega
            have f3 : ¬ c ≤ 70 := by omega
            have f4 : ¬ 97 ≤ c := by omega
            rw [hexv_none (by omega)]
            clear hc
            go_enter Tryz.func136, Tryz.ntmps136
            go_wp2
            go_ret2
            exact ⟨rfl, rfl⟩
          · by_cases k5 : n ≤ 102
            · have f0 : 48 ≤ c := by omega
              have f1 : ¬ c ≤ 57 := by omega
              have f2 : 65 ≤ c := by omega
              have f3 : ¬ c ≤ 70 := by omega
              have f4 : 97 ≤ c := by omega
              have f5 : c ≤ 102 := by omega
              rw [hexv_small (by omega) k5]
              have e : ((n - 87 : Nat) : Int) = c - 97 + 10 := by omega
              simp only [pairV, e]
              clear hc e
              go_enter Tryz.func136, Tryz.ntmps136
              go_wp2
              go_ret2
              exact ⟨rfl, rfl⟩
            · have f0 : 48 ≤ c := by omega
              have f1 : ¬ c ≤ 57 := by omega
              have f2 : 65 ≤ c := by omega
              have f3 : ¬ c ≤ 70 := by omega
              have f4 : 97 ≤ c := by omega
              have f5 : ¬ c ≤ 102 := by omega
              rw [hexv_none (by omega)]
              clear hc
              go_enter Tryz.func136, Tryz.ntmps136
              go_wp2
              go_ret2
              exact ⟨rfl, rfl⟩

theorem byte_at {s : ByteArray} {l : List UInt8} (h : s.data.toList = l) (i : Nat) (hi : i < s.size) (x : UInt8) (hx : l[i]? = some x) : s[i]'hi = x := by
  subst h
  have hi' : i < s.data.toList.length := by simpa using hi
  rw [List.getElem?_eq_getElem hi'] at hx
  have := Option.some.inj hx
  rw [← this]
  simp [ByteArray.getElem_eq_getElem_data]
theorem size_list {s : ByteArray} {l : List UInt8} (h : s.data.toList = l) : s.size = l.length := by
  rw [← h]; rfl
theorem drop_list {s : ByteArray} {l : List UInt8} (h : s.data.toList = l) (k : Nat) : (s.extract k s.size).data.toList = l.drop k := by
  subst h
  rw [ByteArray.data_extract, Array.toList_extract]
  have : s.size = s.data.toList.length := rfl
  rw [this, List.extract_eq_take_drop]
  apply List.take_of_length_le
  rw [List.length_drop]
  omega
theorem unitU_cons (a b : UInt8) (r : List UInt8) : unitU (a :: b :: r) = if a.toNat = 92 ∧ b.toNat = 117 then unitL r else none := rfl

set_option maxHeartbeats 1000000 in
theorem unit_six (s : ByteArray) (a b x1 x2 x3 x4 : UInt8) (t : List UInt8) (hs : s.data.toList = a :: b :: x1 :: x2 :: x3 :: x4 :: t) (w : World) :
    Calls Tryz.prog 135 #[.string s] w fun e w' => e = .returned (pairV (unitU s.data.toList)) ∧ w' = w := by
  have hz : 6 ≤ s.size := by rw [size_list hs]; simp
  have i0 := byte_at hs 0 (by omega) a rfl
  have i1 := byte_at hs 1 (by omega) b rfl
  have i2 := byte_at hs 2 (by omega) x1 rfl
  have i3 := byte_at hs 3 (by omega) x2 rfl
  have i4 := byte_at hs 4 (by omega) x3 rfl
  have i5 := byte_at hs 5 (by omega) x4 rfl
  have z6 : ¬ (s.size : Int) < 6 := by omega
  have z5 : (5 : Int) < (s.size : Int) := by omega
  rw [hs, unitU_cons]
  by_cases ha : a.toNat = 92
  · by_cases hb : b.toNat = 117
    · rw [if_pos ⟨ha, hb⟩]
      have ea : ((a.toNat : Int) != 92) = false := by rw [ha]; rfl
      have eb : ((b.toNat : Int) != 117) = false := by rw [hb]; rfl
      clear hs ha hb
      go_enter Tryz.func135, Tryz.ntmps135
      go_wp2
      refine wp_loop_rounds 5 ?_
      rw [rounds_succ]
      go_wp2_with fail
      refine (digit_any x1 _).mono ?_
      rintro e w' ⟨rfl, rfl⟩
      cases h1 : hexv x1.toNat with
      | none =>
        simp only [pairV]
        go_wp2
        go_ret2
        exact ⟨by simp only [unitL, h1, pairV]; rfl, rfl⟩
      | some v1 =>
        have l1 : (v1 : Int) < 16 := by have := hexv_lt h1; omega
        simp only [pairV]
        go_wp2_with fail
        rw [rounds_succ]
        go_wp2_with fail
        refine (digit_any x2 _).mono ?_
        rintro e w' ⟨rfl, rfl⟩
        cases h2 : hexv x2.toNat with
        | none =>
          simp only [pairV]
          go_wp2
          go_ret2
          exact ⟨by simp only [unitL, h1, h2, pairV]; rfl, rfl⟩
        | some v2 =>
          have l2 : (v2 : Int) < 16 := by have := hexv_lt h2; omega
          simp only [pairV]
          go_wp2_with fail
          rw [rounds_succ]
          go_wp2_with fail
          refine (digit_any x3 _).mono ?_
          rintro e w' ⟨rfl, rfl⟩
          cases h3 : hexv x3.toNat with
          | none =>
            simp only [pairV]
            go_wp2
            go_ret2
            exact ⟨by simp only [unitL, h1, h2, h3, pairV]; rfl, rfl⟩
          | some v3 =>
            have l3 : (v3 : Int) < 16 := by have := hexv_lt h3; omega
            simp only [pairV]
            go_wp2_with fail
            rw [rounds_succ]
            go_wp2_with fail
            refine (digit_any x4 _).mono ?_
            rintro e w' ⟨rfl, rfl⟩
            cases h4 : hexv x4.toNat with
            | none =>
              simp only [pairV]
              go_wp2
              go_ret2
              exact ⟨by simp only [unitL, h1, h2, h3, h4, pairV]; rfl, rfl⟩
            | some v4 =>
              have l4 : (v4 : Int) < 16 := by have := hexv_lt h4; omega
              simp only [pairV]
              go_wp2_with fail
              rw [rounds_succ]
              go_wp2
              go_ret2
              refine ⟨?_, rfl⟩
              simp only [unitL, h1, h2, h3, h4, pairV]
              refine congrArg (fun z => Ending.returned (.tuple #[.int .i32 z, .bool true])) (?_ : (_ : Int) = _)
              omega
    · rw [if_neg (by omega)]
      have ea : ((a.toNat : Int) != 92) = false := by rw [ha]; rfl
      have eb : ((b.toNat : Int) != 117) = true := by simp; omega
      clear hs ha hb
      go_enter Tryz.func135, Tryz.ntmps135
      go_wp2
      go_ret2
      exact ⟨rfl, rfl⟩
  · rw [if_neg (by omega)]
    have ea : ((a.toNat : Int) != 92) = true := by simp; omega
    clear hs ha
    go_enter Tryz.func135, Tryz.ntmps135
    go_wp2
    go_ret2
    exact ⟨rfl, rfl⟩

theorem unitU_few {l : List UInt8} (h : l.length < 6) : unitU l = none := by
  match l, h with
  | [], _ => rfl
  | [_], _ => rfl
  | a :: b :: r, h =>
    rw [unitU_cons]
    split
    · match r, h with
      | [], _ => rfl
      | [_], _ => rfl
      | [_, _], _ => rfl
      | [_, _, _], _ => rfl
    · rfl

theorem unit_any (s : ByteArray) (w : World) : Calls Tryz.prog 135 #[.string s] w fun e w' => e = .returned (pairV (unitU s.data.toList)) ∧ w' = w := by
  by_cases h : s.size < 6
  · rw [unitU_few (by rw [← size_list rfl]; exact h)]
    have hz : (s.size : Int) < 6 := by omega
    clear h
    go_enter Tryz.func135, Tryz.ntmps135
    go_wp2
    go_ret2
    exact ⟨rfl, rfl⟩
  · have hl : 6 ≤ s.data.toList.length := by rw [← size_list rfl]; omega
    match e : s.data.toList, hl with
    | a :: b :: x1 :: x2 :: x3 :: x4 :: t, _ => rw [← e]; exact unit_six s a b x1 x2 x3 x4 t e w
end Go.Proofs.YtdcaohnaiepllaaGreatDoor
