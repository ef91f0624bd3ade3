/-
  Escapes and characters between quotes: the program's units, escape, broken and first, by their contracts. No conditions beyond those stated.
-/
import Derived.Test.YtdcaohnaiepllaaGreatDoorTDig
namespace Go.Proofs.YtdcaohnaiepllaaGreatDoor
open Go.RowKit Go.Extern.Stop Go.Stop Go.Extern

def tripV : Option (Nat × Nat) → Value
  | none => .tuple #[.int .i32 0, .int .i64 0, .bool false]
  | some cn => .tuple #[.int .i32 (cn.1 : Int), .int .i64 (cn.2 : Int), .bool true]

/-- the program's unit tells a number. -/
def UnitIs (s : ByteArray) (z : Int) (w : World) : Prop := Calls Tryz.prog 135 #[.string s] w fun e w' => e = .returned (.tuple #[.int .i32 z, .bool true]) ∧ w' = w
def UnitNone (s : ByteArray) (w : World) : Prop := Calls Tryz.prog 135 #[.string s] w fun e w' => e = .returned (.tuple #[.int .i32 0, .bool false]) ∧ w' = w

theorem units_none (s : ByteArray) (w : World) (h : UnitNone s w) : Calls Tryz.prog 132 #[.string s] w fun e w' => e = .returned (tripV none) ∧ w' = w := by
  go_enter Tryz.func132, Tryz.ntmps132
  go_wp2_with fail
  refine h.mono ?_
  rintro e w' ⟨rfl, rfl⟩
  go_wp2
  go_ret3
  exact ⟨rfl, rfl⟩
theorem units_second (s : ByteArray) (z : Int) (w : World) (h : UnitIs s z w) (f1 : 56320 ≤ z) (f2 : z < 57344) : Calls Tryz.prog 132 #[.string s] w fun e w' => e = .returned (tripV none) ∧ w' = w := by
  go_enter Tryz.func132, Tryz.ntmps132
  go_wp2_with fail
  refine h.mono ?_
  rintro e w' ⟨rfl, rfl⟩
  go_wp2
  go_ret3
  exact ⟨rfl, rfl⟩
theorem units_low (s : ByteArray) (z : Int) (w : World) (h : UnitIs s z w) (f2 : z < 55296) : Calls Tryz.prog 132 #[.string s] w fun e w' => e = .returned (.tuple #[.int .i32 z, .int .i64 6, .bool true]) ∧ w' = w := by
  have f1 : ¬ 56320 ≤ z := by omega
  go_enter Tryz.func132, Tryz.ntmps132
  go_wp2_with fail
  refine h.mono ?_
  rintro e w' ⟨rfl, rfl⟩
  go_wp2
  go_ret3
  exact ⟨rfl, rfl⟩
theorem units_high (s : ByteArray) (z : Int) (w : World) (h : UnitIs s z w) (f4 : 57344 ≤ z) : Calls Tryz.prog 132 #[.string s] w fun e w' => e = .returned (.tuple #[.int .i32 z, .int .i64 6, .bool true]) ∧ w' = w := by
  have f1 : 56320 ≤ z := by omega
  have f2 : ¬ z < 57344 := by omega
  have f3 : ¬ z < 55296 := by omega
  go_enter Tryz.func132, Tryz.ntmps132
  go_wp2_with fail
  refine h.mono ?_
  rintro e w' ⟨rfl, rfl⟩
  go_wp2
  go_ret3
  exact ⟨rfl, rfl⟩
theorem units_half (s : ByteArray) (z : Int) (w : World) (h : UnitIs s z w) (f2 : 55296 ≤ z) (f4 : z < 56320) (f5 : (6 : Int) ≤ (s.size : Int)) (h2 : UnitNone (s.extract 6 s.size) w) : Calls Tryz.prog 132 #[.string s] w fun e w' => e = .returned (tripV none) ∧ w' = w := by
  have f1 : ¬ 56320 ≤ z := by omega
  have f6 : ¬ 57344 ≤ z := by omega
  have f3 : ¬ z < 55296 := by omega
  go_enter Tryz.func132, Tryz.ntmps132
  go_wp2_with fail
  refine h.mono ?_
  rintro e w' ⟨rfl, rfl⟩
  go_wp2_with fail
  refine h2.mono ?_
  rintro e w' ⟨rfl, rfl⟩
  go_wp2
  go_ret3
  exact ⟨rfl, rfl⟩
theorem units_halfLow (s : ByteArray) (z y : Int) (w : World) (h : UnitIs s z w) (f2 : 55296 ≤ z) (f4 : z < 56320) (f5 : (6 : Int) ≤ (s.size : Int)) (h2 : UnitIs (s.extract 6 s.size) y w) (g1 : y < 56320) : Calls Tryz.prog 132 #[.string s] w fun e w' => e = .returned (tripV none) ∧ w' = w := by
  have f1 : ¬ 56320 ≤ z := by omega
  have f6 : ¬ 57344 ≤ z := by omega
  have f3 : ¬ z < 55296 := by omega
  go_enter Tryz.func132, Tryz.ntmps132
  go_wp2_with fail
  refine h.mono ?_
  rintro e w' ⟨rfl, rfl⟩
  go_wp2_with fail
  refine h2.mono ?_
  rintro e w' ⟨rfl, rfl⟩
  go_wp2
  go_ret3
  exact ⟨rfl, rfl⟩
theorem units_halfHigh (s : ByteArray) (z y : Int) (w : World) (h : UnitIs s z w) (f2 : 55296 ≤ z) (f4 : z < 56320) (f5 : (6 : Int) ≤ (s.size : Int)) (h2 : UnitIs (s.extract 6 s.size) y w) (g1 : 57344 ≤ y) : Calls Tryz.prog 132 #[.string s] w fun e w' => e = .returned (tripV none) ∧ w' = w := by
  have f1 : ¬ 56320 ≤ z := by omega
  have f6 : ¬ 57344 ≤ z := by omega
  have f3 : ¬ z < 55296 := by omega
  have g2 : ¬ y < 56320 := by omega
  go_enter Tryz.func132, Tryz.ntmps132
  go_wp2_with fail
  refine h.mono ?_
  rintro e w' ⟨rfl, rfl⟩
  go_wp2_with fail
  refine h2.mono ?_
  rintro e w' ⟨rfl, rfl⟩
  go_wp2
  go_ret3
  exact ⟨rfl, rfl⟩
theorem units_two (s : ByteArray) (z y : Int) (w : World) (h : UnitIs s z w) (f2 : 55296 ≤ z) (f4 : z < 56320) (f5 : (6 : Int) ≤ (s.size : Int)) (h2 : UnitIs (s.extract 6 s.size) y w) (g1 : 56320 ≤ y) (g3 : y < 57344) :
    Calls Tryz.prog 132 #[.string s] w fun e w' => e = .returned (.tuple #[.int .i32 (65536 + (z - 55296) * 1024 + (y - 56320)), .int .i64 12, .bool true]) ∧ w' = w := by
  have f1 : ¬ 56320 ≤ z := by omega
  have f6 : ¬ 57344 ≤ z := by omega
  have f3 : ¬ z < 55296 := by omega
  have g2 : ¬ y < 56320 := by omega
  have g4 : ¬ 57344 ≤ y := by omega
  go_enter Tryz.func132, Tryz.ntmps132
  go_wp2_with fail
  refine h.mono ?_
  rintro e w' ⟨rfl, rfl⟩
  go_wp2_with fail
  refine h2.mono ?_
  rintro e w' ⟨rfl, rfl⟩
  go_wp2
  go_ret3
  exact ⟨rfl, rfl⟩

theorem unit_is {s : ByteArray} {l : List UInt8} (hs : s.data.toList = l) {a : Nat} (h : unitU l = some a) (w : World) : UnitIs s (a : Int) w := by
  have := unit_any s w
  rw [hs, h] at this
  exact this
theorem unit_none {s : ByteArray} {l : List UInt8} (hs : s.data.toList = l) (h : unitU l = none) (w : World) : UnitNone s w := by
  have := unit_any s w
  rw [hs, h] at this
  exact this

theorem units_any (s : ByteArray) (w : World) : Calls Tryz.prog 132 #[.string s] w fun e w' => e = .returned (tripV (unitsL s.data.toList)) ∧ w' = w := by
  unfold unitsL
  cases h : unitU s.data.toList with
  | none => exact units_none s w (unit_none rfl h w)
  | some a =>
    have ha := unitU_lt h
    have hz : 6 ≤ s.size := by
      rcases Nat.lt_or_ge s.size 6 with h' | h'
      · rw [unitU_few (by rw [← size_list rfl]; exact h')] at h; cases h
      · exact h'
    simp only
    by_cases k1 : 56320 ≤ a ∧ a < 57344
    · rw [if_pos k1]
      exact units_second s a w (unit_is rfl h w) (by omega) (by omega)
    · rw [if_neg k1]
      by_cases k2 : a < 55296 ∨ 57344 ≤ a
      · rw [if_pos k2]
        rcases k2 with k2 | k2
        · exact units_low s a w (unit_is rfl h w) (by omega)
        · exact units_high s a w (unit_is rfl h w) (by omega)
      · rw [if_neg k2]
        have hd := drop_list (s := s) rfl 6
        cases h2 : unitU (s.data.toList.drop 6) with
        | none => exact units_half s a w (unit_is rfl h w) (by omega) (by omega) (by omega) (unit_none hd h2 w)
        | some b =>
          have hb := unitU_lt h2
          simp only
          by_cases k3 : 56320 ≤ b ∧ b < 57344
          · rw [if_pos k3]
            have := units_two s a b w (unit_is rfl h w) (by omega) (by omega) (by omega) (unit_is hd h2 w) (by omega) (by omega)
            have e : ((65536 + (a - 55296) * 1024 + (b - 56320) : Nat) : Int) = 65536 + ((a : Int) - 55296) * 1024 + ((b : Int) - 56320) := by omega
            simp only [tripV, e]
            exact this
          · rw [if_neg k3]
            by_cases k4 : b < 56320
            · exact units_halfLow s a b w (unit_is rfl h w) (by omega) (by omega) (by omega) (unit_is hd h2 w) (by omega)
            · exact units_halfHigh s a b w (unit_is rfl h w) (by omega) (by omega) (by omega) (unit_is hd h2 w) (by omega)

theorem broken_yes (n : Int) (h : n ≤ 1) (w : World) : Calls Tryz.prog 101 #[.int .i32 65533, .int .i64 n] w fun e w' => e = .returned (.bool true) ∧ w' = w := by
  go_enter Tryz.func101, Tryz.ntmps101
  go_wp2
  go_ret
  exact ⟨rfl, rfl⟩
theorem broken_wide (n : Int) (h : ¬ n ≤ 1) (w : World) : Calls Tryz.prog 101 #[.int .i32 65533, .int .i64 n] w fun e w' => e = .returned (.bool false) ∧ w' = w := by
  go_enter Tryz.func101, Tryz.ntmps101
  go_wp2
  go_ret
  exact ⟨rfl, rfl⟩
theorem broken_other (r n : Int) (h : (r == 65533) = false) (w : World) : Calls Tryz.prog 101 #[.int .i32 r, .int .i64 n] w fun e w' => e = .returned (.bool false) ∧ w' = w := by
  go_enter Tryz.func101, Tryz.ntmps101
  go_wp2
  go_ret
  exact ⟨rfl, rfl⟩
theorem broken_dec (l : List UInt8) (w : World) : Calls Tryz.prog 101 #[.int .i32 ((Lib.decodeL l).1 : Int), .int .i64 ((Lib.decodeL l).2 : Int)] w fun e w' => e = .returned (.bool (decide (brk l))) ∧ w' = w := by
  have hw := Lib.decodeL_width l
  by_cases h1 : (Lib.decodeL l).1 = 65533
  · by_cases h2 : (Lib.decodeL l).2 = 1
    · rw [decide_eq_true (show brk l from ⟨h1, h2⟩), h1, h2]
      exact broken_yes 1 (by omega) w
    · rw [decide_eq_false (show ¬ brk l from fun h => h2 h.2), h1]
      exact broken_wide _ (by omega) w
  · rw [decide_eq_false (show ¬ brk l from fun h => h1 h.1)]
    exact broken_other _ _ (by simp; omega) w
end Go.Proofs.YtdcaohnaiepllaaGreatDoor
