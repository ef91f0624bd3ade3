/-
  Escapes and characters between quotes: the program's units, escape, broken and first, by their contracts. No conditions beyond those stated.
  Escapes and characters between quotes: the program's escape and first, by their contracts. No conditions beyond those stated.
  The program's Unquote by its contract: it tells what the plain function reads. Condition: the text has at most 2^47 - 8 bytes.
  The program's Unquote by its contract: it tells what the plain function reads. Condition: the text has at most 2^47 - 8 bytes.
-/
import Derived.Test.YtnkoblhdbccbeaaGreatDoorU6
import Derived.Lib.ItoaLen
import Derived.Lib.AppendIntMem
import Derived.WalkSmall
namespace Go.Proofs.YtnkoblhdbccbeaaGreatDoor
open Go.RowKit Go.Extern.Stop Go.Stop Go.Extern

def tripV : Option (Nat × Nat) → Value
  | none => .tuple #[.int .i32 0, .int .i64 0, .bool false]
  | some cn => .tuple #[.int .i32 (cn.1 : Int), .int .i64 (cn.2 : Int), .bool true]

/-- the program's unit tells a number. -/
def UnitIs (s : ByteArray) (z : Int) (w : World) : Prop := Calls Tryz.prog 149 #[.string s] w fun e w' => e = .returned (.tuple #[.int .i32 z, .bool true]) ∧ w' = w
def UnitNone (s : ByteArray) (w : World) : Prop := Calls Tryz.prog 149 #[.string s] w fun e w' => e = .returned (.tuple #[.int .i32 0, .bool false]) ∧ w' = w

theorem units_none (s : ByteArray) (w : World) (h : UnitNone s w) : Calls Tryz.prog 146 #[.string s] w fun e w' => e = .returned (tripV none) ∧ w' = w := by
  go_enter Tryz.func146, Tryz.ntmps146
  go_wp2_with fail
  refine h.mono ?_
  rintro e w' ⟨rfl, rfl⟩
  go_wp2
  go_ret3
  exact ⟨rfl, rfl⟩
theorem units_second (s : ByteArray) (z : Int) (w : World) (h : UnitIs s z w) (f1 : 56320 ≤ z) (f2 : z < 57344) : Calls Tryz.prog 146 #[.string s] w fun e w' => e = .returned (tripV none) ∧ w' = w := by
  go_enter Tryz.func146, Tryz.ntmps146
  go_wp2_with fail
  refine h.mono ?_
  rintro e w' ⟨rfl, rfl⟩
  go_wp2
  go_ret3
  exact ⟨rfl, rfl⟩
theorem units_low (s : ByteArray) (z : Int) (w : World) (h : UnitIs s z w) (f2 : z < 55296) : Calls Tryz.prog 146 #[.string s] w fun e w' => e = .returned (.tuple #[.int .i32 z, .int .i64 6, .bool true]) ∧ w' = w := by
  have f1 : ¬ 56320 ≤ z := by omega
  go_enter Tryz.func146, Tryz.ntmps146
  go_wp2_with fail
  refine h.mono ?_
  rintro e w' ⟨rfl, rfl⟩
  go_wp2
  go_ret3
  exact ⟨rfl, rfl⟩
theorem units_high (s : ByteArray) (z : Int) (w : World) (h : UnitIs s z w) (f4 : 57344 ≤ z) : Calls Tryz.prog 146 #[.string s] w fun e w' => e = .returned (.tuple #[.int .i32 z, .int .i64 6, .bool true]) ∧ w' = w := by
  have f1 : 56320 ≤ z := by omega
  have f2 : ¬ z < 57344 := by omega
  have f3 : ¬ z < 55296 := by omega
  go_enter Tryz.func146, Tryz.ntmps146
  go_wp2_with fail
  refine h.mono ?_
  rintro e w' ⟨rfl, rfl⟩
  go_wp2
  go_ret3
  exact ⟨rfl, rfl⟩
theorem units_half (s : ByteArray) (z : Int) (w : World) (h : UnitIs s z w) (f2 : 55296 ≤ z) (f4 : z < 56320) (f5 : (6 : Int) ≤ (s.size : Int)) (h2 : UnitNone (s.extract 6 s.size) w) : Calls Tryz.prog 146 #[.string s] w fun e w' => e = .returned (tripV none) ∧ w' = w := by
  have f1 : ¬ 56320 ≤ z := by omega
  have f6 : ¬ 57344 ≤ z := by omega
  have f3 : ¬ z < 55296 := by omega
  go_enter Tryz.func146, Tryz.ntmps146
  go_wp2_with fail
  refine h.mono ?_
  rintro e w' ⟨rfl, rfl⟩
  go_wp2_with fail
  refine h2.mono ?_
  rintro e w' ⟨rfl, rfl⟩
  go_wp2
  go_ret3
  exact ⟨rfl, rfl⟩
theorem units_halfLow (s : ByteArray) (z y : Int) (w : World) (h : UnitIs s z w) (f2 : 55296 ≤ z) (f4 : z < 56320) (f5 : (6 : Int) ≤ (s.size : Int)) (h2 : UnitIs (s.extract 6 s.size) y w) (g1 : y < 56320) : Calls Tryz.prog 146 #[.string s] w fun e w' => e = .returned (tripV none) ∧ w' = w := by
  have f1 : ¬ 56320 ≤ z := by omega
  have f6 : ¬ 57344 ≤ z := by omega
  have f3 : ¬ z < 55296 := by omega
  go_enter Tryz.func146, Tryz.ntmps146
  go_wp2_with fail
  refine h.mono ?_
  rintro e w' ⟨rfl, rfl⟩
  go_wp2_with fail
  refine h2.mono ?_
  rintro e w' ⟨rfl, rfl⟩
  go_wp2
  go_ret3
  exact ⟨rfl, rfl⟩
theorem units_halfHigh (s : ByteArray) (z y : Int) (w : World) (h : UnitIs s z w) (f2 : 55296 ≤ z) (f4 : z < 56320) (f5 : (6 : Int) ≤ (s.size : Int)) (h2 : UnitIs (s.extract 6 s.size) y w) (g1 : 57344 ≤ y) : Calls Tryz.prog 146 #[.string s] w fun e w' => e = .returned (tripV none) ∧ w' = w := by
  have f1 : ¬ 56320 ≤ z := by omega
  have f6 : ¬ 57344 ≤ z := by omega
  have f3 : ¬ z < 55296 := by omega
  have g2 : ¬ y < 56320 := by omega
  go_enter Tryz.func146, Tryz.ntmps146
  go_wp2_with fail
  refine h.mono ?_
  rintro e w' ⟨rfl, rfl⟩
  go_wp2_with fail
  refine h2.mono ?_
  rintro e w' ⟨rfl, rfl⟩
  go_wp2
  go_ret3
  exact ⟨rfl, rfl⟩
theorem units_two (s : ByteArray) (z y : Int) (w : World) (h : UnitIs s z w) (f2 : 55296 ≤ z) (f4 : z < 56320) (f5 : (6 : Int) ≤ (s.size : Int)) (h2 : UnitIs (s.extract 6 s.size) y w) (g1 : 56320 ≤ y) (g3 : y < 57344) :
    Calls Tryz.prog 146 #[.string s] w fun e w' => e = .returned (.tuple #[.int .i32 (65536 + (z - 55296) * 1024 + (y - 56320)), .int .i64 12, .bool true]) ∧ w' = w := by
  have f1 : ¬ 56320 ≤ z := by omega
  have f6 : ¬ 57344 ≤ z := by omega
  have f3 : ¬ z < 55296 := by omega
  have g2 : ¬ y < 56320 := by omega
  have g4 : ¬ 57344 ≤ y := by omega
  go_enter Tryz.func146, Tryz.ntmps146
  go_wp2_with fail
  refine h.mono ?_
  rintro e w' ⟨rfl, rfl⟩
  go_wp2_with fail
  refine h2.mono ?_
  rintro e w' ⟨rfl, rfl⟩
  go_wp2
  go_ret3
  exact ⟨rfl, rfl⟩

theorem unit_is {s : ByteArray} {l : List UInt8} (hs : s.data.toList = l) {a : Nat} (h : unitU l = some a) (w : World) : UnitIs s (a : Int) w := by
  have := unit_any s w
  rw [hs, h] at this
  exact this
theorem unit_none {s : ByteArray} {l : List UInt8} (hs : s.data.toList = l) (h : unitU l = none) (w : World) : UnitNone s w := by
  have := unit_any s w
  rw [hs, h] at this
  exact this

theorem units_any (s : ByteArray) (w : World) : Calls Tryz.prog 146 #[.string s] w fun e w' => e = .returned (tripV (unitsL s.data.toList)) ∧ w' = w := by
  unfold unitsL
  cases h : unitU s.data.toList with
  | none => exact units_none s w (unit_none rfl h w)
  | some a =>
    have ha := unitU_lt h
    have hz : 6 ≤ s.size := by
      rcases Nat.lt_or_ge s.size 6 with h' | h'
      · rw [unitU_few (by rw [← size_list rfl]; exact h')] at h; cases h
      · exact h'
    simp only
    by_cases k1 : 56320 ≤ a ∧ a < 57344
    · rw [if_pos k1]
      exact units_second s a w (unit_is rfl h w) (by omega) (by omega)
    · rw [if_neg k1]
      by_cases k2 : a < 55296 ∨ 57344 ≤ a
      · rw [if_pos k2]
        rcases k2 with k2 | k2
        · exact units_low s a w (unit_is rfl h w) (by omega)
        · exact units_high s a w (unit_is rfl h w) (by omega)
      · rw [if_neg k2]
        have hd := drop_list (s := s) rfl 6
        cases h2 : unitU (s.data.toList.drop 6) with
        | none => exact units_half s a w (unit_is rfl h w) (by omega) (by omega) (by omega) (unit_none hd h2 w)
        | some b =>
          have hb := unitU_lt h2
          simp only
          by_cases k3 : 56320 ≤ b ∧ b < 57344
          · rw [if_pos k3]
            have := units_two s a b w (unit_is rfl h w) (by omega) (by omega) (by omega) (unit_is hd h2 w) (by omega) (by omega)
            have e : ((65536 + (a - 55296) * 1024 + (b - 56320) : Nat) : Int) = 65536 + ((a : Int) - 55296) * 1024 + ((b : Int) - 56320) := by omega
            simp only [tripV, e]
            exact this
          · rw [if_neg k3]
            by_cases k4 : b < 56320
            · exact units_halfLow s a b w (unit_is rfl h w) (by omega) (by omega) (by omega) (unit_is hd h2 w) (by omega)
            · exact units_halfHigh s a b w (unit_is rfl h w) (by omega) (by omega) (by omega) (unit_is hd h2 w) (by omega)

theorem broken_yes (n : Int) (h : n ≤ 1) (w : World) : Calls Tryz.prog 115 #[.int .i32 65533, .int .i64 n] w fun e w' => e = .returned (.bool true) ∧ w' = w := by
  go_enter Tryz.func115, Tryz.ntmps115
  go_wp2
  go_ret
  exact ⟨rfl, rfl⟩
theorem broken_wide (n : Int) (h : ¬ n ≤ 1) (w : World) : Calls Tryz.prog 115 #[.int .i32 65533, .int .i64 n] w fun e w' => e = .returned (.bool false) ∧ w' = w := by
  go_enter Tryz.func115, Tryz.ntmps115
  go_wp2
  go_ret
  exact ⟨rfl, rfl⟩
theorem broken_other (r n : Int) (h : (r == 65533) = false) (w : World) : Calls Tryz.prog 115 #[.int .i32 r, .int .i64 n] w fun e w' => e = .returned (.bool false) ∧ w' = w := by
  go_enter Tryz.func115, Tryz.ntmps115
  go_wp2
  go_ret
  exact ⟨rfl, rfl⟩
theorem broken_dec (l : List UInt8) (w : World) : Calls Tryz.prog 115 #[.int .i32 ((Lib.decodeL l).1 : Int), .int .i64 ((Lib.decodeL l).2 : Int)] w fun e w' => e = .returned (.bool (decide (brk l))) ∧ w' = w := by
  have hw := Lib.decodeL_width l
  by_cases h1 : (Lib.decodeL l).1 = 65533
  · by_cases h2 : (Lib.decodeL l).2 = 1
    · rw [decide_eq_true (show brk l from ⟨h1, h2⟩), h1, h2]
      exact broken_yes 1 (by omega) w
    · rw [decide_eq_false (show ¬ brk l from fun h => h2 h.2), h1]
      exact broken_wide _ (by omega) w
  · rw [decide_eq_false (show ¬ brk l from fun h => h1 h.1)]
    exact broken_other _ _ (by simp; omega) w
end Go.Proofs.YtnkoblhdbccbeaaGreatDoor

namespace Go.Proofs.YtnkoblhdbccbeaaGreatDoor
open Go.RowKit Go.Extern.Stop Go.Stop Go.Extern

theorem letter98 (w : World) : Calls Tryz.prog 113 #[.string ⟨#[98, 116, 110, 102, 114]⟩, .int .u8 98] w fun e w' => e = .returned (.int .i64 0) ∧ w' = w := Tryz.strings_IndexByte ⟨#[98, 116, 110, 102, 114]⟩ 98 w
theorem letter116 (w : World) : Calls Tryz.prog 113 #[.string ⟨#[98, 116, 110, 102, 114]⟩, .int .u8 116] w fun e w' => e = .returned (.int .i64 1) ∧ w' = w := Tryz.strings_IndexByte ⟨#[98, 116, 110, 102, 114]⟩ 116 w
theorem letter110 (w : World) : Calls Tryz.prog 113 #[.string ⟨#[98, 116, 110, 102, 114]⟩, .int .u8 110] w fun e w' => e = .returned (.int .i64 2) ∧ w' = w := Tryz.strings_IndexByte ⟨#[98, 116, 110, 102, 114]⟩ 110 w
theorem letter102 (w : World) : Calls Tryz.prog 113 #[.string ⟨#[98, 116, 110, 102, 114]⟩, .int .u8 102] w fun e w' => e = .returned (.int .i64 3) ∧ w' = w := Tryz.strings_IndexByte ⟨#[98, 116, 110, 102, 114]⟩ 102 w
theorem letter114 (w : World) : Calls Tryz.prog 113 #[.string ⟨#[98, 116, 110, 102, 114]⟩, .int .u8 114] w fun e w' => e = .returned (.int .i64 4) ∧ w' = w := Tryz.strings_IndexByte ⟨#[98, 116, 110, 102, 114]⟩ 114 w

section
variable (s : ByteArray) (hz : 2 ≤ s.size) (w : World)
theorem escape_u (h : (s[1]'(by omega)).toNat = 117) (o : Option (Nat × Nat)) (hU : Calls Tryz.prog 146 #[.string s] w fun e w' => e = .returned (tripV o) ∧ w' = w) : Calls Tryz.prog 140 #[.string s] w fun e w' => e = .returned (tripV o) ∧ w' = w := by
  have z2 : ¬ (s.size : Int) < 2 := by omega
  have z1 : (1 : Int) < (s.size : Int) := by omega
  cases o with
  | none =>
    go_enter Tryz.func140, Tryz.ntmps140
    go_wp2_with fail
    refine hU.mono ?_
    rintro e w' ⟨rfl, rfl⟩
    simp only [tripV]
    go_wp2
    go_ret3
    exact ⟨rfl, rfl⟩
  | some cn =>
    go_enter Tryz.func140, Tryz.ntmps140
    go_wp2_with fail
    refine hU.mono ?_
    rintro e w' ⟨rfl, rfl⟩
    simp only [tripV]
    go_wp2
    go_ret3
    exact ⟨rfl, rfl⟩
end
theorem escape_98 (s : ByteArray) (hz : 2 ≤ s.size) (w : World) (h : (s[1]'(by omega)).toNat = 98) : Calls Tryz.prog 140 #[.string s] w fun e w' => e = .returned (tripV (some (8, 2))) ∧ w' = w := by
  have z2 : ¬ (s.size : Int) < 2 := by omega
  have z1 : (1 : Int) < (s.size : Int) := by omega
  have c0 : (⟨#[8, 9, 10, 12, 13]⟩ : ByteArray)[0]'(by decide) = 8 := rfl
  go_enter Tryz.func140, Tryz.ntmps140
  go_wp2_with fail
  refine (letter98 _).mono ?_
  rintro e w' ⟨rfl, rfl⟩
  go_wp2
  go_ret3
  exact ⟨rfl, rfl⟩
theorem escape_116 (s : ByteArray) (hz : 2 ≤ s.size) (w : World) (h : (s[1]'(by omega)).toNat = 116) : Calls Tryz.prog 140 #[.string s] w fun e w' => e = .returned (tripV (some (9, 2))) ∧ w' = w := by
  have z2 : ¬ (s.size : Int) < 2 := by omega
  have z1 : (1 : Int) < (s.size : Int) := by omega
  have c0 : (⟨#[8, 9, 10, 12, 13]⟩ : ByteArray)[1]'(by decide) = 9 := rfl
  go_enter Tryz.func140, Tryz.ntmps140
  go_wp2_with fail
  refine (letter116 _).mono ?_
  rintro e w' ⟨rfl, rfl⟩
  go_wp2
  go_ret3
  exact ⟨rfl, rfl⟩
theorem escape_110 (s : ByteArray) (hz : 2 ≤ s.size) (w : World) (h : (s[1]'(by omega)).toNat = 110) : Calls Tryz.prog 140 #[.string s] w fun e w' => e = .returned (tripV (some (10, 2))) ∧ w' = w := by
  have z2 : ¬ (s.size : Int) < 2 := by omega
  have z1 : (1 : Int) < (s.size : Int) := by omega
  have c0 : (⟨#[8, 9, 10, 12, 13]⟩ : ByteArray)[2]'(by decide) = 10 := rfl
  go_enter Tryz.func140, Tryz.ntmps140
  go_wp2_with fail
  refine (letter110 _).mono ?_
  rintro e w' ⟨rfl, rfl⟩
  go_wp2
  go_ret3
  exact ⟨rfl, rfl⟩
theorem escape_102 (s : ByteArray) (hz : 2 ≤ s.size) (w : World) (h : (s[1]'(by omega)).toNat = 102) : Calls Tryz.prog 140 #[.string s] w fun e w' => e = .returned (tripV (some (12, 2))) ∧ w' = w := by
  have z2 : ¬ (s.size : Int) < 2 := by omega
  have z1 : (1 : Int) < (s.size : Int) := by omega
  have c0 : (⟨#[8, 9, 10, 12, 13]⟩ : ByteArray)[3]'(by decide) = 12 := rfl
  go_enter Tryz.func140, Tryz.ntmps140
  go_wp2_with fail
  refine (letter102 _).mono ?_
  rintro e w' ⟨rfl, rfl⟩
  go_wp2
  go_ret3
  exact ⟨rfl, rfl⟩
theorem escape_114 (s : ByteArray) (hz : 2 ≤ s.size) (w : World) (h : (s[1]'(by omega)).toNat = 114) : Calls Tryz.prog 140 #[.string s] w fun e w' => e = .returned (tripV (some (13, 2))) ∧ w' = w := by
  have z2 : ¬ (s.size : Int) < 2 := by omega
  have z1 : (1 : Int) < (s.size : Int) := by omega
  have c0 : (⟨#[8, 9, 10, 12, 13]⟩ : ByteArray)[4]'(by decide) = 13 := rfl
  go_enter Tryz.func140, Tryz.ntmps140
  go_wp2_with fail
  refine (letter114 _).mono ?_
  rintro e w' ⟨rfl, rfl⟩
  go_wp2
  go_ret3
  exact ⟨rfl, rfl⟩
theorem escape_34 (s : ByteArray) (hz : 2 ≤ s.size) (w : World) (h : (s[1]'(by omega)).toNat = 34) : Calls Tryz.prog 140 #[.string s] w fun e w' => e = .returned (tripV (some (34, 2))) ∧ w' = w := by
  have z2 : ¬ (s.size : Int) < 2 := by omega
  have z1 : (1 : Int) < (s.size : Int) := by omega
  go_enter Tryz.func140, Tryz.ntmps140
  go_wp2
  go_ret3
  exact ⟨rfl, rfl⟩
theorem escape_92 (s : ByteArray) (hz : 2 ≤ s.size) (w : World) (h : (s[1]'(by omega)).toNat = 92) : Calls Tryz.prog 140 #[.string s] w fun e w' => e = .returned (tripV (some (92, 2))) ∧ w' = w := by
  have z2 : ¬ (s.size : Int) < 2 := by omega
  have z1 : (1 : Int) < (s.size : Int) := by omega
  go_enter Tryz.func140, Tryz.ntmps140
  go_wp2
  go_ret3
  exact ⟨rfl, rfl⟩
theorem escape_47 (s : ByteArray) (hz : 2 ≤ s.size) (w : World) (h : (s[1]'(by omega)).toNat = 47) : Calls Tryz.prog 140 #[.string s] w fun e w' => e = .returned (tripV (some (47, 2))) ∧ w' = w := by
  have z2 : ¬ (s.size : Int) < 2 := by omega
  have z1 : (1 : Int) < (s.size : Int) := by omega
  go_enter Tryz.func140, Tryz.ntmps140
  go_wp2
  go_ret3
  exact ⟨rfl, rfl⟩
theorem escape_other (s : ByteArray) (hz : 2 ≤ s.size) (w : World) (c : Int) (hc : (((s[1]'(by omega)).toNat : Nat) : Int) = c) (f1 : (c == 117) = false) (f2 : (c == 98) = false) (f3 : (c == 116) = false) (f4 : (c == 110) = false) (f5 : (c == 102) = false) (f6 : (c == 114) = false) (f7 : (c == 34) = false) (f8 : (c == 92) = false) (f9 : (c == 47) = false) :
    Calls Tryz.prog 140 #[.string s] w fun e w' => e = .returned (tripV none) ∧ w' = w := by
  have z2 : ¬ (s.size : Int) < 2 := by omega
  have z1 : (1 : Int) < (s.size : Int) := by omega
  go_enter Tryz.func140, Tryz.ntmps140
  go_wp2
  go_ret3
  exact ⟨rfl, rfl⟩
theorem escape_short (s : ByteArray) (hz : s.size < 2) (w : World) : Calls Tryz.prog 140 #[.string s] w fun e w' => e = .returned (tripV none) ∧ w' = w := by
  have z2 : (s.size : Int) < 2 := by omega
  go_enter Tryz.func140, Tryz.ntmps140
  go_wp2
  go_ret3
  exact ⟨rfl, rfl⟩

theorem escape_any (s : ByteArray) (w : World) : Calls Tryz.prog 140 #[.string s] w fun e w' => e = .returned (tripV (escL s.data.toList)) ∧ w' = w := by
  by_cases hz : s.size < 2
  · have e : escL s.data.toList = none := by
      have : s.data.toList.length < 2 := by rw [← size_list rfl]; exact hz
      match s.data.toList, this with
      | [], _ => rfl
      | [_], _ => rfl
    rw [e]
    exact escape_short s hz w
  · have hl : 2 ≤ s.data.toList.length := by rw [← size_list rfl]; omega
    match e : s.data.toList, hl with
    | a :: x :: r, _ =>
      have hx := byte_at e 1 (by omega) x rfl
      have hU := units_any s w
      rw [e] at hU
      rw [escL]
      have z2 : 2 ≤ s.size := by omega
      by_cases h1 : x.toNat = 117
      · rw [if_pos h1]; exact escape_u s z2 w (by rw [hx]; exact h1) _ hU
      · rw [if_neg h1]
        by_cases h2 : x.toNat = 98
        · rw [if_pos h2]; exact escape_98 s z2 w (by rw [hx]; exact h2)
        · rw [if_neg h2]
          by_cases h3 : x.toNat = 116
          · rw [if_pos h3]; exact escape_116 s z2 w (by rw [hx]; exact h3)
          · rw [if_neg h3]
            by_cases h4 : x.toNat = 110
            · rw [if_pos h4]; exact escape_110 s z2 w (by rw [hx]; exact h4)
            · rw [if_neg h4]
              by_cases h5 : x.toNat = 102
              · rw [if_pos h5]; exact escape_102 s z2 w (by rw [hx]; exact h5)
              · rw [if_neg h5]
                by_cases h6 : x.toNat = 114
                · rw [if_pos h6]; exact escape_114 s z2 w (by rw [hx]; exact h6)
                · rw [if_neg h6]
                  by_cases h7 : x.toNat = 34 ∨ x.toNat = 92 ∨ x.toNat = 47
                  · rw [if_pos h7]
                    rcases h7 with h7 | h7 | h7
                    · rw [h7]; exact escape_34 s z2 w (by rw [hx]; exact h7)
                    · rw [h7]; exact escape_92 s z2 w (by rw [hx]; exact h7)
                    · rw [h7]; exact escape_47 s z2 w (by rw [hx]; exact h7)
                  · rw [if_neg h7]
                    exact escape_other s z2 w _ (by rw [hx]) (by simp; omega) (by simp; omega) (by simp; omega) (by simp; omega) (by simp; omega) (by simp; omega) (by simp; omega) (by simp; omega) (by simp; omega)

/-- the tables of unicode/utf8 lie as they are laid. -/
def TTabs (w : World) : Prop := Lib.Utf8Tabs 3 4 w
theorem TTabs.below {w w' : World} (h : TTabs w) (hb : Below w.heap.size w w') : TTabs w' := by
  refine ⟨fun c hc => ?_, fun i hi => ⟨?_, ?_⟩⟩
  · rw [hb.cell (lt_of_cellT (h.1 c hc))]; exact h.1 c hc
  · rw [hb.cell (lt_of_cellT (h.2 i hi).1)]; exact (h.2 i hi).1
  · rw [hb.cell (lt_of_cellT (h.2 i hi).2)]; exact (h.2 i hi).2

theorem decode_any (s : ByteArray) (h0 : s.data.toList ≠ []) (w : World) (hT : TTabs w) :
    Calls Tryz.prog 114 #[.string s] w fun e w' => e = .returned (.tuple #[.int .i32 ((Lib.decodeL s.data.toList).1 : Int), .int .i64 ((Lib.decodeL s.data.toList).2 : Int)]) ∧ Below w.heap.size w w' := by
  have h := Tryz.utf8_DecodeRuneInString s w hT
  have e : Lib.decodeGo s = Lib.decodeL s.data.toList := by
    unfold Lib.decodeGo
    rw [if_neg (by
      intro h'
      apply h0
      apply List.eq_nil_of_length_eq_zero
      rw [← size_list rfl]; exact h')]
    exact (Lib.decodeL_drop s 0).symm
  rw [e] at h
  exact h

theorem first_low (s : ByteArray) (hz : 1 ≤ s.size) (w : World) (h : (((s[0]'(by omega)).toNat : Nat) : Int) < 32) : Calls Tryz.prog 123 #[.string s] w fun e w' => e = .returned (tripV none) ∧ w' = w := by
  have z1 : (0 : Int) < (s.size : Int) := by omega
  go_enter Tryz.func123, Tryz.ntmps123
  go_wp2
  go_ret3
  exact ⟨rfl, rfl⟩
theorem first_esc (s : ByteArray) (hz : 1 ≤ s.size) (w : World) (h : (s[0]'(by omega)).toNat = 92) (o : Option (Nat × Nat)) (hE : Calls Tryz.prog 140 #[.string s] w fun e w' => e = .returned (tripV o) ∧ w' = w) : Calls Tryz.prog 123 #[.string s] w fun e w' => e = .returned (tripV o) ∧ w' = w := by
  have z1 : (0 : Int) < (s.size : Int) := by omega
  cases o with
  | none =>
    go_enter Tryz.func123, Tryz.ntmps123
    go_wp2_with fail
    refine hE.mono ?_
    rintro e w' ⟨rfl, rfl⟩
    simp only [tripV]
    go_wp2
    go_ret3
    exact ⟨rfl, rfl⟩
  | some cn =>
    go_enter Tryz.func123, Tryz.ntmps123
    go_wp2_with fail
    refine hE.mono ?_
    rintro e w' ⟨rfl, rfl⟩
    simp only [tripV]
    go_wp2
    go_ret3
    exact ⟨rfl, rfl⟩
theorem first_plain (s : ByteArray) (hz : 1 ≤ s.size) (w : World) (hT : TTabs w) (c : Int) (hc : (((s[0]'(by omega)).toNat : Nat) : Int) = c) (f1 : ¬ c < 32) (f2 : (c == 92) = false) :
    Calls Tryz.prog 123 #[.string s] w fun e w' => e = .returned (.tuple #[.int .i32 ((Lib.decodeL s.data.toList).1 : Int), .int .i64 ((Lib.decodeL s.data.toList).2 : Int), .bool (!decide (brk s.data.toList))]) ∧ Below w.heap.size w w' := by
  have z1 : (0 : Int) < (s.size : Int) := by omega
  have hne : s.data.toList ≠ [] := by
    intro h
    have := size_list h
    rw [List.length_nil] at this
    omega
  have hD := decode_any s hne w hT
  have hB := broken_dec s.data.toList
  generalize decide (brk s.data.toList) = bk at *
  generalize hr : ((Lib.decodeL s.data.toList).1 : Int) = r at *
  generalize hn : ((Lib.decodeL s.data.toList).2 : Int) = n at *
  clear hr hn
  go_enter Tryz.func123, Tryz.ntmps123
  go_wp2_with fail
  refine hD.mono ?_
  rintro e w1 ⟨rfl, hb1⟩
  go_wp2_with fail
  refine (hB _).mono ?_
  rintro e w' ⟨rfl, rfl⟩
  go_wp2
  go_ret3
  exact ⟨rfl, hb1⟩

/-- the character that bytes begin with, or that there is none. -/
theorem first_any (s : ByteArray) (hne : s.data.toList ≠ []) (w : World) (hT : TTabs w) :
    Calls Tryz.prog 123 #[.string s] w fun e w' => (match one s.data.toList with | none => ∃ a b, e = .returned (.tuple #[.int .i32 a, .int .i64 b, .bool false]) | some cn => e = .returned (tripV (some cn))) ∧ Below w.heap.size w w' := by
  have hz : 1 ≤ s.size := by
    rcases Nat.lt_or_ge s.size 1 with h | h
    · exact absurd (List.eq_nil_of_length_eq_zero (by rw [← size_list rfl]; omega)) hne
    · exact h
  obtain ⟨b, t, e⟩ : ∃ b t, s.data.toList = b :: t := by
    cases h : s.data.toList with
    | nil => exact absurd h hne
    | cons b t => exact ⟨b, t, rfl⟩
  have hb0 := byte_at e 0 (by omega) b rfl
  by_cases k1 : b.toNat < 32
  · have e1 : one s.data.toList = none := by
      unfold one
      rw [if_pos (.inl (by rw [e, decE b t (by omega)]; exact k1))]
    rw [e1]
    refine (first_low s hz w (by rw [hb0]; omega)).mono ?_
    rintro e w' ⟨rfl, rfl⟩
    exact ⟨⟨_, _, rfl⟩, Below.refl _ _⟩
  · by_cases k2 : b.toNat = 92
    · have e1 : one s.data.toList = escL s.data.toList := by
        unfold one
        have ed : Lib.decodeL s.data.toList = (92, 1) := by rw [e, decE b t (by omega), k2]
        rw [if_neg (by rw [not_or]; exact ⟨by rw [ed]; decide, by rw [brk, ed]; decide⟩), if_pos (by rw [ed])]
      rw [e1]
      refine (first_esc s hz w (by rw [hb0]; exact k2) _ (escape_any s w)).mono ?_
      rintro e w' ⟨rfl, rfl⟩
      cases escL s.data.toList with
      | none => exact ⟨⟨_, _, rfl⟩, Below.refl _ _⟩
      | some cn => exact ⟨rfl, Below.refl _ _⟩
    · refine (first_plain s hz w hT _ (by rw [hb0]) (by omega) (by simp; omega)).mono ?_
      rintro ev w' ⟨rfl, hb⟩
      refine ⟨?_, hb⟩
      have hge : 32 ≤ (Lib.decodeL s.data.toList).1 ∧ (Lib.decodeL s.data.toList).1 ≠ 92 := by
        rcases shapes _ hne with ⟨a, t', e', ha, ed⟩ | ⟨a, b', t', e', c1, c3, cv, ed⟩ | ⟨a, b', c, t', e', c1, c3, c4, cv, cs, ed⟩ | ⟨a, b', c, d, t', e', c1, c3, c4, c5, cv, cw, ed⟩ | ⟨h, ed, _⟩
        · rw [e] at e'; cases e'; rw [ed]; exact ⟨by simp only; omega, k2⟩
        · rw [ed]; simp only; omega
        · rw [ed]; simp only; omega
        · rw [ed]; simp only; omega
        · rw [ed]; decide
      by_cases hbk : brk s.data.toList
      · have e1 : one s.data.toList = none := by unfold one; rw [if_pos (.inr hbk)]
        rw [e1, decide_eq_true hbk]
        exact ⟨_, _, rfl⟩
      · rw [one_plain _ (by omega) hbk hge.2, decide_eq_false hbk]
        rfl
end Go.Proofs.YtnkoblhdbccbeaaGreatDoor

namespace Go.Proofs.YtnkoblhdbccbeaaGreatDoor
open Go.RowKit Go.Extern.Stop Go.Stop Go.Extern

theorem gPow : Tryz.prog.globalNamed "internal/strconv.uint64pow10" = some 6 := by kernel_rfl
def Pow (w : World) : Prop := Lib.TabIs Tryz.prog w "internal/strconv.uint64pow10" .u64 Lib.pow10Tab
theorem Pow.below {w w' : World} (h : Pow w) (hb : Below w.heap.size w w') : Pow w' := by
  have hc := Lib.TabIs.cell h gPow 0 (by decide)
  exact var?_below hb gPow (lt_of_cellT hc) h

/-- what the walks need of the variables. -/
structure TEnv (w : World) : Prop where
  handle : Handle w
  tabs : TTabs w
  pow : Pow w
theorem TEnv.below {w w' : World} (h : TEnv w) (hb : Below w.heap.size w w') : TEnv w' := ⟨h.handle.below hb, h.tabs.below hb, h.pow.below hb⟩

/-- an error that the program made for what is wrong. -/
def Bad (w : World) (v : Value) : Prop := ∃ p, Chain w (.iface 38 (.int .i64 1)) [p] v
theorem Bad.below {w w' : World} {v : Value} (h : Bad w v) (hb : Below w.heap.size w w') : Bad w' v := by
  obtain ⟨p, h⟩ := h
  exact ⟨p, h.below hb⟩

theorem wrong_any (k : Nat) (hk : k ≤ 140737488355328) (w : World) (hE : TEnv w) :
    Calls Tryz.prog 122 #[.int .i64 (k : Int)] w fun e w' => ∃ v, e = .returned (.tuple #[.string ⟨#[]⟩, .int .i64 0, v]) ∧ Bad w' v ∧ Below w.heap.size w w' := by
  have hl := Lib.itoa_length_le (k : Int) (by omega) (by omega)
  go_enter Tryz.func122, Tryz.ntmps122
  go_wp2_with fail
  refine (Tryz.strconv_Itoa (k : Int) (by omega) (by omega) _ hE.pow).mono ?_
  rintro e w1 ⟨rfl, j, os, rfl⟩
  have hB := Lib.below_grow w.heap.size w (Nat.le_refl _) j os
  generalize Sort.grow (w.drewN j) os = W1 at *
  generalize Lib.itoa (k : Int) = it at *
  go_wp2_with fail
  refine (New_some 1 rfl _ _).mono ?_
  rintro e w2 ⟨rfl, rfl⟩
  go_wp2
  go_ret3
  refine ⟨_, rfl, ⟨⟨#[116, 101, 120, 116, 44, 32, 98, 121, 116, 101, 32]⟩ ++ ⟨it.toArray⟩, _, _, rfl, ?_, rfl⟩, hB.alloc hB.size _⟩
  show (Array.push _ _)[_]? = _
  rw [Array.getElem?_push, if_pos rfl]

theorem below_ownsRowF {w w' : World} {base : Nat} {e : TypeId} {size : Nat} {v : Value} {n : Nat} {xs : List Value} (h : w.ownsRowF base e size v n xs) (hb : Below w.heap.size w w') : w'.ownsRowF base e size v n xs :=
  h.kept (row := none) ⟨hb.os, hb.tape, hb.output, hb.size, fun k hk _ => hb.block k hk⟩ (by cases v.ownBlock <;> simp)
theorem below_builderAt {T e : TypeId} {B b : Nat} {p : Value} {bs : List Value} {w w' : World} (h : Lib.BuilderAtF T e B b p bs w) (hb : Below w.heap.size w w') : Lib.BuilderAtF T e B b p bs w' := by
  have hl := h.lt
  obtain ⟨h1, v, h2, h3, h4⟩ := h
  exact ⟨h1, v, by rw [hb.block b hl]; exact h2, below_ownsRowF h3 hb, h4⟩
/-- a builder at a block that holds bytes. -/
def Bld (b : Nat) (l : List UInt8) (w : World) : Prop := Lib.IsBuilderF 72 5 b b (Lib.byteCells l) w
theorem Bld.below {b : Nat} {l : List UInt8} {w w' : World} (h : Bld b l w) (hb : Below w.heap.size w w') : Bld b l w' :=
  h.elim (fun x => .inl (below_builderAt x hb)) (fun x => .inr (below_builderAt x hb))
theorem Bld.lt {b : Nat} {l : List UInt8} {w : World} (h : Bld b l w) : b < w.heap.size := h.elim (·.lt) (·.lt)
theorem Bld.new (w : World) : Bld w.heap.size [] (w.alloc (.cells #[.pointer none, .slice none 0 0] 72)) :=
  .inl ⟨Nat.le_refl _, .slice none 0 0, by show (w.heap.push _)[w.heap.size]? = _; simp, World.ownsRowF_nil _ _ _ _, by simp [Value.ownBlock]⟩
theorem bytes_length (l : List UInt8) : (Lib.byteCells l).length = l.length := by simp [Lib.byteCells]

theorem writeByte (b : Nat) (l : List UInt8) (x : UInt8) (w : World) (h : Bld b l w) (hl : l.length + 1 ≤ 140737488355328) :
    Calls Tryz.prog 93 #[.pointer (some ⟨b, 0, none⟩), .int .u8 (x.toNat : Int)] w fun e w' => e = .returned .nilIface ∧ Bld b (l ++ [x]) w' ∧ Below b w w' := by
  refine (Tryz.Builder_WriteByte_k b b _ _ w h (by rw [bytes_length]; exact hl) (Nat.le_of_lt h.lt)).mono ?_
  rintro e w' ⟨rfl, h1, h2, _⟩
  refine ⟨rfl, .inr ?_, h2⟩
  have e : Lib.byteCells (l ++ [x]) = Lib.byteCells l ++ [.int .u8 (x.toNat : Int)] := by simp [Lib.byteCells]
  rw [e]; exact h1
theorem writeString (b : Nat) (l : List UInt8) (s : ByteArray) (m : List UInt8) (hs : s.data.toList = m) (w : World) (h : Bld b l w) (hl : l.length + m.length ≤ 140737488355328) :
    Calls Tryz.prog 65 #[.pointer (some ⟨b, 0, none⟩), .string s] w fun e w' => e = .returned (.tuple #[.int .i64 s.size, .nilIface]) ∧ Bld b (l ++ m) w' ∧ Below b w w' := by
  refine (Tryz.Builder_WriteString_k b b _ _ w h (by rw [bytes_length, size_list hs]; exact hl) (Nat.le_of_lt h.lt)).mono ?_
  rintro e w' ⟨rfl, h1, h2, _⟩
  refine ⟨rfl, .inr ?_, h2⟩
  have e : Lib.byteCells (l ++ m) = Lib.byteCells l ++ Lib.strCells s := by subst hs; simp [Lib.byteCells, Lib.strCells]
  rw [e]; exact h1
theorem writeRune (b : Nat) (l : List UInt8) (r : Nat) (hr : r ≤ 1114111) (w : World) (h : Bld b l w) (hl : l.length + 4 ≤ 140737488355328) :
    Calls Tryz.prog 124 #[.pointer (some ⟨b, 0, none⟩), .int .i32 (r : Int)] w fun e w' => ∃ z, e = .returned (.tuple #[.int .i64 z, .nilIface]) ∧ Bld b (l ++ Lib.encodeRune (r : Int)) w' ∧ Below b w w' := by
  refine (Tryz.Builder_WriteRune_k b b _ (r : Int) (by omega) (by omega) w h (by rw [bytes_length]; exact hl) (Nat.le_of_lt h.lt)).mono ?_
  rintro e w' ⟨rfl, h1, h2, _⟩
  refine ⟨_, rfl, .inr ?_, h2⟩
  have e : Lib.byteCells (l ++ Lib.encodeRune (r : Int)) = Lib.byteCells l ++ Lib.runeCells (r : Int) := by rw [← Lib.byteCells_encodeRune]; simp [Lib.byteCells]
  rw [e]; exact h1
theorem stringOf (b : Nat) (l : List UInt8) (w : World) (h : Bld b l w) :
    Calls Tryz.prog 35 #[.pointer (some ⟨b, 0, none⟩)] w fun e w' => e = .returned (.string ⟨l.toArray⟩) ∧ Below b w w' := by
  refine (Tryz.Builder_String_any_k b b l w h (Nat.le_of_lt h.lt)).mono ?_
  rintro e w' ⟨rfl, _, h2, _⟩
  exact ⟨rfl, h2⟩

theorem enc_length (r : Nat) : (Lib.encodeRune (r : Int)).length ≤ 4 ∧ (r < 65536 → (Lib.encodeRune (r : Int)).length ≤ 3) ∧ (r < 128 → (Lib.encodeRune (r : Int)).length ≤ 1) := by
  have e : (Lib.encodeRune (r : Int)).length = (Lib.encodeRuneZ (r : Int)).length := by simp [Lib.encodeRune]
  rw [e]
  refine ⟨(Lib.encodeRuneZ_length _).2, fun h => ?_, fun h => ?_⟩
  · by_cases h1 : r ≤ 127
    · rw [Lib.encodeRuneZ_one (by omega) (by omega)]; simp
    · by_cases h2 : r ≤ 2047
      · rw [Lib.encodeRuneZ_two (by omega) (by omega)]; simp
      · by_cases h3 : 55296 ≤ r ∧ r ≤ 57343
        · rw [Lib.encodeRuneZ_bad (by omega)]; simp
        · rw [Lib.encodeRuneZ_three (by omega)]; simp
  · rw [Lib.encodeRuneZ_one (by omega) (by omega)]; simp
theorem unitsL_len {l : List UInt8} {c n : Nat} (h : unitsL l = some (c, n)) : n ≤ l.length ∧ (Lib.encodeRune (c : Int)).length ≤ n := by
  have hc := enc_length c
  unfold unitsL at h
  split at h
  · cases h
  · rename_i a ha
    have := unitU_lt ha
    have hl : 6 ≤ l.length := by
      rcases Nat.lt_or_ge l.length 6 with h' | h'
      · rw [unitU_few h'] at ha; cases ha
      · exact h'
    split at h
    · cases h
    · split at h
      · simp only [Option.some.injEq, Prod.mk.injEq] at h
        omega
      · split at h
        · cases h
        · rename_i b hb
          have hl2 : 6 ≤ (l.drop 6).length := by
            rcases Nat.lt_or_ge (l.drop 6).length 6 with h' | h'
            · rw [unitU_few h'] at hb; cases hb
            · exact h'
          rw [List.length_drop] at hl2
          split at h
          · simp only [Option.some.injEq, Prod.mk.injEq] at h
            omega
          · cases h
theorem one_len {l : List UInt8} {c n : Nat} (hne : l ≠ []) (h : one l = some (c, n)) : n ≤ l.length ∧ (Lib.encodeRune (c : Int)).length ≤ n := by
  have hc := enc_length c
  unfold one at h
  split at h
  · cases h
  · rename_i hb
    split at h
    · unfold escL at h
      split at h
      · repeat' split at h
        all_goals first | exact unitsL_len h | (simp only [Option.some.injEq, Prod.mk.injEq] at h; simp only [List.length_cons]; omega) | cases h
      · cases h
    · have e := Option.some.inj h
      have h1 := Lib.decodeL_le l hne
      have h2 := Lib.encode_decode l hne (fun h' => hb (.inr h'))
      rw [e] at h1 h2
      rw [h2, List.length_take]
      exact ⟨h1, by omega⟩
end Go.Proofs.YtnkoblhdbccbeaaGreatDoor

namespace Go.Proofs.YtnkoblhdbccbeaaGreatDoor
open Go.RowKit Go.Extern.Stop Go.Stop Go.Extern

theorem drop_cons (l : List UInt8) (k : Nat) (h : k < l.length) : l.drop k = l[k] :: l.drop (k + 1) := List.drop_eq_getElem_cons h

/-- what Unquote tells. -/
def Tells (o : Option (List UInt8 × Nat)) (e : Ending) (w : World) : Prop :=
  match o with
  | none => ∃ v, e = .returned (.tuple #[.string ⟨#[]⟩, .int .i64 0, v]) ∧ Bad w v
  | some r => e = .returned (.tuple #[.string ⟨r.1.toArray⟩, .int .i64 (r.2 : Int), .nilIface])

set_option maxHeartbeats 2000000 in
theorem Unquote_any (s : ByteArray) (hs0 : s.size ≤ 140737488355320) (w : World) (hE : TEnv w) :
    Calls Tryz.prog 100 #[.string s] w fun e w' => Tells (readL s.data.toList) e w' ∧ Below w.heap.size w w' := by
  have HS : Hid (s.size ≤ 140737488355320) := hs0
  clear hs0
  by_cases h0 : s.size = 0
  · have e : s.data.toList = [] := List.eq_nil_of_length_eq_zero (by rw [← size_list rfl]; exact h0)
    have e' : s = ⟨#[]⟩ := by
      cases s with
      | mk d => cases d; simp at e; subst e; rfl
    rw [e]
    subst e'
    clear h0 e
    go_enter Tryz.func100, Tryz.ntmps100
    go_wp2_with fail
    refine (wrong_any 0 (by omega) _ hE).mono ?_
    rintro e w1 ⟨v, rfl, hv, hb⟩
    go_wp2
    go_ret3
    exact ⟨⟨_, rfl, hv⟩, hb⟩
  · obtain ⟨b, t, hl⟩ : ∃ b t, s.data.toList = b :: t := by
      cases h : s.data.toList with
      | nil => exact absurd (by rw [size_list h]; rfl) h0
      | cons b t => exact ⟨b, t, rfl⟩
    have hne : s.toList.isEmpty = false := by rw [Lib.toList_data, hl]; rfl
    have z1 : (0 : Int) < (s.size : Int) := by omega
    have hpos : 0 < s.size := Nat.pos_of_ne_zero h0
    have i0 := byte_at hl 0 hpos b rfl
    by_cases hb : b.toNat = 34
    · have eb : ((b.toNat : Int) != 34) = false := by rw [hb]; rfl
      have hR : readL s.data.toList = rd t [] 1 := by rw [hl]; exact if_pos hb
      have HR : Hid (readL s.data.toList = rd (s.data.toList.drop 1) [] 1) := by rw [hR, hl]; rfl
      have hne2 : s.data.toList ≠ [] := by rw [hl]; simp
      have i34 : ((s[0]'hpos).toNat : Int) = 34 := by rw [i0, hb]; rfl
      clear hR hb eb i0 hl b t
      go_enter Tryz.func100, Tryz.ntmps100
      go_wp2_with fail
      go_loopw [6] (fun at' wr => ∃ (k : Nat) (o : List UInt8), at' = .int .i64 (k : Int) ∧ 1 ≤ k ∧ k ≤ s.size ∧ o.length ≤ k ∧ Below w.heap.size w wr ∧ Bld w.heap.size o wr ∧ readL s.data.toList = rd (s.data.toList.drop k) o k) (fun at' _ => s.size - (intOf at').toNat)
      case atStart => exact ⟨1, [], rfl, by omega, by omega, by simp, (Below.refl _ _).alloc (Nat.le_refl _) _, Bld.new w, HR.out⟩
      case round =>
        obtain ⟨k, o, rfl, hk1, hk2, ho, hB, hbu, hr⟩ := hrel
        have HX : Hid (readL s.data.toList = rd (s.data.toList.drop k) o k) := hr
        clear hr HR
        have zi : (s.size : Int) ≤ 140737488355320 := by have := HS.out; omega
        by_cases hlt : k < s.size
        · have hln : k < s.data.toList.length := by rw [← size_list rfl]; exact hlt
          obtain ⟨x, hx⟩ : ∃ x, s.data.toList[k] = x := ⟨_, rfl⟩
          have hd : s.data.toList.drop k = x :: s.data.toList.drop (k + 1) := by rw [drop_cons _ _ hln, hx]
          have ix : s[k]'hlt = x := byte_at rfl k hlt x (by rw [List.getElem?_eq_getElem hln, hx])
          have HD : Hid (s.data.toList.drop k = x :: s.data.toList.drop (k + 1)) := hd
          clear hx hd
          have zk : (k : Int) < (s.size : Int) := by omega
          by_cases hq : x.toNat = 34
          · have eq : ((x.toNat : Int) != 34) = false := by rw [hq]; rfl
            have HQ : Hid (x.toNat = 34) := hq
            have ne : ((k : Int) == (s.size : Int)) = false := by simp; omega
            clear hq
            go_wp2_with fail
            refine (stringOf _ o _ hbu).mono ?_
            rintro e w1 ⟨rfl, hb1⟩
            go_wp2
            go_ret3
            refine ⟨?_, hB.trans hb1⟩
            rw [HX.out, HD.out, rd_quote x _ _ _ HQ.out]
            rfl
          · have eq : ((x.toNat : Int) != 34) = true := by simp; omega
            have HQ : Hid (¬ x.toNat = 34) := hq
            have hdl := drop_list (s := s) rfl k
            clear hq
            go_wp2_with fail
            refine (first_any (s.extract k s.size) (by rw [hdl, HD.out]; simp) _ (hE.tabs.below hB)).mono ?_
            rintro e w1 ⟨hm, hb1⟩
            rw [hdl] at hm
            have hB1 := hB.trans (hb1.mono hB.size)
            cases ho1 : one (s.data.toList.drop k) with
            | none =>
              rw [ho1] at hm
              obtain ⟨a, b, rfl⟩ := hm
              clear hdl
              go_wp2_with fail
              refine (wrong_any k (by omega) _ (hE.below hB1)).mono ?_
              rintro e w2 ⟨v, rfl, hv, hb2⟩
              go_wp2
              go_ret3
              refine ⟨?_, hB1.trans (hb2.mono hB1.size)⟩
              have h1 : one (x :: s.data.toList.drop (k + 1)) = none := by rw [← HD.out]; exact ho1
              rw [HX.out, HD.out, rd_none x _ _ _ HQ.out h1]
              exact ⟨_, rfl, hv⟩
            | some cn =>
              obtain ⟨c, n⟩ := cn
              rw [ho1] at hm
              simp only [tripV] at hm
              subst hm
              have h1 : one (x :: s.data.toList.drop (k + 1)) = some (c, n) := by rw [← HD.out]; exact ho1
              have hp := one_pos h1
              have hle := one_len (by simp) h1
              rw [← HD.out, List.length_drop, ← size_list rfl] at hle
              have hbu1 := hbu.below hb1
              have H1 : Hid (one (x :: s.data.toList.drop (k + 1)) = some (c, n)) := h1
              have HC : Hid (1 ≤ n ∧ c ≤ 1114111) := hp
              have HL : Hid (n ≤ s.size - k ∧ (Lib.encodeRune (c : Int)).length ≤ n) := hle
              have zn : (k : Int) + (n : Int) ≤ (s.size : Int) := by omega
              clear hdl h1 ho1 hp hle
              go_wp2_with fail
              refine (writeRune _ o c HC.out.2 _ hbu1 (by omega)).mono ?_
              rintro e w2 ⟨z, rfl, hbu2, hb2⟩
              go_wp2
              go_roundw
              case rel =>
                refine ⟨k + n, o ++ Lib.encodeRune (c : Int), by go_num, by omega, by have := HL.out; omega, by have := HL.out; simp; omega, hB1.trans hb2, hbu2, ?_⟩
                rw [HX.out, HD.out, rd_some x _ _ _ _ _ HQ.out H1.out, ← HD.out, List.drop_drop]
              case measure => have := HC.out; have := HL.out; simp [intOf]; omega
        · have ek : k = s.size := by omega
          have hd : s.data.toList.drop k = [] := List.drop_of_length_le (by rw [← size_list rfl]; omega)
          have HD : Hid (s.data.toList.drop k = []) := hd
          have zk : ¬ (k : Int) < (s.size : Int) := by omega
          have ne : ((k : Int) == (s.size : Int)) = true := by simp; omega
          clear hd ek
          go_wp2_with fail
          refine (wrong_any k (by have := HS.out; omega) _ (hE.below hB)).mono ?_
          rintro e w2 ⟨v, rfl, hv, hb2⟩
          go_wp2
          go_ret3
          refine ⟨?_, hB.trans (hb2.mono hB.size)⟩
          rw [HX.out, HD.out, rd_nil]
          exact ⟨_, rfl, hv⟩
    · have eb : ((b.toNat : Int) != 34) = true := by simp; omega
      have hR : readL s.data.toList = none := by rw [hl]; exact if_neg hb
      rw [hR]
      clear hR hb hl
      go_enter Tryz.func100, Tryz.ntmps100
      go_wp2_with fail
      refine (wrong_any 0 (by omega) _ hE).mono ?_
      rintro e w1 ⟨v, rfl, hv, hb⟩
      go_wp2
      go_ret3
      exact ⟨⟨_, rfl, hv⟩, hb⟩
end Go.Proofs.YtnkoblhdbccbeaaGreatDoor
