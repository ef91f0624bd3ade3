/-
  Escapes and characters between quotes: the program's escape and first, by their contracts. No conditions beyond those stated.
-/
import Derived.Test.YtdcaohnaiepllaaGreatDoorTEsc
namespace Go.Proofs.YtdcaohnaiepllaaGreatDoor
open Go.RowKit Go.Extern.Stop Go.Stop Go.Extern

theorem letter98 (w : World) : Calls Tryz.prog 99 #[.string ⟨#[98, 116, 110, 102, 114]⟩, .int .u8 98] w fun e w' => e = .returned (.int .i64 0) ∧ w' = w := Tryz.strings_IndexByte ⟨#[98, 116, 110, 102, 114]⟩ 98 w
theorem letter116 (w : World) : Calls Tryz.prog 99 #[.string ⟨#[98, 116, 110, 102, 114]⟩, .int .u8 116] w fun e w' => e = .returned (.int .i64 1) ∧ w' = w := Tryz.strings_IndexByte ⟨#[98, 116, 110, 102, 114]⟩ 116 w
theorem letter110 (w : World) : Calls Tryz.prog 99 #[.string ⟨#[98, 116, 110, 102, 114]⟩, .int .u8 110] w fun e w' => e = .returned (.int .i64 2) ∧ w' = w := Tryz.strings_IndexByte ⟨#[98, 116, 110, 102, 114]⟩ 110 w
theorem letter102 (w : World) : Calls Tryz.prog 99 #[.string ⟨#[98, 116, 110, 102, 114]⟩, .int .u8 102] w fun e w' => e = .returned (.int .i64 3) ∧ w' = w := Tryz.strings_IndexByte ⟨#[98, 116, 110, 102, 114]⟩ 102 w
theorem letter114 (w : World) : Calls Tryz.prog 99 #[.string ⟨#[98, 116, 110, 102, 114]⟩, .int .u8 114] w fun e w' => e = .returned (.int .i64 4) ∧ w' = w := Tryz.strings_IndexByte ⟨#[98, 116, 110, 102, 114]⟩ 114 w

section
variable (s : ByteArray) (hz : 2 ≤ s.size) (w : World)
theorem escape_u (h : (s[1]'(by omega)).toNat = 117) (o : Option (Nat × Nat)) (hU : Calls Tryz.prog 132 #[.string s] w fun e w' => e = .returned (tripV o) ∧ w' = w) : Calls Tryz.prog 126 #[.string s] w fun e w' => e = .returned (tripV o) ∧ w' = w := by
  have z2 : ¬ (s.size : Int) < 2 := by omega
  have z1 : (1 : Int) < (s.size : Int) := by omega
  cases o with
  | none =>
    go_enter Tryz.func126, Tryz.ntmps126
    go_wp2_with fail
    refine hU.mono ?_
    rintro e w' ⟨rfl, rfl⟩
    simp only [tripV]
    go_wp2
    go_ret3
    exact ⟨rfl, rfl⟩
  | some cn =>
    go_enter Tryz.func126, Tryz.ntmps126
    go_wp2_with fail
    refine hU.mono ?_
    rintro e w' ⟨rfl, rfl⟩
    simp only [tripV]
    go_wp2
    go_ret3
    exact ⟨rfl, rfl⟩
end
theorem escape_98 (s : ByteArray) (hz : 2 ≤ s.size) (w : World) (h : (s[1]'(by omega)).toNat = 98) : Calls Tryz.prog 126 #[.string s] w fun e w' => e = .returned (tripV (some (8, 2))) ∧ w' = w := by
  have z2 : ¬ (s.size : Int) < 2 := by omega
  have z1 : (1 : Int) < (s.size : Int) := by omega
  have c0 : (⟨#[8, 9, 10, 12, 13]⟩ : ByteArray)[0]'(by decide) = 8 := rfl
  go_enter Tryz.func126, Tryz.ntmps126
  go_wp2_with fail
  refine (letter98 _).mono ?_
  rintro e w' ⟨rfl, rfl⟩
  go_wp2
  go_ret3
  exact ⟨rfl, rfl⟩
theorem escape_116 (s : ByteArray) (hz : 2 ≤ s.size) (w : World) (h : (s[1]'(by omega)).toNat = 116) : Calls Tryz.prog 126 #[.string s] w fun e w' => e = .returned (tripV (some (9, 2))) ∧ w' = w := by
  have z2 : ¬ (s.size : Int) < 2 := by omega
  have z1 : (1 : Int) < (s.size : Int) := by omega
  have c0 : (⟨#[8, 9, 10, 12, 13]⟩ : ByteArray)[1]'(by decide) = 9 := rfl
  go_enter Tryz.func126, Tryz.ntmps126
  go_wp2_with fail
  refine (letter116 _).mono ?_
  rintro e w' ⟨rfl, rfl⟩
  go_wp2
  go_ret3
  exact ⟨rfl, rfl⟩
theorem escape_110 (s : ByteArray) (hz : 2 ≤ s.size) (w : World) (h : (s[1]'(by omega)).toNat = 110) : Calls Tryz.prog 126 #[.string s] w fun e w' => e = .returned (tripV (some (10, 2))) ∧ w' = w := by
  have z2 : ¬ (s.size : Int) < 2 := by omega
  have z1 : (1 : Int) < (s.size : Int) := by omega
  have c0 : (⟨#[8, 9, 10, 12, 13]⟩ : ByteArray)[2]'(by decide) = 10 := rfl
  go_enter Tryz.func126, Tryz.ntmps126
  go_wp2_with fail
  refine (letter110 _).mono ?_
  rintro e w' ⟨rfl, rfl⟩
  go_wp2
  go_ret3
  exact ⟨rfl, rfl⟩
theorem escape_102 (s : ByteArray) (hz : 2 ≤ s.size) (w : World) (h : (s[1]'(by omega)).toNat = 102) : Calls Tryz.prog 126 #[.string s] w fun e w' => e = .returned (tripV (some (12, 2))) ∧ w' = w := by
  have z2 : ¬ (s.size : Int) < 2 := by omega
  have z1 : (1 : Int) < (s.size : Int) := by omega
  have c0 : (⟨#[8, 9, 10, 12, 13]⟩ : ByteArray)[3]'(by decide) = 12 := rfl
  go_enter Tryz.func126, Tryz.ntmps126
  go_wp2_with fail
  refine (letter102 _).mono ?_
  rintro e w' ⟨rfl, rfl⟩
  go_wp2
  go_ret3
  exact ⟨rfl, rfl⟩
theorem escape_114 (s : ByteArray) (hz : 2 ≤ s.size) (w : World) (h : (s[1]'(by omega)).toNat = 114) : Calls Tryz.prog 126 #[.string s] w fun e w' => e = .returned (tripV (some (13, 2))) ∧ w' = w := by
  have z2 : ¬ (s.size : Int) < 2 := by omega
  have z1 : (1 : Int) < (s.size : Int) := by omega
  have c0 : (⟨#[8, 9, 10, 12, 13]⟩ : ByteArray)[4]'(by decide) = 13 := rfl
  go_enter Tryz.func126, Tryz.ntmps126
  go_wp2_with fail
  refine (letter114 _).mono ?_
  rintro e w' ⟨rfl, rfl⟩
  go_wp2
  go_ret3
  exact ⟨rfl, rfl⟩
theorem escape_34 (s : ByteArray) (hz : 2 ≤ s.size) (w : World) (h : (s[1]'(by omega)).toNat = 34) : Calls Tryz.prog 126 #[.string s] w fun e w' => e = .returned (tripV (some (34, 2))) ∧ w' = w := by
  have z2 : ¬ (s.size : Int) < 2 := by omega
  have z1 : (1 : Int) < (s.size : Int) := by omega
  go_enter Tryz.func126, Tryz.ntmps126
  go_wp2
  go_ret3
  exact ⟨rfl, rfl⟩
theorem escape_92 (s : ByteArray) (hz : 2 ≤ s.size) (w : World) (h : (s[1]'(by omega)).toNat = 92) : Calls Tryz.prog 126 #[.string s] w fun e w' => e = .returned (tripV (some (92, 2))) ∧ w' = w := by
  have z2 : ¬ (s.size : Int) < 2 := by omega
  have z1 : (1 : Int) < (s.size : Int) := by omega
  go_enter Tryz.func126, Tryz.ntmps126
  go_wp2
  go_ret3
  exact ⟨rfl, rfl⟩
theorem escape_47 (s : ByteArray) (hz : 2 ≤ s.size) (w : World) (h : (s[1]'(by omega)).toNat = 47) : Calls Tryz.prog 126 #[.string s] w fun e w' => e = .returned (tripV (some (47, 2))) ∧ w' = w := by
  have z2 : ¬ (s.size : Int) < 2 := by omega
  have z1 : (1 : Int) < (s.size : Int) := by omega
  go_enter Tryz.func126, Tryz.ntmps126
  go_wp2
  go_ret3
  exact ⟨rfl, rfl⟩
theorem escape_other (s : ByteArray) (hz : 2 ≤ s.size) (w : World) (c : Int) (hc : (((s[1]'(by omega)).toNat : Nat) : Int) = c) (f1 : (c == 117) = false) (f2 : (c == 98) = false) (f3 : (c == 116) = false) (f4 : (c == 110) = false) (f5 : (c == 102) = false) (f6 : (c == 114) = false) (f7 : (c == 34) = false) (f8 : (c == 92) = false) (f9 : (c == 47) = false) :
    Calls Tryz.prog 126 #[.string s] w fun e w' => e = .returned (tripV none) ∧ w' = w := by
  have z2 : ¬ (s.size : Int) < 2 := by omega
  have z1 : (1 : Int) < (s.size : Int) := by omega
  go_enter Tryz.func126, Tryz.ntmps126
  go_wp2
  go_ret3
  exact ⟨rfl, rfl⟩
theorem escape_short (s : ByteArray) (hz : s.size < 2) (w : World) : Calls Tryz.prog 126 #[.string s] w fun e w' => e = .returned (tripV none) ∧ w' = w := by
  have z2 : (s.size : Int) < 2 := by omega
  go_enter Tryz.func126, Tryz.ntmps126
  go_wp2
  go_ret3
  exact ⟨rfl, rfl⟩

theorem escape_any (s : ByteArray) (w : World) : Calls Tryz.prog 126 #[.string s] w fun e w' => e = .returned (tripV (escL s.data.toList)) ∧ w' = w := by
  by_cases hz : s.size < 2
  · have e : escL s.data.toList = none := by
      have : s.data.toList.length < 2 := by rw [← size_list rfl]; exact hz
      match s.data.toList, this with
      | [], _ => rfl
      | [_], _ => rfl
    rw [e]
    exact escape_short s hz w
  · have hl : 2 ≤ s.data.toList.length := by rw [← size_list rfl]; omega
    match e : s.data.toList, hl with
    | a :: x :: r, _ =>
      have hx := byte_at e 1 (by omega) x rfl
      have hU := units_any s w
      rw [e] at hU
      rw [escL]
      have z2 : 2 ≤ s.size := by omega
      by_cases h1 : x.toNat = 117
      · rw [if_pos h1]; exact escape_u s z2 w (by rw [hx]; exact h1) _ hU
      · rw [if_neg h1]
        by_cases h2 : x.toNat = 98
        · rw [if_pos h2]; exact escape_98 s z2 w (by rw [hx]; exact h2)
        · rw [if_neg h2]
          by_cases h3 : x.toNat = 116
          · rw [if_pos h3]; exact escape_116 s z2 w (by rw [hx]; exact h3)
          · rw [if_neg h3]
            by_cases h4 : x.toNat = 110
            · rw [if_pos h4]; exact escape_110 s z2 w (by rw [hx]; exact h4)
            · rw [if_neg h4]
              by_cases h5 : x.toNat = 102
              · rw [if_pos h5]; exact escape_102 s z2 w (by rw [hx]; exact h5)
              · rw [if_neg h5]
                by_cases h6 : x.toNat = 114
                · rw [if_pos h6]; exact escape_114 s z2 w (by rw [hx]; exact h6)
                · rw [if_neg h6]
                  by_cases h7 : x.toNat = 34 ∨ x.toNat = 92 ∨ x.toNat = 47
                  · rw [if_pos h7]
                    rcases h7 with h7 | h7 | h7
                    · rw [h7]; exact escape_34 s z2 w (by rw [hx]; exact h7)
                    · rw [h7]; exact escape_92 s z2 w (by rw [hx]; exact h7)
                    · rw [h7]; exact escape_47 s z2 w (by rw [hx]; exact h7)
                  · rw [if_neg h7]
                    exact escape_other s z2 w _ (by rw [hx]) (by simp; omega) (by simp; omega) (by simp; omega) (by simp; omega) (by simp; omega) (by simp; omega) (by simp; omega) (by simp; omega) (by simp; omega)

/-- the tables of unicode/utf8 lie as they are laid. -/
def TTabs (w : World) : Prop := Lib.Utf8Tabs 7 8 w
theorem TTabs.below {w w' : World} (h : TTabs w) (hb : Below w.heap.size w w') : TTabs w' := by
  refine ⟨fun c hc => ?_, fun i hi => ⟨?_, ?_⟩⟩
  · rw [hb.cell (lt_of_cellT (h.1 c hc))]; exact h.1 c hc
  · rw [hb.cell (lt_of_cellT (h.2 i hi).1)]; exact (h.2 i hi).1
  · rw [hb.cell (lt_of_cellT (h.2 i hi).2)]; exact (h.2 i hi).2

theorem decode_any (s : ByteArray) (h0 : s.data.toList ≠ []) (w : World) (hT : TTabs w) :
    Calls Tryz.prog 100 #[.string s] w fun e w' => e = .returned (.tuple #[.int .i32 ((Lib.decodeL s.data.toList).1 : Int), .int .i64 ((Lib.decodeL s.data.toList).2 : Int)]) ∧ Below w.heap.size w w' := by
  have h := Tryz.utf8_DecodeRuneInString s w hT
  have e : Lib.decodeGo s = Lib.decodeL s.data.toList := by
    unfold Lib.decodeGo
    rw [if_neg (by
      intro h'
      apply h0
      apply List.eq_nil_of_length_eq_zero
      rw [← size_list rfl]; exact h')]
    exact (Lib.decodeL_drop s 0).symm
  rw [e] at h
  exact h

theorem first_low (s : ByteArray) (hz : 1 ≤ s.size) (w : World) (h : (((s[0]'(by omega)).toNat : Nat) : Int) < 32) : Calls Tryz.prog 109 #[.string s] w fun e w' => e = .returned (tripV none) ∧ w' = w := by
  have z1 : (0 : Int) < (s.size : Int) := by omega
  go_enter Tryz.func109, Tryz.ntmps109
  go_wp2
  go_ret3
  exact ⟨rfl, rfl⟩
theorem first_esc (s : ByteArray) (hz : 1 ≤ s.size) (w : World) (h : (s[0]'(by omega)).toNat = 92) (o : Option (Nat × Nat)) (hE : Calls Tryz.prog 126 #[.string s] w fun e w' => e = .returned (tripV o) ∧ w' = w) : Calls Tryz.prog 109 #[.string s] w fun e w' => e = .returned (tripV o) ∧ w' = w := by
  have z1 : (0 : Int) < (s.size : Int) := by omega
  cases o with
  | none =>
    go_enter Tryz.func109, Tryz.ntmps109
    go_wp2_with fail
    refine hE.mono ?_
    rintro e w' ⟨rfl, rfl⟩
    simp only [tripV]
    go_wp2
    go_ret3
    exact ⟨rfl, rfl⟩
  | some cn =>
    go_enter Tryz.func109, Tryz.ntmps109
    go_wp2_with fail
    refine hE.mono ?_
    rintro e w' ⟨rfl, rfl⟩
    simp only [tripV]
    go_wp2
    go_ret3
    exact ⟨rfl, rfl⟩
theorem first_plain (s : ByteArray) (hz : 1 ≤ s.size) (w : World) (hT : TTabs w) (c : Int) (hc : (((s[0]'(by omega)).toNat : Nat) : Int) = c) (f1 : ¬ c < 32) (f2 : (c == 92) = false) :
    Calls Tryz.prog 109 #[.string s] w fun e w' => e = .returned (.tuple #[.int .i32 ((Lib.decodeL s.data.toList).1 : Int), .int .i64 ((Lib.decodeL s.data.toList).2 : Int), .bool (!decide (brk s.data.toList))]) ∧ Below w.heap.size w w' := by
  have z1 : (0 : Int) < (s.size : Int) := by omega
  have hne : s.data.toList ≠ [] := by
    intro h
    have := size_list h
    rw [List.length_nil] at this
    omega
  have hD := decode_any s hne w hT
  have hB := broken_dec s.data.toList
  generalize decide (brk s.data.toList) = bk at *
  generalize hr : ((Lib.decodeL s.data.toList).1 : Int) = r at *
  generalize hn : ((Lib.decodeL s.data.toList).2 : Int) = n at *
  clear hr hn
  go_enter Tryz.func109, Tryz.ntmps109
  go_wp2_with fail
  refine hD.mono ?_
  rintro e w1 ⟨rfl, hb1⟩
  go_wp2_with fail
  refine (hB _).mono ?_
  rintro e w' ⟨rfl, rfl⟩
  go_wp2
  go_ret3
  exact ⟨rfl, hb1⟩

/-- the character that bytes begin with, or that there is none. -/
theorem first_any (s : ByteArray) (hne : s.data.toList ≠ []) (w : World) (hT : TTabs w) :
    Calls Tryz.prog 109 #[.string s] w fun e w' => (match one s.data.toList with | none => ∃ a b, e = .returned (.tuple #[.int .i32 a, .int .i64 b, .bool false]) | some cn => e = .returned (tripV (some cn))) ∧ Below w.heap.size w w' := by
  have hz : 1 ≤ s.size := by
    rcases Nat.lt_or_ge s.size 1 with h | h
    · exact absurd (List.eq_nil_of_length_eq_zero (by rw [← size_list rfl]; omega)) hne
    · exact h
  obtain ⟨b, t, e⟩ : ∃ b t, s.data.toList = b :: t := by
    cases h : s.data.toList with
    | nil => exact absurd h hne
    | cons b t => exact ⟨b, t, rfl⟩
  have hb0 := byte_at e 0 (by omega) b rfl
  by_cases k1 : b.toNat < 32
  · have e1 : one s.data.toList = none := by
      unfold one
      rw [if_pos (.inl (by rw [e, decE b t (by omega)]; exact k1))]
    rw [e1]
    refine (first_low s hz w (by rw [hb0]; omega)).mono ?_
    rintro e w' ⟨rfl, rfl⟩
    exact ⟨⟨_, _, rfl⟩, Below.refl _ _⟩
  · by_cases k2 : b.toNat = 92
    · have e1 : one s.data.toList = escL s.data.toList := by
        unfold one
        have ed : Lib.decodeL s.data.toList = (92, 1) := by rw [e, decE b t (by omega), k2]
        rw [if_neg (by rw [not_or]; exact ⟨by rw [ed]; decide, by rw [brk, ed]; decide⟩), if_pos (by rw [ed])]
      rw [e1]
      refine (first_esc s hz w (by rw [hb0]; exact k2) _ (escape_any s w)).mono ?_
      rintro e w' ⟨rfl, rfl⟩
      cases escL s.data.toList with
      | none => exact ⟨⟨_, _, rfl⟩, Below.refl _ _⟩
      | some cn => exact ⟨rfl, Below.refl _ _⟩
    · refine (first_plain s hz w hT _ (by rw [hb0]) (by omega) (by simp; omega)).mono ?_
      rintro ev w' ⟨rfl, hb⟩
      refine ⟨?_, hb⟩
      have hge : 32 ≤ (Lib.decodeL s.data.toList).1 ∧ (Lib.decodeL s.data.toList).1 ≠ 92 := by
        rcases shapes _ hne with ⟨a, t', e', ha, ed⟩ | ⟨a, b', t', e', c1, c3, cv, ed⟩ | ⟨a, b', c, t', e', c1, c3, c4, cv, cs, ed⟩ | ⟨a, b', c, d, t', e', c1, c3, c4, c5, cv, cw, ed⟩ | ⟨h, ed, _⟩
        · rw [e] at e'; cases e'; rw [ed]; exact ⟨by simp only; omega, k2⟩
        · rw [ed]; simp only; omega
        · rw [ed]; simp only; omega
        · rw [ed]; simp only; omega
        · rw [ed]; decide
      by_cases hbk : brk s.data.toList
      · have e1 : one s.data.toList = none := by unfold one; rw [if_pos (.inr hbk)]
        rw [e1, decide_eq_true hbk]
        exact ⟨_, _, rfl⟩
      · rw [one_plain _ (by omega) hbk hge.2, decide_eq_false hbk]
        rfl
end Go.Proofs.YtdcaohnaiepllaaGreatDoor
