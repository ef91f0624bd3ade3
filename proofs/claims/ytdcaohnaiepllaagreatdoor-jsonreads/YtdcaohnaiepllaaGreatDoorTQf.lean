/-
  The program's Quote by its contract: it tells what the plain function writes. Condition: the text has at most 2^40 bytes.
-/
import Derived.Test.YtdcaohnaiepllaaGreatDoorTUnq
namespace Go.Proofs.YtdcaohnaiepllaaGreatDoor
open Go.RowKit Go.Extern.Stop Go.Stop Go.Extern

theorem control8 (w : World) : Calls Tryz.prog 99 #[.string ⟨#[8, 9, 10, 12, 13]⟩, .int .u8 8] w fun e w' => e = .returned (.int .i64 0) ∧ w' = w := Tryz.strings_IndexByte ⟨#[8, 9, 10, 12, 13]⟩ 8 w
theorem control9 (w : World) : Calls Tryz.prog 99 #[.string ⟨#[8, 9, 10, 12, 13]⟩, .int .u8 9] w fun e w' => e = .returned (.int .i64 1) ∧ w' = w := Tryz.strings_IndexByte ⟨#[8, 9, 10, 12, 13]⟩ 9 w
theorem control10 (w : World) : Calls Tryz.prog 99 #[.string ⟨#[8, 9, 10, 12, 13]⟩, .int .u8 10] w fun e w' => e = .returned (.int .i64 2) ∧ w' = w := Tryz.strings_IndexByte ⟨#[8, 9, 10, 12, 13]⟩ 10 w
theorem control12 (w : World) : Calls Tryz.prog 99 #[.string ⟨#[8, 9, 10, 12, 13]⟩, .int .u8 12] w fun e w' => e = .returned (.int .i64 3) ∧ w' = w := Tryz.strings_IndexByte ⟨#[8, 9, 10, 12, 13]⟩ 12 w
theorem control13 (w : World) : Calls Tryz.prog 99 #[.string ⟨#[8, 9, 10, 12, 13]⟩, .int .u8 13] w fun e w' => e = .returned (.int .i64 4) ∧ w' = w := Tryz.strings_IndexByte ⟨#[8, 9, 10, 12, 13]⟩ 13 w
theorem quoteFirst_8 (b : Nat) (l : List UInt8) (s : ByteArray) (hz : 0 < s.size) (h : (s[0]'hz).toNat = 8) (w : World) (hb : Bld b l w) (hl : l.length + 16 ≤ 140737488355328) :
    Calls Tryz.prog 81 #[.pointer (some ⟨b, 0, none⟩), .string s] w fun e w' => e = .returned (.int .i64 1) ∧ Bld b (l ++ [92, 98]) w' ∧ Below b w w' := by
  have z1 : (0 : Int) < (s.size : Int) := by omega
  have HL : Hid (l.length + 16 ≤ 140737488355328) := hl
  clear hl
  have c0 : (⟨#[98, 116, 110, 102, 114]⟩ : ByteArray)[0]'(by decide) = 98 := rfl
  go_enter Tryz.func81, Tryz.ntmps81
  go_wp2_with fail
  refine (control8 _).mono ?_
  rintro e w0 ⟨rfl, rfl⟩
  go_wp2_with fail
  refine (writeByte b l 92 _ hb (by have := HL.out; omega)).mono ?_
  rintro e w1 ⟨rfl, hb1, hB1⟩
  go_wp2_with fail
  refine (writeByte b _ 98 _ hb1 (by have := HL.out; simp; omega)).mono ?_
  rintro e w2 ⟨rfl, hb2, hB2⟩
  go_wp2
  go_ret
  exact ⟨rfl, by simpa using hb2, hB1.trans hB2⟩
theorem quoteFirst_9 (b : Nat) (l : List UInt8) (s : ByteArray) (hz : 0 < s.size) (h : (s[0]'hz).toNat = 9) (w : World) (hb : Bld b l w) (hl : l.length + 16 ≤ 140737488355328) :
    Calls Tryz.prog 81 #[.pointer (some ⟨b, 0, none⟩), .string s] w fun e w' => e = .returned (.int .i64 1) ∧ Bld b (l ++ [92, 116]) w' ∧ Below b w w' := by
  have z1 : (0 : Int) < (s.size : Int) := by omega
  have HL : Hid (l.length + 16 ≤ 140737488355328) := hl
  clear hl
  have c0 : (⟨#[98, 116, 110, 102, 114]⟩ : ByteArray)[1]'(by decide) = 116 := rfl
  go_enter Tryz.func81, Tryz.ntmps81
  go_wp2_with fail
  refine (control9 _).mono ?_
  rintro e w0 ⟨rfl, rfl⟩
  go_wp2_with fail
  refine (writeByte b l 92 _ hb (by have := HL.out; omega)).mono ?_
  rintro e w1 ⟨rfl, hb1, hB1⟩
  go_wp2_with fail
  refine (writeByte b _ 116 _ hb1 (by have := HL.out; simp; omega)).mono ?_
  rintro e w2 ⟨rfl, hb2, hB2⟩
  go_wp2
  go_ret
  exact ⟨rfl, by simpa using hb2, hB1.trans hB2⟩
theorem quoteFirst_10 (b : Nat) (l : List UInt8) (s : ByteArray) (hz : 0 < s.size) (h : (s[0]'hz).toNat = 10) (w : World) (hb : Bld b l w) (hl : l.length + 16 ≤ 140737488355328) :
    Calls Tryz.prog 81 #[.pointer (some ⟨b, 0, none⟩), .string s] w fun e w' => e = .returned (.int .i64 1) ∧ Bld b (l ++ [92, 110]) w' ∧ Below b w w' := by
  have z1 : (0 : Int) < (s.size : Int) := by omega
  have HL : Hid (l.length + 16 ≤ 140737488355328) := hl
  clear hl
  have c0 : (⟨#[98, 116, 110, 102, 114]⟩ : ByteArray)[2]'(by decide) = 110 := rfl
  go_enter Tryz.func81, Tryz.ntmps81
  go_wp2_with fail
  refine (control10 _).mono ?_
  rintro e w0 ⟨rfl, rfl⟩
  go_wp2_with fail
  refine (writeByte b l 92 _ hb (by have := HL.out; omega)).mono ?_
  rintro e w1 ⟨rfl, hb1, hB1⟩
  go_wp2_with fail
  refine (writeByte b _ 110 _ hb1 (by have := HL.out; simp; omega)).mono ?_
  rintro e w2 ⟨rfl, hb2, hB2⟩
  go_wp2
  go_ret
  exact ⟨rfl, by simpa using hb2, hB1.trans hB2⟩
theorem quoteFirst_12 (b : Nat) (l : List UInt8) (s : ByteArray) (hz : 0 < s.size) (h : (s[0]'hz).toNat = 12) (w : World) (hb : Bld b l w) (hl : l.length + 16 ≤ 140737488355328) :
    Calls Tryz.prog 81 #[.pointer (some ⟨b, 0, none⟩), .string s] w fun e w' => e = .returned (.int .i64 1) ∧ Bld b (l ++ [92, 102]) w' ∧ Below b w w' := by
  have z1 : (0 : Int) < (s.size : Int) := by omega
  have HL : Hid (l.length + 16 ≤ 140737488355328) := hl
  clear hl
  have c0 : (⟨#[98, 116, 110, 102, 114]⟩ : ByteArray)[3]'(by decide) = 102 := rfl
  go_enter Tryz.func81, Tryz.ntmps81
  go_wp2_with fail
  refine (control12 _).mono ?_
  rintro e w0 ⟨rfl, rfl⟩
  go_wp2_with fail
  refine (writeByte b l 92 _ hb (by have := HL.out; omega)).mono ?_
  rintro e w1 ⟨rfl, hb1, hB1⟩
  go_wp2_with fail
  refine (writeByte b _ 102 _ hb1 (by have := HL.out; simp; omega)).mono ?_
  rintro e w2 ⟨rfl, hb2, hB2⟩
  go_wp2
  go_ret
  exact ⟨rfl, by simpa using hb2, hB1.trans hB2⟩
theorem quoteFirst_13 (b : Nat) (l : List UInt8) (s : ByteArray) (hz : 0 < s.size) (h : (s[0]'hz).toNat = 13) (w : World) (hb : Bld b l w) (hl : l.length + 16 ≤ 140737488355328) :
    Calls Tryz.prog 81 #[.pointer (some ⟨b, 0, none⟩), .string s] w fun e w' => e = .returned (.int .i64 1) ∧ Bld b (l ++ [92, 114]) w' ∧ Below b w w' := by
  have z1 : (0 : Int) < (s.size : Int) := by omega
  have HL : Hid (l.length + 16 ≤ 140737488355328) := hl
  clear hl
  have c0 : (⟨#[98, 116, 110, 102, 114]⟩ : ByteArray)[4]'(by decide) = 114 := rfl
  go_enter Tryz.func81, Tryz.ntmps81
  go_wp2_with fail
  refine (control13 _).mono ?_
  rintro e w0 ⟨rfl, rfl⟩
  go_wp2_with fail
  refine (writeByte b l 92 _ hb (by have := HL.out; omega)).mono ?_
  rintro e w1 ⟨rfl, hb1, hB1⟩
  go_wp2_with fail
  refine (writeByte b _ 114 _ hb1 (by have := HL.out; simp; omega)).mono ?_
  rintro e w2 ⟨rfl, hb2, hB2⟩
  go_wp2
  go_ret
  exact ⟨rfl, by simpa using hb2, hB1.trans hB2⟩
theorem quoteFirst_34 (b : Nat) (l : List UInt8) (s : ByteArray) (hz : 0 < s.size) (h : (s[0]'hz).toNat = 34) (w : World) (hb : Bld b l w) (hl : l.length + 16 ≤ 140737488355328) :
    Calls Tryz.prog 81 #[.pointer (some ⟨b, 0, none⟩), .string s] w fun e w' => e = .returned (.int .i64 1) ∧ Bld b (l ++ [92, 34]) w' ∧ Below b w w' := by
  have z1 : (0 : Int) < (s.size : Int) := by omega
  have HL : Hid (l.length + 16 ≤ 140737488355328) := hl
  clear hl
  go_enter Tryz.func81, Tryz.ntmps81
  go_wp2_with fail
  refine (writeByte b l 92 _ hb (by have := HL.out; omega)).mono ?_
  rintro e w1 ⟨rfl, hb1, hB1⟩
  go_wp2_with fail
  refine (writeByte b _ 34 _ hb1 (by have := HL.out; simp; omega)).mono ?_
  rintro e w2 ⟨rfl, hb2, hB2⟩
  go_wp2
  go_ret
  exact ⟨rfl, by simpa using hb2, hB1.trans hB2⟩
theorem quoteFirst_92 (b : Nat) (l : List UInt8) (s : ByteArray) (hz : 0 < s.size) (h : (s[0]'hz).toNat = 92) (w : World) (hb : Bld b l w) (hl : l.length + 16 ≤ 140737488355328) :
    Calls Tryz.prog 81 #[.pointer (some ⟨b, 0, none⟩), .string s] w fun e w' => e = .returned (.int .i64 1) ∧ Bld b (l ++ [92, 92]) w' ∧ Below b w w' := by
  have z1 : (0 : Int) < (s.size : Int) := by omega
  have HL : Hid (l.length + 16 ≤ 140737488355328) := hl
  clear hl
  go_enter Tryz.func81, Tryz.ntmps81
  go_wp2_with fail
  refine (writeByte b l 92 _ hb (by have := HL.out; omega)).mono ?_
  rintro e w1 ⟨rfl, hb1, hB1⟩
  go_wp2_with fail
  refine (writeByte b _ 92 _ hb1 (by have := HL.out; simp; omega)).mono ?_
  rintro e w2 ⟨rfl, hb2, hB2⟩
  go_wp2
  go_ret
  exact ⟨rfl, by simpa using hb2, hB1.trans hB2⟩
theorem digs_at : ∀ (i : Fin 16), (⟨#[48, 49, 50, 51, 52, 53, 54, 55, 56, 57, 97, 98, 99, 100, 101, 102]⟩ : ByteArray)[i.val]'(i.isLt) = hexd i.val := by decide +kernel
theorem quoteFirst_low (b : Nat) (l : List UInt8) (s : ByteArray) (hz : 0 < s.size) (c : Int) (hc : (((s[0]'hz).toNat : Nat) : Int) = c) (_k0 : 0 ≤ c) (k1 : c < 32) (f1 : (c == 8) = false) (f2 : (c == 9) = false) (f3 : (c == 10) = false) (f4 : (c == 12) = false) (f5 : (c == 13) = false) (w : World) (hb : Bld b l w) (hl : l.length + 16 ≤ 140737488355328) :
    Calls Tryz.prog 81 #[.pointer (some ⟨b, 0, none⟩), .string s] w fun e w' => e = .returned (.int .i64 1) ∧ Bld b (l ++ [92, 117, 48, 48, hexd (c / 16).toNat, hexd (c % 16).toNat]) w' ∧ Below b w w' := by
  have z1 : (0 : Int) < (s.size : Int) := by omega
  have HL : Hid (l.length + 16 ≤ 140737488355328) := hl
  have f6 : (c == 34) = false := by simp; omega
  have f7 : (c == 92) = false := by simp; omega
  have g1 : 0 ≤ c / 16 := by omega
  have g2 : c / 16 < 16 := by omega
  have g3 : 0 ≤ c % 16 := by omega
  have g4 : c % 16 < 16 := by omega
  clear hl
  go_enter Tryz.func81, Tryz.ntmps81
  go_wp2_with fail
  refine (writeString b l _ [92, 117, 48, 48] rfl _ hb (by have := HL.out; simp; omega)).mono ?_
  rintro e w1 ⟨rfl, hb1, hB1⟩
  go_wp2_with fail
  refine (writeByte b _ _ _ hb1 (by have := HL.out; simp; omega)).mono ?_
  rintro e w2 ⟨rfl, hb2, hB2⟩
  go_wp2_with fail
  refine (writeByte b _ _ _ hb2 (by have := HL.out; simp; omega)).mono ?_
  rintro e w3 ⟨rfl, hb3, hB3⟩
  go_wp2
  go_ret
  refine ⟨rfl, ?_, (hB1.trans hB2).trans hB3⟩
  have e1 := digs_at ⟨(c / 16).toNat, by omega⟩
  have e2 := digs_at ⟨(c % 16).toNat, by omega⟩
  simp only at e1 e2
  rw [e1, e2] at hb3
  simpa using hb3
theorem quoteFirst_broken (b : Nat) (l : List UInt8) (s : ByteArray) (hz : 0 < s.size) (c : Int) (hc : (((s[0]'hz).toNat : Nat) : Int) = c) (k1 : ¬ c < 32) (f6 : (c == 34) = false) (f7 : (c == 92) = false) (hbk : brk s.data.toList) (w : World) (hT : TTabs w) (hb : Bld b l w) (hl : l.length + 16 ≤ 140737488355328) :
    Calls Tryz.prog 81 #[.pointer (some ⟨b, 0, none⟩), .string s] w fun e w' => e = .returned (.int .i64 1) ∧ Bld b (l ++ [92, 117, 102, 102, 102, 100]) w' ∧ Below b w w' := by
  have z1 : (0 : Int) < (s.size : Int) := by omega
  have HL : Hid (l.length + 16 ≤ 140737488355328) := hl
  have f1 : (c == 8) = false := by simp; omega
  have f2 : (c == 9) = false := by simp; omega
  have f3 : (c == 10) = false := by simp; omega
  have f4 : (c == 12) = false := by simp; omega
  have f5 : (c == 13) = false := by simp; omega
  have hne : s.data.toList ≠ [] := by
    intro h
    have := size_list h
    rw [List.length_nil] at this
    omega
  have hD := decode_any s hne w hT
  have hB := broken_dec s.data.toList
  rw [decide_eq_true hbk] at hB
  generalize hr : ((Lib.decodeL s.data.toList).1 : Int) = r at *
  generalize hn : ((Lib.decodeL s.data.toList).2 : Int) = n at *
  clear hr hn hl hbk
  go_enter Tryz.func81, Tryz.ntmps81
  go_wp2_with fail
  refine hD.mono ?_
  rintro e w1 ⟨rfl, hb1⟩
  go_wp2_with fail
  refine (hB _).mono ?_
  rintro e w' ⟨rfl, rfl⟩
  go_wp2_with fail
  refine (writeString b l _ [92, 117, 102, 102, 102, 100] rfl _ (hb.below hb1) (by have := HL.out; simp; omega)).mono ?_
  rintro e w2 ⟨rfl, hb2, hB2⟩
  go_wp2
  go_ret
  exact ⟨rfl, hb2, (hb1.mono (Nat.le_of_lt hb.lt)).trans hB2⟩
theorem quoteFirst_plain (b : Nat) (l : List UInt8) (s : ByteArray) (hz : 0 < s.size) (c : Int) (hc : (((s[0]'hz).toNat : Nat) : Int) = c) (k1 : ¬ c < 32) (f6 : (c == 34) = false) (f7 : (c == 92) = false) (hbk : ¬ brk s.data.toList) (w : World) (hT : TTabs w) (hb : Bld b l w) (hl : l.length + 16 ≤ 140737488355328) :
    Calls Tryz.prog 81 #[.pointer (some ⟨b, 0, none⟩), .string s] w fun e w' => e = .returned (.int .i64 ((Lib.decodeL s.data.toList).2 : Int)) ∧ Bld b (l ++ s.data.toList.take (Lib.decodeL s.data.toList).2) w' ∧ Below b w w' := by
  have z1 : (0 : Int) < (s.size : Int) := by omega
  have HL : Hid (l.length + 16 ≤ 140737488355328) := hl
  have f1 : (c == 8) = false := by simp; omega
  have f2 : (c == 9) = false := by simp; omega
  have f3 : (c == 10) = false := by simp; omega
  have f4 : (c == 12) = false := by simp; omega
  have f5 : (c == 13) = false := by simp; omega
  have hne : s.data.toList ≠ [] := by
    intro h
    have := size_list h
    rw [List.length_nil] at this
    omega
  have hD := decode_any s hne w hT
  have hB := broken_dec s.data.toList
  rw [decide_eq_false hbk] at hB
  have hle := Lib.decodeL_le s.data.toList hne
  rw [← size_list rfl] at hle
  have h4 : (Lib.decodeL s.data.toList).2 ≤ 4 := by
    rcases shapes _ hne with ⟨a, t', e', ha, ed⟩ | ⟨a, b', t', e', c1, c3, cv, ed⟩ | ⟨a, b', c, t', e', c1, c3, c4, cv, cs, ed⟩ | ⟨a, b', c, d, t', e', c1, c3, c4, c5, cv, cw, ed⟩ | ⟨h, ed, _⟩
    all_goals (rw [ed]; exact Nat.le_of_ble_eq_true rfl)
  generalize hr : ((Lib.decodeL s.data.toList).1 : Int) = r at *
  generalize hn : (Lib.decodeL s.data.toList).2 = n at *
  have zn : (n : Int) ≤ (s.size : Int) := by omega
  have ht : (s.extract 0 n).data.toList = s.data.toList.take n := by
    rw [ByteArray.data_extract, Array.toList_extract, List.extract_eq_take_drop]; simp
  clear hr hn hl hbk
  go_enter Tryz.func81, Tryz.ntmps81
  go_wp2_with fail
  refine hD.mono ?_
  rintro e w1 ⟨rfl, hb1⟩
  go_wp2_with fail
  refine (hB _).mono ?_
  rintro e w' ⟨rfl, rfl⟩
  go_wp2_with fail
  refine (writeString b l _ (s.data.toList.take n) ht _ (hb.below hb1) (by have := HL.out; rw [List.length_take]; omega)).mono ?_
  rintro e w2 ⟨rfl, hb2, hB2⟩
  go_wp2
  go_ret
  exact ⟨rfl, hb2, (hb1.mono (Nat.le_of_lt hb.lt)).trans hB2⟩

theorem dec_high (b : UInt8) (t : List UInt8) (h : 128 ≤ b.toNat) : 128 ≤ (Lib.decodeL (b :: t)).1 := by
  rcases shapes (b :: t) (by simp) with ⟨a, t', e', ha, ed⟩ | ⟨a, b', t', e', c1, c3, cv, ed⟩ | ⟨a, b', c, t', e', c1, c3, c4, cv, cs, ed⟩ | ⟨a, b', c, d, t', e', c1, c3, c4, c5, cv, cw, ed⟩ | ⟨_, ed, _⟩
  · cases e'; omega
  · rw [ed]; simp only; omega
  · rw [ed]; simp only; omega
  · rw [ed]; simp only; omega
  · rw [ed]; decide

theorem quoteFirst_any (b : Nat) (l : List UInt8) (s : ByteArray) (hne : s.data.toList ≠ []) (w : World) (hT : TTabs w) (hb : Bld b l w) (hl : l.length + 16 ≤ 140737488355328) :
    Calls Tryz.prog 81 #[.pointer (some ⟨b, 0, none⟩), .string s] w fun e w' => e = .returned (.int .i64 ((Lib.decodeL s.data.toList).2 : Int)) ∧ Bld b (l ++ esc s.data.toList) w' ∧ Below b w w' := by
  obtain ⟨x, t, e⟩ : ∃ x t, s.data.toList = x :: t := by
    cases h : s.data.toList with
    | nil => exact absurd h hne
    | cons x t => exact ⟨x, t, rfl⟩
  have hz : 0 < s.size := by rw [size_list e]; simp
  have i0 := byte_at e 0 hz x rfl
  have en : (((s[0]'hz).toNat : Nat) : Int) = (x.toNat : Int) := by rw [i0]
  by_cases ha : x.toNat < 128
  · have ed : Lib.decodeL s.data.toList = (x.toNat, 1) := by rw [e]; exact decE x t ha
    have nb : ¬ brk s.data.toList := by rw [e]; exact nbrk_ascii x t ha
    have e2 : ((Lib.decodeL s.data.toList).2 : Int) = 1 := by rw [ed]; rfl
    unfold esc
    rw [if_neg nb]
    by_cases h8 : x.toNat = 8
    · rw [if_pos (by rw [ed]; exact h8), e2]; exact quoteFirst_8 b l s hz (by rw [i0]; exact h8) w hb hl
    · rw [if_neg (by rw [ed]; exact h8)]
      by_cases h9 : x.toNat = 9
      · rw [if_pos (by rw [ed]; exact h9), e2]; exact quoteFirst_9 b l s hz (by rw [i0]; exact h9) w hb hl
      · rw [if_neg (by rw [ed]; exact h9)]
        by_cases h10 : x.toNat = 10
        · rw [if_pos (by rw [ed]; exact h10), e2]; exact quoteFirst_10 b l s hz (by rw [i0]; exact h10) w hb hl
        · rw [if_neg (by rw [ed]; exact h10)]
          by_cases h12 : x.toNat = 12
          · rw [if_pos (by rw [ed]; exact h12), e2]; exact quoteFirst_12 b l s hz (by rw [i0]; exact h12) w hb hl
          · rw [if_neg (by rw [ed]; exact h12)]
            by_cases h13 : x.toNat = 13
            · rw [if_pos (by rw [ed]; exact h13), e2]; exact quoteFirst_13 b l s hz (by rw [i0]; exact h13) w hb hl
            · rw [if_neg (by rw [ed]; exact h13)]
              by_cases h32 : x.toNat < 32
              · rw [if_pos (by rw [ed]; exact h32), e2, ed]
                have := quoteFirst_low b l s hz _ en (by omega) (by omega) (by simp; omega) (by simp; omega) (by simp; omega) (by simp; omega) (by simp; omega) w hb hl
                have q1 : ((x.toNat : Int) / 16).toNat = x.toNat / 16 := by omega
                have q2 : ((x.toNat : Int) % 16).toNat = x.toNat % 16 := by omega
                rw [q1, q2] at this
                exact this
              · rw [if_neg (by rw [ed]; exact h32)]
                by_cases hq : x.toNat = 34 ∨ x.toNat = 92
                · rw [if_pos (by rw [ed]; exact hq), e2, ed]
                  rcases hq with hq | hq
                  · simp only [hq]; exact quoteFirst_34 b l s hz (by rw [i0]; exact hq) w hb hl
                  · simp only [hq]; exact quoteFirst_92 b l s hz (by rw [i0]; exact hq) w hb hl
                · rw [if_neg (by rw [ed]; exact hq)]
                  exact quoteFirst_plain b l s hz _ en (by omega) (by simp; omega) (by simp; omega) nb w hT hb hl
  · have hh : 128 ≤ (Lib.decodeL s.data.toList).1 := by rw [e]; exact dec_high x t (by omega)
    unfold esc
    by_cases nb : brk s.data.toList
    · rw [if_pos nb, nb.2]
      exact quoteFirst_broken b l s hz _ en (by omega) (by simp; omega) (by simp; omega) nb w hT hb hl
    · rw [if_neg nb, if_neg (by omega), if_neg (by omega), if_neg (by omega), if_neg (by omega), if_neg (by omega), if_neg (by omega), if_neg (by omega)]
      exact quoteFirst_plain b l s hz _ en (by omega) (by simp; omega) (by simp; omega) nb w hT hb hl

theorem esc_length (l : List UInt8) (_hne : l ≠ []) : (esc l).length ≤ 6 * (Lib.decodeL l).2 := by
  have hw := Lib.decodeL_width l
  rcases esc_forms l with ⟨hb, e⟩ | ⟨x, e, _, _, h⟩ | ⟨h, e⟩ | ⟨hb, h32, _, h92, e⟩
  · rw [e]; simp; omega
  · rw [e]; simp; omega
  · rw [e]; simp; omega
  · rw [e, List.length_take]; omega
theorem quo_length : ∀ (n : Nat) (l : List UInt8), l.length ≤ n → (quo l).length ≤ 6 * l.length
  | n, l, hn => by
    by_cases hne : l = []
    · subst hne; simp [quo_nil]
    · have hlt := drop_lt l hne
      obtain ⟨m, rfl⟩ : ∃ m, n = m + 1 := ⟨n - 1, by omega⟩
      have h1 := quo_length m (l.drop (Lib.decodeL l).2) (by omega)
      have h2 := esc_length l hne
      have h3 := Lib.decodeL_le l hne
      rw [List.length_drop] at h1
      rw [quo_step l hne, List.length_append]
      omega

set_option maxHeartbeats 1000000 in
theorem Quote_any (s : ByteArray) (hs0 : s.size ≤ 1099511627776) (w : World) (hT : TTabs w) :
    Calls Tryz.prog 56 #[.string s] w fun e w' => e = .returned (.string ⟨(quoteL s.data.toList).toArray⟩) ∧ Below w.heap.size w w' := by
  have hq := quo_length _ s.data.toList (Nat.le_refl _)
  rw [← size_list rfl] at hq
  have HS : Hid ((quo s.data.toList).length + 100 ≤ 140737488355328) := by show _ ≤ _; omega
  clear hq hs0
  have hB0 : Below w.heap.size w (w.alloc (.cells #[.pointer none, .slice none 0 0] 66)) := (Below.refl _ _).alloc (Nat.le_refl _) _
  have hN := Bld.new w
  go_enter Tryz.func56, Tryz.ntmps56
  go_wp2_with fail
  refine (writeByte _ [] 34 _ hN (by simp)).mono ?_
  rintro e w1 ⟨rfl, hb1, hB1⟩
  have hB1' := hB0.trans hB1
  go_wp2_with fail
  go_loopw [0] (fun sv wr => ∃ (t : ByteArray) (o : List UInt8), sv = .string t ∧ Below w.heap.size w wr ∧ Bld w.heap.size o wr ∧ o ++ quo t.data.toList = 34 :: quo s.data.toList) (fun sv _ => match sv with | .string t => t.size | _ => 0)
  case atStart => exact ⟨s, [34], rfl, hB1', hb1, rfl⟩
  case round =>
    obtain ⟨t, o, rfl, hB, hbu, heq⟩ := hrel
    have HX : Hid (o ++ quo t.data.toList = 34 :: quo s.data.toList) := heq
    have hol : o.length + 50 ≤ 140737488355328 := by
      have := congrArg List.length heq
      have h2 := HS.out
      simp at this
      omega
    have HO : Hid (o.length + 50 ≤ 140737488355328) := hol
    clear heq hol
    by_cases hz : t.size = 0
    · have el : t.data.toList = [] := List.eq_nil_of_length_eq_zero (by rw [← size_list rfl]; exact hz)
      have HE : Hid (t.data.toList = []) := el
      have zi : ¬ (0 : Int) < (t.size : Int) := by omega
      clear el hz
      go_wp2_with fail
      refine (writeByte _ o 34 _ hbu (by have := HO.out; omega)).mono ?_
      rintro e w2 ⟨rfl, hb2, hB2⟩
      go_wp2_with fail
      refine (stringOf _ _ _ hb2).mono ?_
      rintro e w3 ⟨rfl, hB3⟩
      go_wp2
      go_ret
      refine ⟨?_, (hB.trans hB2).trans hB3⟩
      have := HX.out
      rw [HE.out, quo_nil, List.append_nil] at this
      rw [this]
      rfl
    · have hne : t.data.toList ≠ [] := by
        intro h
        exact hz (by rw [size_list h]; rfl)
      have zi : (0 : Int) < (t.size : Int) := by omega
      have hle := Lib.decodeL_le t.data.toList hne
      rw [← size_list rfl] at hle
      have hw := Lib.decodeL_width t.data.toList
      have zn : ((Lib.decodeL t.data.toList).2 : Int) ≤ (t.size : Int) := by omega
      have hX2 : (o ++ esc t.data.toList) ++ quo (t.data.toList.drop (Lib.decodeL t.data.toList).2) = 34 :: quo s.data.toList := by
        rw [List.append_assoc, ← quo_step _ hne]; exact HX.out
      have HX2 : Hid ((o ++ esc t.data.toList) ++ quo (t.data.toList.drop (Lib.decodeL t.data.toList).2) = 34 :: quo s.data.toList) := hX2
      have hq := quoteFirst_any w.heap.size o t hne wr (hT.below hB) hbu (by have := HO.out; omega)
      generalize esc t.data.toList = ex at *
      have hdl := drop_list (s := t) rfl (Lib.decodeL t.data.toList).2
      generalize hn : (Lib.decodeL t.data.toList).2 = n at *
      have HW : Hid (1 ≤ n ∧ n ≤ t.size) := ⟨hw, hle⟩
      have HDL : Hid ((t.extract n t.size).data.toList = t.data.toList.drop n) := hdl
      clear hn hw hle hX2 hdl hz
      go_wp2_with fail
      refine hq.mono ?_
      rintro e w2 ⟨rfl, hb2, hB2⟩
      go_wp2
      go_roundw
      case rel => exact ⟨_, o ++ ex, rfl, hB.trans hB2, hb2, by rw [HDL.out]; exact HX2.out⟩
      case measure => have := HW.out; simp; omega
end Go.Proofs.YtdcaohnaiepllaaGreatDoor
