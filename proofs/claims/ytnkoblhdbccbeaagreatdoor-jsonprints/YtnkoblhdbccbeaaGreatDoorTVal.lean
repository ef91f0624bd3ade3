/-
  The program's Valid, and the law's First and Mend, by their contracts. Conditions: as each states.
-/
import Derived.Test.YtnkoblhdbccbeaaGreatDoorU7
import Derived.Test.YtnkoblhdbccbeaaGreatDoorU11
import Derived.Shelf.Unicode.ValidAny
import Derived.Laws.Cover4
import Derived.Lib.OthersKept
namespace Go.Proofs
open Go.Shelf
end Go.Proofs
namespace Go.Proofs.YtnkoblhdbccbeaaGreatDoor
open Go.RowKit Go.Extern.Stop Go.Stop Go.Extern

/-- the bytes of one character. -/
def enc1 (c : Nat) : ByteArray := ⟨(Lib.encodeRune (c : Int)).toArray⟩
theorem encode_enc1 (c : Nat) : Utf8.encode (c : Int) = enc1 c := by
  apply ByteArray.ext
  show (Utf8.encode (c : Int)).data = (Lib.encodeRune (c : Int)).toArray
  apply Array.ext'
  unfold Lib.encodeRune
  by_cases hb : (55296 ≤ c ∧ c ≤ 57343) ∨ 1114111 < c
  · rw [Lib.encodeRuneZ_bad (by omega)]
    have v : Utf8.valid (c : Int) = false := by simp [Utf8.valid]; omega
    simp [Utf8.encode, v, Utf8.runeError]
  · have v : Utf8.valid (c : Int) = true := by simp [Utf8.valid]; omega
    by_cases c1 : c < 128
    · rw [Lib.encodeRuneZ_one (by omega) (by omega)]
      simp [Utf8.encode, v, c1]
    · by_cases c2 : c < 2048
      · rw [Lib.encodeRuneZ_two (by omega) (by omega)]
        have q1 : (192 + (c : Int) / 64).toNat = 192 + c / 64 := by omega
        have q2 : (128 + (c : Int) % 64).toNat = 128 + c % 64 := by omega
        simp [Utf8.encode, v, c1, c2, q1, q2]
      · by_cases c3 : c < 65536
        · rw [Lib.encodeRuneZ_three (by omega)]
          have q1 : (224 + (c : Int) / 4096).toNat = 224 + c / 4096 := by omega
          have q2 : (128 + (c : Int) / 64 % 64).toNat = 128 + c / 64 % 64 := by omega
          have q3 : (128 + (c : Int) % 64).toNat = 128 + c % 64 := by omega
          simp [Utf8.encode, v, c1, c2, c3, q1, q2, q3]
        · rw [Lib.encodeRuneZ_four (by omega) (by omega)]
          have q0 : (240 + (c : Int) / 262144).toNat = 240 + c / 262144 := by omega
          have q1 : (128 + (c : Int) / 4096 % 64).toNat = 128 + c / 4096 % 64 := by omega
          have q2 : (128 + (c : Int) / 64 % 64).toNat = 128 + c / 64 % 64 := by omega
          have q3 : (128 + (c : Int) % 64).toNat = 128 + c % 64 := by omega
          simp [Utf8.encode, v, c1, c2, c3, q0, q1, q2, q3]
theorem conv_rune (W : World) (c : Nat) : (convert 135 9 (.slice (some ⟨W.heap.size, 0, none⟩) 1 1)).run Tryz.prog (W.alloc (.cells #[.int .i32 (c : Int)] 21)) = .ok (.string (enc1 c)) (W.alloc (.cells #[.int .i32 (c : Int)] 21)) := by
  rw [run_convert_runes (P := Tryz.prog) _ 135 9 21 ⟨W.heap.size, 0, none⟩ 1 1 [(c : Int)] (by simp) Tryz.underlying135 Tryz.underlying21 Tryz.underlying9 (fun j hj => by
    match j, hj with
    | 0, _ => simp [Addr.add])]
  simp [runesBytes, encode_enc1]
theorem enc1_list (c : Nat) : (enc1 c).data.toList = Lib.encodeRune (c : Int) := rfl
theorem enc1_size (c : Nat) : (enc1 c).size ≤ 4 := by
  have := (enc_length c).1
  rw [size_list (enc1_list c)]
  exact this

theorem append_list (a b : ByteArray) : (a ++ b).data.toList = a.data.toList ++ b.data.toList := by
  rw [ByteArray.data_append]; simp

set_option maxHeartbeats 1000000 in
theorem First_any (s : ByteArray) (hne0 : s.data.toList ≠ []) (_hs : (s.size : Int) ≤ 140737488355328) (w : World) :
    Calls Tryz.prog 40 #[.string s] w fun e w' => e = .returned (.tuple #[.int .i32 ((Lib.decodeL s.data.toList).1 : Int), .int .i64 ((Lib.decodeL s.data.toList).2 : Int)]) ∧ Below w.heap.size w w' := by
  have hz : 0 < s.size := by
    rcases Nat.eq_zero_or_pos s.size with h | h
    · exact absurd (List.eq_nil_of_length_eq_zero (by rw [← size_list rfl]; exact h)) hne0
    · exact h
  have hd : Utf8.decode s 0 = Lib.decodeL s.data.toList := (Lib.decodeL_drop s 0).symm
  have hle := Lib.decodeL_le s.data.toList hne0
  have hw := Lib.decodeL_width s.data.toList
  rw [← size_list rfl] at hle
  have hn0 : ∀ ty, (Instr.next (.pointer (some ⟨w.heap.size, 0, none⟩)) true ty).run Tryz.prog (w.iter s 0) = _ := fun ty => run_next_any w s 0 ty hz
  rw [hd] at hn0
  generalize hc : (Lib.decodeL s.data.toList).1 = c at *
  generalize hn : (Lib.decodeL s.data.toList).2 = n at *
  rw [Nat.zero_add] at hn0
  have hB : ∀ p, Below w.heap.size w (w.iter s p) := fun p => (Below.refl _ _).alloc (Nat.le_refl _) _
  clear hd hc hn
  by_cases hlt : n < s.size
  · have hn1 : ∀ ty, (Instr.next (.pointer (some ⟨w.heap.size, 0, none⟩)) true ty).run Tryz.prog (w.iter s n) = _ := fun ty => run_next_any w s n ty hlt
    have zn : (0 : Int) < (n : Int) := by omega
    clear hle hlt
    generalize Utf8.decode s n = d at *
    go_enter Tryz.func40, Tryz.ntmps40
    go_wp2
    refine wp_loop_rounds 2 ?_
    rw [rounds_succ]
    go_wp2
    rw [rounds_succ]
    go_wp2
    go_ret2
    exact ⟨rfl, hB _⟩
  · obtain rfl : n = s.size := by omega
    have hn1 : ∀ ty, (Instr.next (.pointer (some ⟨w.heap.size, 0, none⟩)) true ty).run Tryz.prog (w.iter s s.size) = _ := fun ty => run_next_end w s s.size ty (by omega)
    go_enter Tryz.func40, Tryz.ntmps40
    go_wp2
    refine wp_loop_rounds 2 ?_
    rw [rounds_succ]
    go_wp2
    rw [rounds_succ]
    go_wp2
    go_ret2
    exact ⟨rfl, hB _⟩
end Go.Proofs.YtnkoblhdbccbeaaGreatDoor
