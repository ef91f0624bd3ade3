/-
  The law's Mend by its contract: a text is mended to itself just if it is UTF-8. Condition: the text has at most 10000 bytes.
-/
import Derived.Test.YtgcccihnlecpnaaDoorTPure2
import Derived.Test.YtgcccihnlecpnaaDoorPEnv
import Derived.Laws.Cover4
import Derived.Lib.OthersKept
namespace Go.Proofs.YtgcccihnlecpnaaDoor
open Go.RowKit Go.Extern.Stop Go.Stop Go.Extern

theorem size_list {s : ByteArray} {l : List UInt8} (h : s.data.toList = l) : s.size = l.length := by
  rw [← h]; rfl
theorem enc_length (r : Nat) : (Lib.encodeRune (r : Int)).length ≤ 4 ∧ (r < 65536 → (Lib.encodeRune (r : Int)).length ≤ 3) ∧ (r < 128 → (Lib.encodeRune (r : Int)).length ≤ 1) := by
  have e : (Lib.encodeRune (r : Int)).length = (Lib.encodeRuneZ (r : Int)).length := by simp [Lib.encodeRune]
  rw [e]
  refine ⟨(Lib.encodeRuneZ_length _).2, fun h => ?_, fun h => ?_⟩
  · by_cases h1 : r ≤ 127
    · rw [Lib.encodeRuneZ_one (by omega) (by omega)]; simp
    · by_cases h2 : r ≤ 2047
      · rw [Lib.encodeRuneZ_two (by omega) (by omega)]; simp
      · by_cases h3 : 55296 ≤ r ∧ r ≤ 57343
        · rw [Lib.encodeRuneZ_bad (by omega)]; simp
        · rw [Lib.encodeRuneZ_three (by omega)]; simp
  · rw [Lib.encodeRuneZ_one (by omega) (by omega)]; simp
/-- the bytes of one character. -/
def enc1 (c : Nat) : ByteArray := ⟨(Lib.encodeRune (c : Int)).toArray⟩
theorem encode_enc1 (c : Nat) : Utf8.encode (c : Int) = enc1 c := by
  apply ByteArray.ext
  show (Utf8.encode (c : Int)).data = (Lib.encodeRune (c : Int)).toArray
  apply Array.ext'
  unfold Lib.encodeRune
  by_cases hb : (55296 ≤ c ∧ c ≤ 57343) ∨ 1114111 < c
  · rw [Lib.encodeRuneZ_bad (by omega)]
    have v : Utf8.valid (c : Int) = false := by simp [Utf8.valid]; omega
    simp [Utf8.encode, v, Utf8.runeError]
  · have v : Utf8.valid (c : Int) = true := by simp [Utf8.valid]; omega
    by_cases c1 : c < 128
    · rw [Lib.encodeRuneZ_one (by omega) (by omega)]
      simp [Utf8.encode, v, c1]
    · by_cases c2 : c < 2048
      · rw [Lib.encodeRuneZ_two (by omega) (by omega)]
        have q1 : (192 + (c : Int) / 64).toNat = 192 + c / 64 := by omega
        have q2 : (128 + (c : Int) % 64).toNat = 128 + c % 64 := by omega
        simp [Utf8.encode, v, c1, c2, q1, q2]
      · by_cases c3 : c < 65536
        · rw [Lib.encodeRuneZ_three (by omega)]
          have q1 : (224 + (c : Int) / 4096).toNat = 224 + c / 4096 := by omega
          have q2 : (128 + (c : Int) / 64 % 64).toNat = 128 + c / 64 % 64 := by omega
          have q3 : (128 + (c : Int) % 64).toNat = 128 + c % 64 := by omega
          simp [Utf8.encode, v, c1, c2, c3, q1, q2, q3]
        · rw [Lib.encodeRuneZ_four (by omega) (by omega)]
          have q0 : (240 + (c : Int) / 262144).toNat = 240 + c / 262144 := by omega
          have q1 : (128 + (c : Int) / 4096 % 64).toNat = 128 + c / 4096 % 64 := by omega
          have q2 : (128 + (c : Int) / 64 % 64).toNat = 128 + c / 64 % 64 := by omega
          have q3 : (128 + (c : Int) % 64).toNat = 128 + c % 64 := by omega
          simp [Utf8.encode, v, c1, c2, c3, q0, q1, q2, q3]
theorem conv_rune (W : World) (c : Nat) : (convert 45 9 (.slice (some ⟨W.heap.size, 0, none⟩) 1 1)).run Tryd.prog (W.alloc (.cells #[.int .i32 (c : Int)] 21)) = .ok (.string (enc1 c)) (W.alloc (.cells #[.int .i32 (c : Int)] 21)) := by
  rw [run_convert_runes (P := Tryd.prog) _ 45 9 21 ⟨W.heap.size, 0, none⟩ 1 1 [(c : Int)] (by simp) Tryd.underlying45 Tryd.underlying21 Tryd.underlying9 (fun j hj => by
    match j, hj with
    | 0, _ => simp [Addr.add])]
  simp [runesBytes, encode_enc1]
theorem enc1_list (c : Nat) : (enc1 c).data.toList = Lib.encodeRune (c : Int) := rfl
theorem enc1_size (c : Nat) : (enc1 c).size ≤ 4 := by
  have := (enc_length c).1
  rw [size_list (enc1_list c)]
  exact this

theorem append_list (a b : ByteArray) : (a ++ b).data.toList = a.data.toList ++ b.data.toList := by
  rw [ByteArray.data_append]; simp

theorem mend_length : ∀ (n : Nat) (l : List UInt8), l.length ≤ n → (mend l).length ≤ 4 * l.length
  | n, l, hn => by
    by_cases hne : l = []
    · subst hne; simp [mend_nil]
    · have hlt := drop_lt l hne
      obtain ⟨m, rfl⟩ : ∃ m, n = m + 1 := ⟨n - 1, by omega⟩
      have h1 := mend_length m (l.drop (Lib.decodeL l).2) (by omega)
      have h2 := (enc_length (Lib.decodeL l).1).1
      rw [mend_step l hne, List.length_append]
      omega

theorem lt_of_heapT {W : World} {k : Nat} {o : Obj} (h : W.heap[k]? = some o) : k < W.heap.size := (Array.getElem?_eq_some_iff.1 h).1

set_option maxHeartbeats 1000000 in
theorem Mend_any (s : ByteArray) (hs0 : s.size ≤ 10000) (w : World) :
    Calls Tryd.prog 7 #[.string s] w fun e w' => e = .returned (.string ⟨(mend s.data.toList).toArray⟩) ∧ Below w.heap.size w w' := by
  have HS : Hid (s.size ≤ 10000) := hs0
  have hml := mend_length _ s.data.toList (Nat.le_refl _)
  rw [← size_list rfl] at hml
  have HM : Hid ((mend s.data.toList).length ≤ 40000) := by show _ ≤ _; omega
  clear hs0 hml
  go_enter Tryd.func7, Tryd.ntmps7
  go_wp2
  go_loopw [3] (fun ov wr => ∃ (pos : Nat) (o : ByteArray), ov = .string o ∧ pos ≤ s.size ∧ o.data.toList ++ mend (s.data.toList.drop pos) = mend s.data.toList ∧ wr.heap[w.heap.size]? = some (.stringIter s pos) ∧ Below w.heap.size w wr) (fun _ wr => s.size - wr.iterPos w.heap.size)
  case atStart => exact ⟨0, _, rfl, Nat.zero_le _, rfl, World.iter_heap w s 0, (Below.refl _ _).alloc (Nat.le_refl _) _⟩
  case round =>
    obtain ⟨pos, o, rfl, hp, heq, hit, hB⟩ := hrel
    have HE : Hid (o.data.toList ++ mend (s.data.toList.drop pos) = mend s.data.toList) := heq
    have ho : o.size ≤ 40000 := by
      have := congrArg List.length heq
      have h2 := HM.out
      rw [size_list (rfl : o.data.toList = _)]
      simp at this ⊢
      omega
    have hip : wr.iterPos w.heap.size = pos := by simp [World.iterPos, hit]
    have HIP : Hid (wr.iterPos w.heap.size = pos) := hip
    have HP : Hid (pos ≤ s.size) := hp
    clear heq hip hp
    by_cases hlt : pos < s.size
    · have hne : s.data.toList.drop pos ≠ [] := by
        intro h
        have := congrArg List.length h
        rw [List.length_drop, ← size_list rfl] at this
        simp at this
        omega
      have hd : Utf8.decode s pos = Lib.decodeL (s.data.toList.drop pos) := (Lib.decodeL_drop s pos).symm
      have hle := Lib.decodeL_le _ hne
      have hw := Lib.decodeL_width (s.data.toList.drop pos)
      rw [List.length_drop, ← size_list rfl] at hle
      have hst := mend_step _ hne
      rw [List.drop_drop] at hst
      have hnx : ∀ ty, (Instr.next (.pointer (some ⟨w.heap.size, 0, none⟩)) true ty).run Tryd.prog wr = _ := fun ty => Lib.run_next_any_at wr w.heap.size s pos ty hit hlt
      rw [hd] at hnx
      generalize (Lib.decodeL (s.data.toList.drop pos)).1 = c at *
      generalize (Lib.decodeL (s.data.toList.drop pos)).2 = n at *
      have hit2 := Lib.iterAt_heap wr w.heap.size s pos (pos + n) hit
      have hB2 := Lib.below_iterAt hB (Nat.le_refl _) s (pos + n)
      generalize wr.iterAt w.heap.size s (pos + n) = W1 at *
      have hcv := conv_rune W1 c
      have hes := enc1_size c
      have H1 : Hid (1 ≤ n ∧ n ≤ s.size - pos) := ⟨hw, hle⟩
      have H2 : Hid (mend (s.data.toList.drop pos) = Lib.encodeRune (c : Int) ++ mend (s.data.toList.drop (pos + n))) := hst
      have H3 : Hid (W1.heap[w.heap.size]? = some (.stringIter s (pos + n))) := hit2
      have HLT : Hid (pos < s.size) := hlt
      clear hw hle hst hd hit2 hit hlt
      go_wp2
      go_roundw
      case rel =>
        refine ⟨pos + n, _, rfl, by have := H1.out; have := HLT.out; omega, ?_, ?_, hB2.alloc hB2.size _⟩
        · rw [append_list, enc1_list, List.append_assoc, ← H2.out]; exact HE.out
        · have hh := H3.out
          show (W1.heap.push _)[w.heap.size]? = _
          have hx := lt_of_heapT hh
          rw [Array.getElem?_push, if_neg (by omega)]
          exact hh
      case measure =>
        have := H1.out
        have hh := H3.out
        have hx := lt_of_heapT hh
        have e2 : (W1.alloc (.cells #[.int .i32 (c : Int)] 21)).iterPos w.heap.size = pos + n := by
          unfold World.iterPos
          show (match (W1.heap.push _)[w.heap.size]? with | some (.stringIter _ p) => p | _ => 0) = _
          rw [Array.getElem?_push, if_neg (by omega), hh]
        rw [e2, HIP.out]
        have := HLT.out
        omega
    · have hnx : ∀ ty, (Instr.next (.pointer (some ⟨w.heap.size, 0, none⟩)) true ty).run Tryd.prog wr = _ := fun ty => Lib.run_next_end_at wr w.heap.size s pos ty hit hlt
      clear hit
      go_wp2
      go_ret
      refine ⟨?_, hB⟩
      have := HE.out
      rw [List.drop_of_length_le (by rw [← size_list rfl]; omega), mend_nil, List.append_nil] at this
      rw [← this]
      rfl
end Go.Proofs.YtgcccihnlecpnaaDoor
