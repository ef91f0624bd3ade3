/-
  The law's Bend and Read by their contracts. Condition: the text has at most 10000 bytes.
-/
import Derived.Test.YtdcaohnaiepllaaGreatDoorTChar
import Derived.Lib.ConvBytes
namespace Go.Proofs.YtdcaohnaiepllaaGreatDoor
open Go.RowKit Go.Extern.Stop Go.Stop Go.Extern

theorem conv_bytes (w : World) (s : ByteArray) : ∃ (W : World) (C : Nat), (convert 9 22 (.string s)).run Tryz.prog w = .ok (.slice (some ⟨w.heap.size, 0, none⟩) s.size C) W ∧ Below w.heap.size w W ∧ (∀ j, j < s.size → W.cell? ⟨w.heap.size, j, none⟩ = some (.int .u8 ((s.data.toList.getD j 0).toNat : Int))) ∧ (∀ j, j < s.size → W.frozen? ⟨w.heap.size, j, none⟩ = false) := by
  have hcell := fun j hj => Lib.bytesWorld_cell w 5 s j hj
  have hrun := Lib.run_convert_string_bytes (P := Tryz.prog) w 9 22 5 s Tryz.underlying9 Tryz.underlying22 Tryz.underlying5
  have hnew := Lib.bytesWorld_at_new w 5 s
  refine ⟨_, _, hrun, ?_, hcell, fun j hj => ?_⟩
  · have hr2 := run_bytes_of_string (P := Tryz.prog) w 9 22 5 s Tryz.underlying9 Tryz.underlying22 Tryz.underlying5
    rw [hrun] at hr2
    have e := (Result.ok.inj hr2).2
    rw [e]
    exact ((Below.refl w.heap.size w).drew).alloc (Nat.le_refl _) _
  · have hsz : s.size ≤ (Lib.bytesCells w 5 s).size := by
      simp [Lib.bytesCells]
    unfold World.frozen?
    simp only [hnew]
    simp
    omega

set_option maxHeartbeats 1000000 in
set_option maxRecDepth 100000 in
theorem Bend_some (s : ByteArray) (hs : (s.size : Int) ≤ 10000) (hz : 0 < s.size) (a b : Int) (a0 : 0 ≤ a) (a1 : a < 65536) (w : World) : Calls Tryz.prog 9 #[.string s, .int .u16 a, .int .u8 b] w fun e w' => (∃ t : ByteArray, e = .returned (.string t) ∧ t.size = s.size) ∧ Below w.heap.size w w' := by
  have hne : s.toList.isEmpty = false := by
    rw [Lib.toList_data]
    cases h : s.data.toList with
    | nil => have := size_list h; rw [List.length_nil] at this; omega
    | cons _ _ => rfl
  obtain ⟨W, C, hcv, hB, hcell, hfr⟩ := conv_bytes w s
  have z0 : ¬ (s.size : Int) = 0 := by omega
  obtain ⟨i, hi⟩ : ∃ i : Nat, a % (s.size : Int) = i := ⟨(a % (s.size : Int)).toNat, by have := Int.emod_nonneg a z0; omega⟩
  have hlt : i < s.size := by have := Int.emod_lt_of_pos a (show (0 : Int) < s.size by omega); omega
  have hci := hcell i hlt
  have hfi := hfr i hlt
  have zi : (i : Int) < (s.size : Int) := by omega
  obtain ⟨y, hy⟩ : ∃ y : UInt8, bits .xor .u8 ((s.data.toList.getD i 0).toNat : Int) b = (y.toNat : Int) := by
    have h1 := bits_lo_u8 .xor ((s.data.toList.getD i 0).toNat : Int) b
    have h2 := bits_hi_u8 .xor ((s.data.toList.getD i 0).toNat : Int) b
    exact ⟨UInt8.ofNat (bits .xor .u8 ((s.data.toList.getD i 0).toNat : Int) b).toNat, by rw [ofNat_toNat _ (by omega)]; omega⟩
  have hlen : (s.data.toList.set i y).length = s.size := by rw [List.length_set, ← size_list rfl]
  have hback := run_convert_bytes_back (P := Tryz.prog) (W.setCell ⟨w.heap.size, i, none⟩ (.int .u8 (bits .xor .u8 ((s.data.toList.getD i 0).toNat : Int) b))) 22 9 5 ⟨w.heap.size, 0, none⟩ C (s.data.toList.set i y) Tryz.underlying22 Tryz.underlying5 Tryz.underlying9 (fun j hj => by
    rw [hlen] at hj
    have hj' : j < s.data.toList.length := by rw [← size_list rfl]; exact hj
    have ea : (⟨w.heap.size, 0, none⟩ : Addr).add j = ⟨w.heap.size, j, none⟩ := by simp [Addr.add]; exact fun h => h.symm
    rw [ea]
    by_cases hji : j = i
    · subst hji
      rw [World.cell?_setCell_same _ _ _ hci, hy]
      simp
    · rw [World.cell?_setCell_other _ _ _ _ (by intro h; exact hji (by simpa using h.symm)), hcell j hj]
      have : (s.data.toList.set i y)[j]'(by rw [List.length_set]; exact hj') = s.data.toList[j] := by
        rw [List.getElem_set]
        rw [if_neg (fun h => hji h.symm)]
      rw [this]
      simp [List.getD_eq_getElem?_getD, List.getElem?_eq_getElem hj'])
  rw [hlen] at hback
  have HB : Hid ((⟨(s.data.toList.set i y).toArray⟩ : ByteArray).size = s.size) := by
    show _ = _
    rw [size_list (l := s.data.toList.set i y) (by simp)]
    exact hlen
  clear hcell hfr hy hlen
  generalize (s.data.toList.set i y).toArray = ys at *
  generalize (s.data.toList.getD i 0).toNat = x at *
  go_enter Tryz.func9, Tryz.ntmps9
  go_wp2
  go_ret
  exact ⟨⟨_, rfl, HB.out⟩, hB.setCell (Nat.le_refl _) _⟩
theorem Bend_none (s : ByteArray) (hz : s.size = 0) (a b : Int) (w : World) : Calls Tryz.prog 9 #[.string s, .int .u16 a, .int .u8 b] w fun e w' => (∃ t : ByteArray, e = .returned (.string t) ∧ t.size = s.size) ∧ Below w.heap.size w w' := by
  have hne : s.toList.isEmpty = true := by
    rw [Lib.toList_data]
    have : s.data.toList = [] := List.eq_nil_of_length_eq_zero (by rw [← size_list rfl]; exact hz)
    rw [this]; rfl
  clear hz
  go_enter Tryz.func9, Tryz.ntmps9
  go_wp2
  go_ret
  exact ⟨⟨_, rfl, rfl⟩, Below.refl _ _⟩

def strI : Option (List UInt8 × Nat) → Value
  | none => .tuple #[.string ⟨#[]⟩, .int .i64 0]
  | some r => .tuple #[.string ⟨r.1.toArray⟩, .int .i64 (r.2 : Int)]

set_option maxHeartbeats 2000000 in
theorem Read_any (s : ByteArray) (hs0 : s.size ≤ 10000) (w : World) :
    Calls Tryz.prog 41 #[.string s] w fun e w' => e = .returned (strI (readL s.data.toList)) ∧ Below w.heap.size w w' := by
  have HS : Hid (s.size ≤ 10000) := hs0
  have zi : (s.size : Int) ≤ 10000 := by omega
  clear hs0
  by_cases h0 : s.size = 0
  · have e : s.data.toList = [] := List.eq_nil_of_length_eq_zero (by rw [← size_list rfl]; exact h0)
    have hne : s.toList.isEmpty = true := by rw [Lib.toList_data, e]; rfl
    rw [e]
    clear h0 e
    go_enter Tryz.func41, Tryz.ntmps41
    go_wp2
    go_ret2
    exact ⟨rfl, Below.refl _ _⟩
  · obtain ⟨b, t, hl⟩ : ∃ b t, s.data.toList = b :: t := by
      cases h : s.data.toList with
      | nil => exact absurd (by rw [size_list h]; rfl) h0
      | cons b t => exact ⟨b, t, rfl⟩
    have hne : s.toList.isEmpty = false := by rw [Lib.toList_data, hl]; rfl
    have z1 : (0 : Int) < (s.size : Int) := by omega
    have hpos : 0 < s.size := Nat.pos_of_ne_zero h0
    have i0 := byte_at hl 0 hpos b rfl
    by_cases hb : b.toNat = 34
    · have hR : readL s.data.toList = rd t [] 1 := by rw [hl]; exact if_pos hb
      have HR : Hid (readL s.data.toList = rd (s.data.toList.drop 1) [] 1) := by rw [hR, hl]; rfl
      have i34 : ((s[0]'hpos).toNat : Int) = 34 := by rw [i0, hb]; rfl
      clear hR hb i0 hl b t
      go_enter Tryz.func41, Tryz.ntmps41
      go_wp2_with fail
      go_loopw [4, 5] (fun ov at' wr => ∃ (k : Nat) (o : ByteArray), ov = .string o ∧ at' = .int .i64 (k : Int) ∧ 1 ≤ k ∧ k ≤ s.size ∧ o.size ≤ k ∧ Below w.heap.size w wr ∧ readL s.data.toList = rd (s.data.toList.drop k) o.data.toList k) (fun _ at' _ => s.size - (intOf at').toNat)
      case atStart => exact ⟨1, ⟨#[]⟩, rfl, rfl, by omega, by omega, by decide, Below.refl _ _, HR.out⟩
      case round =>
        obtain ⟨k, o, rfl, rfl, hk1, hk2, ho, hB, hr⟩ := hrel
        have HX : Hid (readL s.data.toList = rd (s.data.toList.drop k) o.data.toList k) := hr
        have hoz : o.size ≤ 10000 := by have := HS.out; omega
        have HO : Hid (o.size ≤ k) := ho
        clear hr HR ho
        by_cases hlt : k < s.size
        · have hd := drop_at s k hlt
          obtain ⟨x, ix⟩ : ∃ x, s[k]'hlt = x := ⟨_, rfl⟩
          rw [ix] at hd
          have HD : Hid (s.data.toList.drop k = x :: s.data.toList.drop (k + 1)) := hd
          clear hd
          have zk : (k : Int) < (s.size : Int) := by omega
          by_cases hq : x.toNat = 34
          · have eq : ((x.toNat : Int) == 34) = true := by rw [hq]; rfl
            have HQ : Hid (x.toNat = 34) := hq
            clear hq
            go_wp2
            go_ret2
            refine ⟨?_, hB⟩
            rw [HX.out, HD.out, rd_quote x _ _ _ HQ.out]
            rfl
          · have eq : ((x.toNat : Int) == 34) = false := by simp; omega
            have HQ : Hid (¬ x.toNat = 34) := hq
            clear hq
            have hch := char_any s k hlt HS.out wr
            cases ho1 : one (s.data.toList.drop k) with
            | none =>
              rw [ho1] at hch
              have h1 : one (x :: s.data.toList.drop (k + 1)) = none := by rw [← HD.out]; exact ho1
              have H1 : Hid (one (x :: s.data.toList.drop (k + 1)) = none) := h1
              clear ho1 h1
              go_wp2_with fail
              refine hch.mono ?_
              rintro e w1 ⟨rfl, hb1⟩
              simp only [pair2]
              go_wp2
              go_ret2
              refine ⟨?_, hB.trans (hb1.mono hB.size)⟩
              rw [HX.out, HD.out, rd_none x _ _ _ HQ.out H1.out]
              rfl
            | some cn =>
              obtain ⟨c, n⟩ := cn
              rw [ho1] at hch
              have h1 : one (x :: s.data.toList.drop (k + 1)) = some (c, n) := by rw [← HD.out]; exact ho1
              have hp := one_pos h1
              have hle := one_len (by simp) h1
              rw [← HD.out, List.length_drop, ← size_list rfl] at hle
              have H1 : Hid (one (x :: s.data.toList.drop (k + 1)) = some (c, n)) := h1
              have HC : Hid (1 ≤ n ∧ c ≤ 1114111) := hp
              have HL : Hid (n ≤ s.size - k ∧ (Lib.encodeRune (c : Int)).length ≤ n) := hle
              have zn : (k : Int) + (n : Int) ≤ (s.size : Int) := by omega
              have n0 : ((n : Int) == 0) = false := by simp; omega
              have hes := enc1_size c
              clear h1 ho1 hp hle
              go_wp2_with fail
              refine hch.mono ?_
              rintro e w1 ⟨rfl, hb1⟩
              have hB1 := hB.trans (hb1.mono hB.size)
              have hcv := conv_rune w1 c
              simp only [pair2]
              go_wp2
              go_roundw
              case rel =>
                refine ⟨k + n, o ++ enc1 c, rfl, by go_num, by omega, by have := HL.out; omega, ?_, hB1.alloc hB1.size _, ?_⟩
                · have := HL.out; have := HO.out; rw [ByteArray.size_append, size_list (enc1_list c)]; omega
                · rw [HX.out, HD.out, rd_some x _ _ _ _ _ HQ.out H1.out, ← HD.out, List.drop_drop, append_list, enc1_list]
              case measure => have := HC.out; have := HL.out; simp [intOf]; omega
        · have hd := drop_end s k (by omega)
          have HD : Hid (s.data.toList.drop k = []) := hd
          have zk : ¬ (k : Int) < (s.size : Int) := by omega
          clear hd
          go_wp2
          go_ret2
          refine ⟨?_, hB⟩
          rw [HX.out, HD.out, rd_nil]
          rfl
    · have eb : ((b.toNat : Int) != 34) = true := by simp; omega
      have hR : readL s.data.toList = none := by rw [hl]; exact if_neg hb
      rw [hR]
      clear hR hb hl
      go_enter Tryz.func41, Tryz.ntmps41
      go_wp2
      go_ret2
      exact ⟨rfl, Below.refl _ _⟩
end Go.Proofs.YtdcaohnaiepllaaGreatDoor
