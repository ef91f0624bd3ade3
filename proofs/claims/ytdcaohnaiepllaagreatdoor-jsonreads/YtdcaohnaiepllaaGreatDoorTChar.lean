/-
  The law's char by its contract: it tells what the plain function reads. Condition: the text has at most 10000 bytes.
-/
import Derived.Test.YtdcaohnaiepllaaGreatDoorTChr
import Derived.Test.YtdcaohnaiepllaaGreatDoorTPut
namespace Go.Proofs.YtdcaohnaiepllaaGreatDoor
open Go.RowKit Go.Extern.Stop Go.Stop Go.Extern

theorem drop_at (s : ByteArray) (k : Nat) (h : k < s.size) : s.data.toList.drop k = (s[k]'h) :: s.data.toList.drop (k + 1) := by
  have hln : k < s.data.toList.length := by rw [← size_list rfl]; exact h
  rw [List.drop_eq_getElem_cons hln]
  rfl
theorem drop_end (s : ByteArray) (k : Nat) (h : s.size ≤ k) : s.data.toList.drop k = [] := List.drop_of_length_le (by rw [← size_list rfl]; exact h)

theorem lawU (s : ByteArray) (k : Nat) (hk : k ≤ 1000000) (hs : s.size ≤ 10000) (z : Int) (hz : (k : Int) = z) : LawU s z (numI (unitL (s.data.toList.drop k))) := by
  intro w
  rw [← hz]
  exact lawUnit_any s k (by omega) (by omega) w

theorem unitU_at (s : ByteArray) (k : Nat) (h : k + 1 < s.size) : unitU (s.data.toList.drop k) = if (s[k]'(by omega)).toNat = 92 ∧ (s[k + 1]'h).toNat = 117 then unitL (s.data.toList.drop (k + 2)) else none := by
  rw [drop_at s k (by omega), drop_at s (k + 1) h]
  rfl

theorem char_half (s : ByteArray) (k : Nat) (hk : k < s.size) (hs : s.size ≤ 10000) (w : World) (hF : FirstIs (s.extract k s.size) 92 1 w) (hk1 : k + 1 < s.size) (ix : (s[k + 1]'hk1).toNat = 117) (a : Nat) (hU : LawU s ((k : Int) + 2) (a : Int)) (h0 : 55296 ≤ a) (h1 : a < 56320) :
    Calls Tryz.prog 71 #[.string s, .int .i64 (k : Int)] w fun e w' => e = .returned (pair2 (match unitU (s.data.toList.drop (k + 6)) with
      | none => none
      | some b => if 56320 ≤ b ∧ b < 57344 then some (65536 + (a - 55296) * 1024 + (b - 56320), 12) else none)) ∧ Below w.heap.size w w' := by
  have hV := lawU s (k + 8) (by omega) hs ((k : Int) + 8) (by omega)
  cases hb : unitL (s.data.toList.drop (k + 8)) with
  | none =>
    rw [hb] at hV
    have e : unitU (s.data.toList.drop (k + 6)) = none := by
      by_cases h7 : k + 7 < s.size
      · rw [unitU_at s (k + 6) h7]
        split
        · exact hb
        · rfl
      · exact unitU_few (by rw [List.length_drop, ← size_list rfl]; omega)
    rw [e]
    exact char_hlow s k hk (by omega) w hF hk1 ix a hU (by omega) (by omega) (-1) hV (by omega)
  | some b =>
    rw [hb] at hV
    have hbl := unitL_lt hb
    have hsz : k + 12 ≤ s.size := by
      rcases Nat.lt_or_ge s.size (k + 12) with h | h
      · rw [unitL_few (by rw [List.length_drop, ← size_list rfl]; omega)] at hb; cases hb
      · exact h
    rw [unitU_at s (k + 6) (by omega), hb]
    by_cases c1 : b < 56320
    · have e : (match (if (s[k + 6]'(by omega)).toNat = 92 ∧ (s[k + 6 + 1]'(by omega)).toNat = 117 then some b else none) with | none => none | some b => if 56320 ≤ b ∧ b < 57344 then some (65536 + (a - 55296) * 1024 + (b - 56320), 12) else none) = (none : Option (Nat × Nat)) := by
        split
        · rfl
        · rename_i b' hb'
          split at hb'
          · cases hb'; exact if_neg (by omega)
          · cases hb'
      rw [e]
      exact char_hlow s k hk (by omega) w hF hk1 ix a hU (by omega) (by omega) b hV (by omega)
    · by_cases c2 : 57343 < b
      · have e : (match (if (s[k + 6]'(by omega)).toNat = 92 ∧ (s[k + 6 + 1]'(by omega)).toNat = 117 then some b else none) with | none => none | some b => if 56320 ≤ b ∧ b < 57344 then some (65536 + (a - 55296) * 1024 + (b - 56320), 12) else none) = (none : Option (Nat × Nat)) := by
          split
          · rfl
          · rename_i b' hb'
            split at hb'
            · cases hb'; exact if_neg (by omega)
            · cases hb'
        rw [e]
        exact char_hhigh s k hk (by omega) w hF hk1 ix a hU (by omega) (by omega) b hV (by omega)
      · by_cases c6 : (s[k + 6]'(by omega)).toNat = 92
        · by_cases c7 : (s[k + 7]'(by omega)).toNat = 117
          · rw [if_pos ⟨c6, c7⟩]
            simp only
            rw [if_pos ⟨by omega, by omega⟩]
            have := char_two s k hk (by omega) w hF hk1 ix a hU (by omega) (by omega) b hV (by omega) (by omega) (by omega) (by omega) c6 c7
            have e : ((65536 + (a - 55296) * 1024 + (b - 56320) : Nat) : Int) = 65536 + ((a : Int) - 55296) * 1024 + (b : Int) - 56320 := by omega
            simp only [pair2, e]
            exact this
          · rw [if_neg (fun h => c7 h.2)]
            exact char_hu s k hk (by omega) w hF hk1 ix a hU (by omega) (by omega) b hV (by omega) (by omega) (by omega) (by omega) c6 _ rfl (by simp; omega)
        · rw [if_neg (fun h => c6 h.1)]
          exact char_hback s k hk (by omega) w hF hk1 ix a hU (by omega) (by omega) b hV (by omega) (by omega) (by omega) (by omega) _ rfl (by simp; omega)

theorem char_esc (s : ByteArray) (k : Nat) (hk : k < s.size) (hs : s.size ≤ 10000) (w : World) (hF : FirstIs (s.extract k s.size) 92 1 w) (i0 : (s[k]'hk).toNat = 92) :
    Calls Tryz.prog 71 #[.string s, .int .i64 (k : Int)] w fun e w' => e = .returned (pair2 (escL (s.data.toList.drop k))) ∧ Below w.heap.size w w' := by
  by_cases hk1 : k + 1 < s.size
  · have hU := lawU s (k + 2) (by omega) hs ((k : Int) + 2) (by omega)
    have hd6 : (s.data.toList.drop k).drop 6 = s.data.toList.drop (k + 6) := List.drop_drop
    have hu : unitU (s.data.toList.drop k) = if (s[k]'(by omega)).toNat = 92 ∧ (s[k + 1]'hk1).toNat = 117 then unitL (s.data.toList.drop (k + 2)) else none := unitU_at s k hk1
    have hE : escL (s.data.toList.drop k) = if (s[k + 1]'hk1).toNat = 117 then unitsL (s.data.toList.drop k) else if (s[k + 1]'hk1).toNat = 98 then some (8, 2) else if (s[k + 1]'hk1).toNat = 116 then some (9, 2) else if (s[k + 1]'hk1).toNat = 110 then some (10, 2) else if (s[k + 1]'hk1).toNat = 102 then some (12, 2) else if (s[k + 1]'hk1).toNat = 114 then some (13, 2) else if (s[k + 1]'hk1).toNat = 34 ∨ (s[k + 1]'hk1).toNat = 92 ∨ (s[k + 1]'hk1).toNat = 47 then some ((s[k + 1]'hk1).toNat, 2) else none := by
      rw [drop_at s k hk, drop_at s (k + 1) hk1]
      rfl
    rw [hE]
    by_cases h1 : (s[k + 1]'hk1).toNat = 117
    · rw [if_pos h1]
      rw [if_pos ⟨i0, h1⟩] at hu
      unfold unitsL
      rw [hu, hd6]
      cases ha : unitL (s.data.toList.drop (k + 2)) with
      | none =>
        rw [ha] at hU
        exact char_uneg s k hk (by omega) w hF hk1 h1 (-1) hU (by omega)
      | some a =>
        rw [ha] at hU
        have hal := unitL_lt ha
        simp only
        by_cases k1 : 56320 ≤ a ∧ a < 57344
        · rw [if_pos k1]
          exact char_usecond s k hk (by omega) w hF hk1 h1 a hU (by omega) (by omega)
        · rw [if_neg k1]
          by_cases k2 : a < 55296 ∨ 57344 ≤ a
          · rw [if_pos k2]
            rcases k2 with k2 | k2
            · exact char_ulow s k hk (by omega) w hF hk1 h1 a hU (by omega) (by omega)
            · exact char_uhigh s k hk (by omega) w hF hk1 h1 a hU (by omega) (by omega)
          · rw [if_neg k2]
            exact char_half s k hk hs w hF hk1 h1 a hU (by omega) (by omega)
    · rw [if_neg h1]
      by_cases h2 : (s[k + 1]'hk1).toNat = 98
      · rw [if_pos h2]; exact char_x98 s k hk (by omega) w hF hk1 h2
      · rw [if_neg h2]
        by_cases h3 : (s[k + 1]'hk1).toNat = 116
        · rw [if_pos h3]; exact char_x116 s k hk (by omega) w hF hk1 h3
        · rw [if_neg h3]
          by_cases h4 : (s[k + 1]'hk1).toNat = 110
          · rw [if_pos h4]; exact char_x110 s k hk (by omega) w hF hk1 h4
          · rw [if_neg h4]
            by_cases h5 : (s[k + 1]'hk1).toNat = 102
            · rw [if_pos h5]; exact char_x102 s k hk (by omega) w hF hk1 h5
            · rw [if_neg h5]
              by_cases h6 : (s[k + 1]'hk1).toNat = 114
              · rw [if_pos h6]; exact char_x114 s k hk (by omega) w hF hk1 h6
              · rw [if_neg h6]
                by_cases h7 : (s[k + 1]'hk1).toNat = 34 ∨ (s[k + 1]'hk1).toNat = 92 ∨ (s[k + 1]'hk1).toNat = 47
                · rw [if_pos h7]
                  rcases h7 with h7 | h7 | h7
                  · rw [h7]; exact char_x34 s k hk (by omega) w hF hk1 h7
                  · rw [h7]; exact char_x92 s k hk (by omega) w hF hk1 h7
                  · rw [h7]; exact char_x47 s k hk (by omega) w hF hk1 h7
                · rw [if_neg h7]
                  exact char_notu s k hk (by omega) w hF hk1 _ rfl (by simp; omega) (by simp; omega) (by simp; omega) (by simp; omega) (by simp; omega) (by simp; omega) (by simp; omega) (by simp; omega) (by simp; omega) _ hU
  · have e : escL (s.data.toList.drop k) = none := by
      rw [drop_at s k hk, drop_end s (k + 1) (by omega)]
      rfl
    rw [e]
    exact char_end s k hk (by omega) w hF (by omega)

theorem char_any (s : ByteArray) (k : Nat) (hk : k < s.size) (hs : s.size ≤ 10000) (w : World) :
    Calls Tryz.prog 71 #[.string s, .int .i64 (k : Int)] w fun e w' => e = .returned (pair2 (one (s.data.toList.drop k))) ∧ Below w.heap.size w w' := by
  have hd := drop_at s k hk
  have hne : s.data.toList.drop k ≠ [] := by rw [hd]; simp
  have hF0 := First_any (s.extract k s.size) (by rw [drop_list rfl]; exact hne) (by simp; omega) w
  rw [drop_list rfl] at hF0
  obtain ⟨c, n, hdec⟩ : ∃ c n, Lib.decodeL (s.data.toList.drop k) = (c, n) := ⟨_, _, rfl⟩
  rw [hdec] at hF0
  have hF : FirstIs (s.extract k s.size) (c : Int) (n : Int) w := hF0
  by_cases h32 : c < 32
  · have e : one (s.data.toList.drop k) = none := by unfold one; rw [if_pos (.inl (by rw [hdec]; exact h32))]
    rw [e]
    exact char_ctl s k hk (by omega) w c n hF (by omega)
  · by_cases hb : c = 65533 ∧ n = 1
    · have e : one (s.data.toList.drop k) = none := by unfold one; rw [if_pos (.inr (by rw [brk, hdec]; exact hb))]
      rw [e]
      obtain ⟨rfl, rfl⟩ := hb
      exact char_brk s k hk (by omega) w hF
    · by_cases h92 : c = 92
      · subst h92
        obtain ⟨rfl, htk⟩ := dec_small hne hdec (by omega)
        have e : one (s.data.toList.drop k) = escL (s.data.toList.drop k) := by
          unfold one
          rw [if_neg (by rw [not_or]; exact ⟨by rw [hdec]; exact h32, by rw [brk, hdec]; exact hb⟩), if_pos (by rw [hdec])]
        rw [e]
        have i0 : (s[k]'hk).toNat = 92 := by
          rw [hd] at htk
          simp only [List.take_succ_cons, List.take_zero, List.cons.injEq, and_true] at htk
          rw [htk]
          rfl
        exact char_esc s k hk hs w hF i0
      · have e : one (s.data.toList.drop k) = some (c, n) := by
          rw [one_plain _ (by rw [hdec]; exact h32) (by rw [brk, hdec]; exact hb) (by rw [hdec]; exact h92), hdec]
        rw [e]
        by_cases h65 : c = 65533
        · subst h65
          exact char_wide s k hk (by omega) w n hF (by simp; omega)
        · exact char_plain s k hk (by omega) w c n hF (by omega) (by simp; omega) (by simp; omega)
end Go.Proofs.YtdcaohnaiepllaaGreatDoor
