/-
  The law's blank and is by their contracts. Conditions: as stated.
-/
import Derived.Test.YtdcaohnaiepllaaGreatDoorJQP
import Derived.Test.YtdcaohnaiepllaaGreatDoorTBend
namespace Go.Proofs.YtdcaohnaiepllaaGreatDoor
open Go.RowKit Go.Extern.Stop Go.Stop Go.Extern

/-- what blank answers. -/
def BlA (s : ByteArray) (k : Nat) (w : World) (e : Ending) (w' : World) : Prop := (∃ j : Nat, e = .returned (.int .i64 (j : Int)) ∧ k ≤ j ∧ j ≤ s.size ∧ s.data.toList.drop j = skip (s.data.toList.drop k)) ∧ w' = w
theorem bl_ne (x : UInt8) (n : Nat) (h : ¬ x.toNat = n) : ((x.toNat : Int) == (n : Int)) = false := by
  simp only [beq_eq_false_iff_ne, ne_eq]
  omega
theorem bl_eq (x : UInt8) (n : Nat) (h : x.toNat = n) : ((x.toNat : Int) == (n : Int)) = true := by
  simp only [beq_iff_eq]
  omega

set_option maxRecDepth 100000 in
set_option maxHeartbeats 4000000 in
theorem blank_any (s : ByteArray) (hs : s.size ≤ 4096) (k : Nat) (hk : k ≤ s.size) (w : World) : Calls Tryz.prog 23 #[.string s, .int .i64 (k : Int)] w (BlA s k w) := by
  go_enter Tryz.func23, Tryz.ntmps23
  go_wp2_with fail
  go_loopg [1] s.size (fun gg i wr => ∃ j : Nat, j ≤ s.size ∧ s.size - j ≤ gg ∧ i = .int .i64 (j : Int) ∧ Aside (k ≤ j ∧ skip (s.data.toList.drop k) = skip (s.data.toList.drop j)) ∧ Aside (wr = w))
  case atStart => exact ⟨k, hk, by omega, rfl, ⟨Nat.le_refl _, rfl⟩, rfl⟩
  case round =>
    obtain ⟨j, hj, hgg, rfl, hA, hW⟩ := hrel
    by_cases hlt : j < s.size
    · have zj : (j : Int) < (s.size : Int) := by omega
      have zj0 : (0 : Int) ≤ (j : Int) := by omega
      have hd := drop_at s j hlt
      obtain ⟨x, hx⟩ : ∃ x, s[j]'hlt = x := ⟨_, rfl⟩
      rw [hx] at hd
      have HD := (show Hid _ from hd)
      clear hd
      by_cases hb : isBl x
      · have HB := (show Hid _ from hb)
        by_cases b9 : x.toNat = 9
        · have e9 : ((x.toNat : Int) == 9) = true := bl_eq x 9 b9
          clear hb b9
          go_wp2_with fail
          go_roundg (s.size - (j + 1))
          case measure => omega
          case rel => exact ⟨j + 1, by omega, by omega, by go_num, ⟨by have := hA.out.1; omega, by rw [hA.out.2, HD.out, skip, if_pos HB.out]⟩, hW.out⟩
        · have e9 : ((x.toNat : Int) == 9) = false := bl_ne x 9 b9
          by_cases b10 : x.toNat = 10
          · have e10 : ((x.toNat : Int) == 10) = true := bl_eq x 10 b10
            clear hb b9 b10
            go_wp2_with fail
            go_roundg (s.size - (j + 1))
            case measure => omega
            case rel => exact ⟨j + 1, by omega, by omega, by go_num, ⟨by have := hA.out.1; omega, by rw [hA.out.2, HD.out, skip, if_pos HB.out]⟩, hW.out⟩
          · have e10 : ((x.toNat : Int) == 10) = false := bl_ne x 10 b10
            by_cases b13 : x.toNat = 13
            · have e13 : ((x.toNat : Int) == 13) = true := bl_eq x 13 b13
              clear hb b9 b10 b13
              go_wp2_with fail
              go_roundg (s.size - (j + 1))
              case measure => omega
              case rel => exact ⟨j + 1, by omega, by omega, by go_num, ⟨by have := hA.out.1; omega, by rw [hA.out.2, HD.out, skip, if_pos HB.out]⟩, hW.out⟩
            · have e13 : ((x.toNat : Int) == 13) = false := bl_ne x 13 b13
              have e32 : ((x.toNat : Int) == 32) = true := bl_eq x 32 (by unfold isBl at hb; omega)
              clear hb b9 b10 b13
              go_wp2_with fail
              go_roundg (s.size - (j + 1))
              case measure => omega
              case rel => exact ⟨j + 1, by omega, by omega, by go_num, ⟨by have := hA.out.1; omega, by rw [hA.out.2, HD.out, skip, if_pos HB.out]⟩, hW.out⟩
      · have e9 : ((x.toNat : Int) == 9) = false := bl_ne x 9 (by unfold isBl at hb; omega)
        have e10 : ((x.toNat : Int) == 10) = false := bl_ne x 10 (by unfold isBl at hb; omega)
        have e13 : ((x.toNat : Int) == 13) = false := bl_ne x 13 (by unfold isBl at hb; omega)
        have e32 : ((x.toNat : Int) == 32) = false := bl_ne x 32 (by unfold isBl at hb; omega)
        have HB := (show Hid _ from hb)
        clear hb
        go_wp2_with fail
        go_ret
        refine ⟨⟨j, rfl, hA.out.1, hj, ?_⟩, hW.out⟩
        rw [hA.out.2, HD.out, skip, if_neg HB.out]
    · have zj : ¬ (j : Int) < (s.size : Int) := by omega
      have hd := drop_end s j (by omega)
      have HD := (show Hid _ from hd)
      clear hd
      go_wp2_with fail
      go_ret
      refine ⟨⟨j, rfl, hA.out.1, hj, ?_⟩, hW.out⟩
      rw [hA.out.2, HD.out]; rfl

/-- does it begin so? -/
def prefB (l t : List UInt8) : Bool := l.take t.length == t
theorem pref_short {l t : List UInt8} (h : l.length < t.length) : prefB l t = false := by
  unfold prefB
  simp only [beq_eq_false_iff_ne, ne_eq]
  intro e
  have := congrArg List.length e
  rw [List.length_take] at this
  omega
theorem pref_one (l : List UInt8) (c : UInt8) (hc : c.toNat ≠ 0) : prefB l [c] = decide (hd l = c.toNat) := by
  cases l with
  | nil =>
    have : ¬ (0 : Nat) = c.toNat := by omega
    simp [prefB, hd, this]
  | cons b t =>
    show ([b] == [c]) = decide (b.toNat = c.toNat)
    by_cases h : b = c
    · subst h; simp
    · have : ¬ b.toNat = c.toNat := fun e => h (UInt8.toNat_inj.1 e)
      simp [h, this]
set_option maxRecDepth 100000 in
set_option maxHeartbeats 4000000 in
theorem is_any (s : ByteArray) (hs : s.size ≤ 4096) (k : Nat) (hk : k ≤ s.size) (t : ByteArray) (ht : t.size ≤ 10) (w : World) : Calls Tryz.prog 39 #[.string s, .int .i64 (k : Int), .string t] w fun e w' => e = .returned (.bool (prefB (s.data.toList.drop k) t.data.toList)) ∧ w' = w := by
  have zk : (k : Int) ≤ (s.size : Int) := by omega
  have zk0 : (0 : Int) ≤ (k : Int) := by omega
  by_cases h : t.size ≤ s.size - k
  · have z1 : (t.size : Int) ≤ (s.size : Int) - (k : Int) := by omega
    have hw : wrap64 ((s.size : Int) - (k : Int)) = (s.size : Int) - (k : Int) := by unfold wrap64; omega
    have hw2 : wrap64 ((k : Int) + (t.size : Int)) = (k : Int) + (t.size : Int) := by unfold wrap64; omega
    have hsl : ∀ W : World, (Instr.slice 9 (.string s) (some (.int .i64 (k : Int))) (some (.int .i64 ((k : Int) + (t.size : Int)))) none).run Tryz.prog W = .ok (.string (s.extract k (k + t.size))) W := fun W => by
      rw [run_slice_string (P := Tryz.prog) W 9 s .i64 .i64 _ _ Tryz.underlying9 (by omega) (by omega) (by omega)]
      have e1 : ((k : Int)).toNat = k := by omega
      have e2 : ((k : Int) + (t.size : Int)).toNat = k + t.size := by omega
      rw [e1, e2]
    have hE : (s.extract k (k + t.size)).data.toList = (s.data.toList.drop k).take t.size := by
      rw [ByteArray.data_extract, Array.toList_extract, List.extract_eq_take_drop, Nat.add_sub_cancel_left]
    obtain ⟨E, hEq⟩ : ∃ E, s.extract k (k + t.size) = E := ⟨_, rfl⟩
    rw [hEq] at hE
    simp only [hEq] at hsl
    have hb : (E.toList == t.toList) = prefB (s.data.toList.drop k) t.data.toList := by
      rw [Lib.toList_data, Lib.toList_data, hE]
      unfold prefB
      rw [size_list (s := t) rfl]
    obtain ⟨b, hbb⟩ : ∃ b, prefB (s.data.toList.drop k) t.data.toList = b := ⟨_, rfl⟩
    rw [hbb] at hb ⊢
    clear hbb hE hEq h
    go_enter Tryz.func39, Tryz.ntmps39
    go_wp2_with fail
    go_ret
    exact ⟨rfl, rfl⟩
  · have z1 : ¬ (t.size : Int) ≤ (s.size : Int) - (k : Int) := by omega
    have hw : wrap64 ((s.size : Int) - (k : Int)) = (s.size : Int) - (k : Int) := by unfold wrap64; omega
    rw [pref_short (by rw [List.length_drop, ← size_list rfl, ← size_list rfl]; omega)]
    clear h
    go_enter Tryz.func39, Tryz.ntmps39
    go_wp2_with fail
    go_ret
    exact ⟨rfl, rfl⟩
end Go.Proofs.YtdcaohnaiepllaaGreatDoor
