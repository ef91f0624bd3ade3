/-
  The program's Unquote by its contract: it tells what the plain function reads. Condition: the text has at most 2^47 - 8 bytes.
-/
import Derived.Test.YtdcaohnaiepllaaGreatDoorTUnq
namespace Go.Proofs.YtdcaohnaiepllaaGreatDoor
open Go.RowKit Go.Extern.Stop Go.Stop Go.Extern

theorem drop_cons (l : List UInt8) (k : Nat) (h : k < l.length) : l.drop k = l[k] :: l.drop (k + 1) := List.drop_eq_getElem_cons h

/-- what Unquote tells. -/
def Tells (o : Option (List UInt8 × Nat)) (e : Ending) (w : World) : Prop :=
  match o with
  | none => ∃ v, e = .returned (.tuple #[.string ⟨#[]⟩, .int .i64 0, v]) ∧ Bad w v
  | some r => e = .returned (.tuple #[.string ⟨r.1.toArray⟩, .int .i64 (r.2 : Int), .nilIface])

set_option maxHeartbeats 2000000 in
theorem Unquote_any (s : ByteArray) (hs0 : s.size ≤ 140737488355320) (w : World) (hE : TEnv w) :
    Calls Tryz.prog 86 #[.string s] w fun e w' => Tells (readL s.data.toList) e w' ∧ Below w.heap.size w w' := by
  have HS : Hid (s.size ≤ 140737488355320) := hs0
  clear hs0
  by_cases h0 : s.size = 0
  · have e : s.data.toList = [] := List.eq_nil_of_length_eq_zero (by rw [← size_list rfl]; exact h0)
    have e' : s = ⟨#[]⟩ := by
      cases s with
      | mk d => cases d; simp at e; subst e; rfl
    rw [e]
    subst e'
    clear h0 e
    go_enter Tryz.func86, Tryz.ntmps86
    go_wp2_with fail
    refine (wrong_any 0 (by omega) _ hE).mono ?_
    rintro e w1 ⟨v, rfl, hv, hb⟩
    go_wp2
    go_ret3
    exact ⟨⟨_, rfl, hv⟩, hb⟩
  · obtain ⟨b, t, hl⟩ : ∃ b t, s.data.toList = b :: t := by
      cases h : s.data.toList with
      | nil => exact absurd (by rw [size_list h]; rfl) h0
      | cons b t => exact ⟨b, t, rfl⟩
    have hne : s.toList.isEmpty = false := by rw [Lib.toList_data, hl]; rfl
    have z1 : (0 : Int) < (s.size : Int) := by omega
    have hpos : 0 < s.size := Nat.pos_of_ne_zero h0
    have i0 := byte_at hl 0 hpos b rfl
    by_cases hb : b.toNat = 34
    · have eb : ((b.toNat : Int) != 34) = false := by rw [hb]; rfl
      have hR : readL s.data.toList = rd t [] 1 := by rw [hl]; exact if_pos hb
      have HR : Hid (readL s.data.toList = rd (s.data.toList.drop 1) [] 1) := by rw [hR, hl]; rfl
      have hne2 : s.data.toList ≠ [] := by rw [hl]; simp
      have i34 : ((s[0]'hpos).toNat : Int) = 34 := by rw [i0, hb]; rfl
      clear hR hb eb i0 hl b t
      go_enter Tryz.func86, Tryz.ntmps86
      go_wp2_with fail
      go_loopw [6] (fun at' wr => ∃ (k : Nat) (o : List UInt8), at' = .int .i64 (k : Int) ∧ 1 ≤ k ∧ k ≤ s.size ∧ o.length ≤ k ∧ Below w.heap.size w wr ∧ Bld w.heap.size o wr ∧ readL s.data.toList = rd (s.data.toList.drop k) o k) (fun at' _ => s.size - (intOf at').toNat)
      case atStart => exact ⟨1, [], rfl, by omega, by omega, by simp, (Below.refl _ _).alloc (Nat.le_refl _) _, Bld.new w, HR.out⟩
      case round =>
        obtain ⟨k, o, rfl, hk1, hk2, ho, hB, hbu, hr⟩ := hrel
        have HX : Hid (readL s.data.toList = rd (s.data.toList.drop k) o k) := hr
        clear hr HR
        have zi : (s.size : Int) ≤ 140737488355320 := by have := HS.out; omega
        by_cases hlt : k < s.size
        · have hln : k < s.data.toList.length := by rw [← size_list rfl]; exact hlt
          obtain ⟨x, hx⟩ : ∃ x, s.data.toList[k] = x := ⟨_, rfl⟩
          have hd : s.data.toList.drop k = x :: s.data.toList.drop (k + 1) := by rw [drop_cons _ _ hln, hx]
          have ix : s[k]'hlt = x := byte_at rfl k hlt x (by rw [List.getElem?_eq_getElem hln, hx])
          have HD : Hid (s.data.toList.drop k = x :: s.data.toList.drop (k + 1)) := hd
          clear hx hd
          have zk : (k : Int) < (s.size : Int) := by omega
          by_cases hq : x.toNat = 34
          · have eq : ((x.toNat : Int) != 34) = false := by rw [hq]; rfl
            have HQ : Hid (x.toNat = 34) := hq
            have ne : ((k : Int) == (s.size : Int)) = false := by simp; omega
            clear hq
            go_wp2_with fail
            refine (stringOf _ o _ hbu).mono ?_
            rintro e w1 ⟨rfl, hb1⟩
            go_wp2
            go_ret3
            refine ⟨?_, hB.trans hb1⟩
            rw [HX.out, HD.out, rd_quote x _ _ _ HQ.out]
            rfl
          · have eq : ((x.toNat : Int) != 34) = true := by simp; omega
            have HQ : Hid (¬ x.toNat = 34) := hq
            have hdl := drop_list (s := s) rfl k
            clear hq
            go_wp2_with fail
            refine (first_any (s.extract k s.size) (by rw [hdl, HD.out]; simp) _ (hE.tabs.below hB)).mono ?_
            rintro e w1 ⟨hm, hb1⟩
            rw [hdl] at hm
            have hB1 := hB.trans (hb1.mono hB.size)
            cases ho1 : one (s.data.toList.drop k) with
            | none =>
              rw [ho1] at hm
              obtain ⟨a, b, rfl⟩ := hm
              clear hdl
              go_wp2_with fail
              refine (wrong_any k (by omega) _ (hE.below hB1)).mono ?_
              rintro e w2 ⟨v, rfl, hv, hb2⟩
              go_wp2
              go_ret3
              refine ⟨?_, hB1.trans (hb2.mono hB1.size)⟩
              have h1 : one (x :: s.data.toList.drop (k + 1)) = none := by rw [← HD.out]; exact ho1
              rw [HX.out, HD.out, rd_none x _ _ _ HQ.out h1]
              exact ⟨_, rfl, hv⟩
            | some cn =>
              obtain ⟨c, n⟩ := cn
              rw [ho1] at hm
              simp only [tripV] at hm
              subst hm
              have h1 : one (x :: s.data.toList.drop (k + 1)) = some (c, n) := by rw [← HD.out]; exact ho1
              have hp := one_pos h1
              have hle := one_len (by simp) h1
              rw [← HD.out, List.length_drop, ← size_list rfl] at hle
              have hbu1 := hbu.below hb1
              have H1 : Hid (one (x :: s.data.toList.drop (k + 1)) = some (c, n)) := h1
              have HC : Hid (1 ≤ n ∧ c ≤ 1114111) := hp
              have HL : Hid (n ≤ s.size - k ∧ (Lib.encodeRune (c : Int)).length ≤ n) := hle
              have zn : (k : Int) + (n : Int) ≤ (s.size : Int) := by omega
              clear hdl h1 ho1 hp hle
              go_wp2_with fail
              refine (writeRune _ o c HC.out.2 _ hbu1 (by omega)).mono ?_
              rintro e w2 ⟨z, rfl, hbu2, hb2⟩
              go_wp2
              go_roundw
              case rel =>
                refine ⟨k + n, o ++ Lib.encodeRune (c : Int), by go_num, by omega, by have := HL.out; omega, by have := HL.out; simp; omega, hB1.trans hb2, hbu2, ?_⟩
                rw [HX.out, HD.out, rd_some x _ _ _ _ _ HQ.out H1.out, ← HD.out, List.drop_drop]
              case measure => have := HC.out; have := HL.out; simp [intOf]; omega
        · have ek : k = s.size := by omega
          have hd : s.data.toList.drop k = [] := List.drop_of_length_le (by rw [← size_list rfl]; omega)
          have HD : Hid (s.data.toList.drop k = []) := hd
          have zk : ¬ (k : Int) < (s.size : Int) := by omega
          have ne : ((k : Int) == (s.size : Int)) = true := by simp; omega
          clear hd ek
          go_wp2_with fail
          refine (wrong_any k (by have := HS.out; omega) _ (hE.below hB)).mono ?_
          rintro e w2 ⟨v, rfl, hv, hb2⟩
          go_wp2
          go_ret3
          refine ⟨?_, hB.trans (hb2.mono hB.size)⟩
          rw [HX.out, HD.out, rd_nil]
          exact ⟨_, rfl, hv⟩
    · have eb : ((b.toNat : Int) != 34) = true := by simp; omega
      have hR : readL s.data.toList = none := by rw [hl]; exact if_neg hb
      rw [hR]
      clear hR hb hl
      go_enter Tryz.func86, Tryz.ntmps86
      go_wp2_with fail
      refine (wrong_any 0 (by omega) _ hE).mono ?_
      rintro e w1 ⟨v, rfl, hv, hb⟩
      go_wp2
      go_ret3
      exact ⟨⟨_, rfl, hv⟩, hb⟩
end Go.Proofs.YtdcaohnaiepllaaGreatDoor
