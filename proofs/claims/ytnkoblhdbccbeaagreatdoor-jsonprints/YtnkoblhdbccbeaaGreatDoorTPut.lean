/-
  The law's Put by its contract: it tells what the plain function writes. Condition: the text has at most 10000 bytes.
-/
import Derived.Test.YtnkoblhdbccbeaaGreatDoorTVal
import Derived.Test.YtnkoblhdbccbeaaGreatDoorU9
import Derived.BigRegion
namespace Go.Proofs.YtnkoblhdbccbeaaGreatDoor
open Go.RowKit Go.Extern.Stop Go.Stop Go.Extern

theorem mid_list {s : ByteArray} {l : List UInt8} (h : s.data.toList = l) (a b : Nat) : (s.extract a b).data.toList = (l.drop a).take (b - a) := by
  subst h
  rw [ByteArray.data_extract, Array.toList_extract, List.extract_eq_take_drop]
theorem slice_mid (s : ByteArray) (k n : Nat) (h : k + n ≤ s.size) (W : World) : (Instr.slice 9 (.string s) (some (.int .i64 (k : Int))) (some (.int .i64 ((k : Int) + (n : Int)))) none).run Tryz.prog W = .ok (.string (s.extract k (k + n))) W := by
  rw [run_slice_string (P := Tryz.prog) W 9 s .i64 .i64 _ _ Tryz.underlying9 (by omega) (by omega) (by omega)]
  have e1 : ((k : Int)).toNat = k := by omega
  have e2 : ((k : Int) + (n : Int)).toNat = k + n := by omega
  rw [e1, e2]
def hexD : ByteArray := ⟨#[48, 49, 50, 51, 52, 53, 54, 55, 56, 57, 97, 98, 99, 100, 101, 102]⟩
theorem hex_one : ∀ i : Fin 16, (hexD.extract i.val (i.val + 1)).data.toList = [hexd i.val] := by decide +kernel
theorem slice_hex (z : Int) (h0 : 0 ≤ z) (h1 : z < 16) : ∃ X : ByteArray, X.data.toList = [hexd z.toNat] ∧ X.size ≤ 1 ∧ ∀ W, (Instr.slice 9 (.string ⟨#[48, 49, 50, 51, 52, 53, 54, 55, 56, 57, 97, 98, 99, 100, 101, 102]⟩) (some (.int .i32 z)) (some (.int .i32 (z + 1))) none).run Tryz.prog W = .ok (.string X) W := by
  have e := hex_one ⟨z.toNat, by omega⟩
  refine ⟨hexD.extract z.toNat (z.toNat + 1), e, by rw [size_list e]; simp, fun W => ?_⟩
  have hz : (((⟨#[48, 49, 50, 51, 52, 53, 54, 55, 56, 57, 97, 98, 99, 100, 101, 102]⟩ : ByteArray).size : Nat) : Int) = 16 := rfl
  rw [run_slice_string (P := Tryz.prog) W 9 _ .i32 .i32 _ _ Tryz.underlying9 h0 (by omega) (by rw [hz]; omega)]
  have e2 : (z + 1).toNat = z.toNat + 1 := by omega
  rw [e2]
  rfl
theorem small_add (a b : ByteArray) (m n : Nat) (ha : a.size ≤ m) (hb : b.size ≤ n) : (a ++ b).size ≤ m + n := by
  rw [ByteArray.size_append]; omega

theorem esc_eq {l : List UInt8} {c n : Nat} (h : Lib.decodeL l = (c, n)) : esc l = if c = 65533 ∧ n = 1 then [92, 117, 102, 102, 102, 100] else if c = 8 then [92, 98] else if c = 9 then [92, 116] else if c = 10 then [92, 110] else if c = 12 then [92, 102] else if c = 13 then [92, 114] else if c < 32 then [92, 117, 48, 48, hexd (c / 16), hexd (c % 16)] else if c = 34 ∨ c = 92 then [92, UInt8.ofNat c] else l.take n := by
  unfold esc
  by_cases hb : brk l
  · have hb' := hb
    unfold brk at hb'
    rw [h] at hb'
    rw [if_pos hb, if_pos hb']
  · have hb' := hb
    unfold brk at hb'
    rw [h] at hb'
    rw [if_neg hb, if_neg hb', h]

theorem dec_small {l : List UInt8} {c n : Nat} (hne : l ≠ []) (h : Lib.decodeL l = (c, n)) (hc : c < 128) : n = 1 ∧ l.take 1 = [UInt8.ofNat c] := by
  rcases shapes l hne with ⟨a, t', rfl, ha, ed⟩ | ⟨a, b', t', e', c1, c3, cv, ed⟩ | ⟨a, b', c', t', e', c1, c3, c4, cv, cs, ed⟩ | ⟨a, b', c', d, t', e', c1, c3, c4, c5, cv, cw, ed⟩ | ⟨_, ed, _⟩
  · rw [ed] at h
    simp only [Prod.mk.injEq] at h
    obtain ⟨rfl, rfl⟩ := h
    exact ⟨rfl, by simp⟩
  · rw [ed] at h; simp only [Prod.mk.injEq] at h; omega
  · rw [ed] at h; simp only [Prod.mk.injEq] at h; omega
  · rw [ed] at h; simp only [Prod.mk.injEq] at h; omega
  · rw [ed] at h; simp only [Prod.mk.injEq] at h; omega

set_option maxRecDepth 100000 in
set_option maxHeartbeats 4000000 in
theorem Put_any (s : ByteArray) (hs0 : s.size ≤ 10000) (w : World) :
    Calls Tryz.prog 24 #[.string s] w fun e w' => e = .returned (.string ⟨(quoteL s.data.toList).toArray⟩) ∧ Below w.heap.size w w' := by
  have HS : Hid (s.size ≤ 10000) := hs0
  have hql := quo_length _ s.data.toList (Nat.le_refl _)
  rw [← size_list rfl] at hql
  have HQ : Hid ((quo s.data.toList).length ≤ 60000) := by show _ ≤ _; omega
  have zi : (s.size : Int) ≤ 10000 := by omega
  clear hs0 hql
  go_enter Tryz.func24, Tryz.ntmps24
  go_wp2
  go_loopw [3, 5] (fun ov at' wr => ∃ (k : Nat) (o : ByteArray), ov = .string o ∧ at' = .int .i64 (k : Int) ∧ k ≤ s.size ∧ o.data.toList ++ quo (s.data.toList.drop k) = 34 :: quo s.data.toList ∧ Below w.heap.size w wr) (fun _ at' _ => s.size - (intOf at').toNat)
  case atStart => exact ⟨0, _, rfl, rfl, Nat.zero_le _, rfl, Below.refl _ _⟩
  case round =>
    obtain ⟨k, o, rfl, rfl, hk, heq, hB⟩ := hrel
    have HE : Hid (o.data.toList ++ quo (s.data.toList.drop k) = 34 :: quo s.data.toList) := heq
    have ho : o.size ≤ 70000 := by
      have := congrArg List.length heq
      have h2 := HQ.out
      rw [size_list (rfl : o.data.toList = _)]
      simp at this ⊢
      omega
    have HK : Hid (k ≤ s.size) := hk
    clear heq
    by_cases hlt : k < s.size
    · have hne : s.data.toList.drop k ≠ [] := by
        intro h
        have := congrArg List.length h
        rw [List.length_drop, ← size_list rfl] at this
        simp at this
        omega
      have hle := Lib.decodeL_le _ hne
      have hw := Lib.decodeL_width (s.data.toList.drop k)
      rw [List.length_drop, ← size_list rfl] at hle
      have hst := quo_step _ hne
      rw [List.drop_drop] at hst
      have hX : (o.data.toList ++ esc (s.data.toList.drop k)) ++ quo (s.data.toList.drop (k + (Lib.decodeL (s.data.toList.drop k)).2)) = 34 :: quo s.data.toList := by
        rw [List.append_assoc, ← hst]; exact HE.out
      have hf := First_any (s.extract k s.size) (by rw [drop_list rfl]; exact hne) (by simp; omega) wr
      rw [drop_list rfl] at hf
      obtain ⟨c, n, hd⟩ : ∃ c n, Lib.decodeL (s.data.toList.drop k) = (c, n) := ⟨_, _, rfl⟩
      have HC := (show Hid _ from esc_eq hd)
      have HSm : Hid (c < 128 → n = 1 ∧ (s.data.toList.drop k).take 1 = [UInt8.ofNat c]) := fun h => dec_small hne hd h
      have HD : Hid (Lib.decodeL (s.data.toList.drop k) = (c, n)) := hd
      rw [hd] at hf hX hle hw
      simp only at hf hX hle hw
      have HX : Hid ((o.data.toList ++ esc (s.data.toList.drop k)) ++ quo (s.data.toList.drop (k + n)) = 34 :: quo s.data.toList) := hX
      have H1 : Hid (1 ≤ n ∧ n ≤ s.size - k) := ⟨hw, hle⟩
      have zk : (k : Int) < (s.size : Int) := by omega
      have zn : (k : Int) + (n : Int) ≤ (s.size : Int) := by omega
      have zn1 : (1 : Int) ≤ (n : Int) := by omega
      clear hd hX hst hw hle hlt hk hne
      by_cases k1 : c = 65533 ∧ n = 1
      · obtain ⟨rfl, rfl⟩ := k1
        have HV : Hid (esc (s.data.toList.drop k) = [92, 117, 102, 102, 102, 100]) := HC.out
        clear HC
        replace hf : Calls Tryz.prog 40 #[.string (s.extract k s.size)] wr fun e w' => e = .returned (.tuple #[.int .i32 65533, .int .i64 1]) ∧ Below wr.heap.size wr w' := hf
        go_wp2_with fail
        refine hf.mono ?_
        rintro e w1 ⟨rfl, hb1⟩
        have hB1 := hB.trans (hb1.mono hB.size)
        go_wp2
        go_roundw
        case rel =>
          refine ⟨k + 1, _, rfl, by go_num, by have := H1.out; omega, ?_, hB1⟩
          rw [append_list]
          have := HX.out
          rw [HV.out] at this
          exact this
        case measure => have := H1.out; simp [intOf]; omega
      · have HC2 := HC.out
        rw [if_neg k1] at HC2
        by_cases k2 : c = 65533
        · subst k2
          have en : ((n : Int) == 1) = false := by simp; omega
          have HV : Hid (esc (s.data.toList.drop k) = (s.data.toList.drop k).take n) := HC2
          replace hf : Calls Tryz.prog 40 #[.string (s.extract k s.size)] wr fun e w' => e = .returned (.tuple #[.int .i32 65533, .int .i64 (n : Int)]) ∧ Below wr.heap.size wr w' := hf
          clear HC HC2 k1
          have hsl := slice_mid s k n (by have := H1.out; have := HK.out; omega)
          have hml := mid_list (s := s) rfl k (k + n)
          rw [Nat.add_sub_cancel_left] at hml
          have hms : (s.extract k (k + n)).size ≤ 10000 := by simp; omega
          have HM : Hid ((s.extract k (k + n)).data.toList = (s.data.toList.drop k).take n) := hml
          clear hml
          go_wp2_with fail
          refine hf.mono ?_
          rintro e w1 ⟨rfl, hb1⟩
          have hB1 := hB.trans (hb1.mono hB.size)
          go_wp2
          go_roundw
          case rel =>
            refine ⟨k + n, o ++ s.extract k (k + n), rfl, by go_num, by have := H1.out; have := HK.out; omega, ?_, hB1⟩
            rw [append_list, HM.out]
            have := HX.out
            rw [HV.out] at this
            exact this
          case measure => have := H1.out; have := HK.out; simp [intOf]; omega
        · clear k1
          by_cases k8 : c = 8
          · subst k8
            have HV : Hid (esc (s.data.toList.drop k) = [92, 98]) := HC2
            replace hf : Calls Tryz.prog 40 #[.string (s.extract k s.size)] wr fun e w' => e = .returned (.tuple #[.int .i32 8, .int .i64 (n : Int)]) ∧ Below wr.heap.size wr w' := hf
            clear HC HC2
            go_wp2_with fail
            refine hf.mono ?_
            rintro e w1 ⟨rfl, hb1⟩
            have hB1 := hB.trans (hb1.mono hB.size)
            go_wp2
            go_roundw
            case rel =>
              refine ⟨k + n, _, rfl, by go_num, by have := H1.out; have := HK.out; omega, ?_, hB1⟩
              rw [append_list]
              have := HX.out
              rw [HV.out] at this
              exact this
            case measure => have := H1.out; have := HK.out; simp [intOf]; omega
          · rw [if_neg k8] at HC2
            by_cases k9 : c = 9
            · subst k9
              have HV : Hid (esc (s.data.toList.drop k) = [92, 116]) := HC2
              replace hf : Calls Tryz.prog 40 #[.string (s.extract k s.size)] wr fun e w' => e = .returned (.tuple #[.int .i32 9, .int .i64 (n : Int)]) ∧ Below wr.heap.size wr w' := hf
              clear HC HC2
              go_wp2_with fail
              refine hf.mono ?_
              rintro e w1 ⟨rfl, hb1⟩
              have hB1 := hB.trans (hb1.mono hB.size)
              go_wp2
              go_roundw
              case rel =>
                refine ⟨k + n, _, rfl, by go_num, by have := H1.out; have := HK.out; omega, ?_, hB1⟩
                rw [append_list]
                have := HX.out
                rw [HV.out] at this
                exact this
              case measure => have := H1.out; have := HK.out; simp [intOf]; omega
            · rw [if_neg k9] at HC2
              by_cases k10 : c = 10
              · subst k10
                have HV : Hid (esc (s.data.toList.drop k) = [92, 110]) := HC2
                replace hf : Calls Tryz.prog 40 #[.string (s.extract k s.size)] wr fun e w' => e = .returned (.tuple #[.int .i32 10, .int .i64 (n : Int)]) ∧ Below wr.heap.size wr w' := hf
                clear HC HC2
                go_wp2_with fail
                refine hf.mono ?_
                rintro e w1 ⟨rfl, hb1⟩
                have hB1 := hB.trans (hb1.mono hB.size)
                go_wp2
                go_roundw
                case rel =>
                  refine ⟨k + n, _, rfl, by go_num, by have := H1.out; have := HK.out; omega, ?_, hB1⟩
                  rw [append_list]
                  have := HX.out
                  rw [HV.out] at this
                  exact this
                case measure => have := H1.out; have := HK.out; simp [intOf]; omega
              · rw [if_neg k10] at HC2
                by_cases k12 : c = 12
                · subst k12
                  have HV : Hid (esc (s.data.toList.drop k) = [92, 102]) := HC2
                  replace hf : Calls Tryz.prog 40 #[.string (s.extract k s.size)] wr fun e w' => e = .returned (.tuple #[.int .i32 12, .int .i64 (n : Int)]) ∧ Below wr.heap.size wr w' := hf
                  clear HC HC2
                  go_wp2_with fail
                  refine hf.mono ?_
                  rintro e w1 ⟨rfl, hb1⟩
                  have hB1 := hB.trans (hb1.mono hB.size)
                  go_wp2
                  go_roundw
                  case rel =>
                    refine ⟨k + n, _, rfl, by go_num, by have := H1.out; have := HK.out; omega, ?_, hB1⟩
                    rw [append_list]
                    have := HX.out
                    rw [HV.out] at this
                    exact this
                  case measure => have := H1.out; have := HK.out; simp [intOf]; omega
                · rw [if_neg k12] at HC2
                  by_cases k13 : c = 13
                  · subst k13
                    have HV : Hid (esc (s.data.toList.drop k) = [92, 114]) := HC2
                    replace hf : Calls Tryz.prog 40 #[.string (s.extract k s.size)] wr fun e w' => e = .returned (.tuple #[.int .i32 13, .int .i64 (n : Int)]) ∧ Below wr.heap.size wr w' := hf
                    clear HC HC2
                    go_wp2_with fail
                    refine hf.mono ?_
                    rintro e w1 ⟨rfl, hb1⟩
                    have hB1 := hB.trans (hb1.mono hB.size)
                    go_wp2
                    go_roundw
                    case rel =>
                      refine ⟨k + n, _, rfl, by go_num, by have := H1.out; have := HK.out; omega, ?_, hB1⟩
                      rw [append_list]
                      have := HX.out
                      rw [HV.out] at this
                      exact this
                    case measure => have := H1.out; have := HK.out; simp [intOf]; omega
                  · rw [if_neg k13] at HC2
                    by_cases k32 : c < 32
                    · rw [if_pos k32] at HC2
                      have HV : Hid (esc (s.data.toList.drop k) = [92, 117, 48, 48, hexd (c / 16), hexd (c % 16)]) := HC2
                      obtain ⟨r, hr⟩ : ∃ r : Int, (c : Int) = r := ⟨_, rfl⟩
                      rw [hr] at hf
                      have f0 : (r == 65533) = false := by rw [← hr]; simp; omega
                      have f1 : r < 32 := by omega
                      have f2 : 0 ≤ r := by omega
                      have f4 : (r == 8) = false := by simp; omega
                      have f5 : (r == 9) = false := by simp; omega
                      have f6 : (r == 10) = false := by simp; omega
                      have f7 : (r == 12) = false := by simp; omega
                      have f8 : (r == 13) = false := by simp; omega
                      have HR : Hid ((c : Int) = r) := hr
                      obtain ⟨X1, hX1, hs1, hq1⟩ := slice_hex (r / 16) (by omega) (by omega)
                      obtain ⟨X2, hX2, hs2, hq2⟩ := slice_hex (r % 16) (by omega) (by omega)
                      have hz0 := small_add o ⟨#[92, 117, 48, 48]⟩ 70000 4 ho (by decide)
                      have hz1 := small_add _ X1 _ _ hz0 hs1
                      have hz2 := small_add _ X2 _ _ hz1 hs2
                      have HX1 : Hid (X1.data.toList = [hexd (c / 16)]) := by show _ = _; rw [hX1]; congr 2; omega
                      have HX2 : Hid (X2.data.toList = [hexd (c % 16)]) := by show _ = _; rw [hX2]; congr 2; omega
                      clear hX1 hX2
                      clear HC HC2 hr k2 k8 k9 k10 k12 k13 k32
                      go_wp2_with fail
                      refine hf.mono ?_
                      rintro e w1 ⟨rfl, hb1⟩
                      have hB1 := hB.trans (hb1.mono hB.size)
                      go_wp2
                      go_region
                      go_wp2
                      go_roundw
                      case rel =>
                        refine ⟨k + n, _, rfl, by go_num, by have := H1.out; have := HK.out; omega, ?_, hB1.drew⟩
                        rw [append_list, append_list, append_list, HX1.out, HX2.out]
                        have := HX.out
                        rw [HV.out] at this
                        rw [← this]
                        simp
                      case measure => have := H1.out; have := HK.out; simp [intOf]; omega
                    · rw [if_neg k32] at HC2
                      by_cases kq : c = 34 ∨ c = 92
                      · rw [if_pos kq] at HC2
                        have HV : Hid (esc (s.data.toList.drop k) = [92, UInt8.ofNat c]) := HC2
                        obtain ⟨en1, htk⟩ := HSm.out (by omega)
                        have hsl : ∀ W : World, (Instr.slice 9 (.string s) (some (.int .i64 (k : Int))) (some (.int .i64 ((k : Int) + 1))) none).run Tryz.prog W = .ok (.string (s.extract k (k + 1))) W := slice_mid s k 1 (by have := H1.out; have := HK.out; omega)
                        have hml := mid_list (s := s) rfl k (k + 1)
                        rw [Nat.add_sub_cancel_left, htk] at hml
                        have hms : (s.extract k (k + 1)).size ≤ 1 := by rw [size_list hml]; simp
                        have HM : Hid ((s.extract k (k + 1)).data.toList = [UInt8.ofNat c]) := hml
                        have hz0 := small_add o ⟨#[92]⟩ 70000 1 ho (by decide)
                        obtain ⟨r, hr⟩ : ∃ r : Int, (c : Int) = r := ⟨_, rfl⟩
                        rw [hr] at hf
                        have hr2 : r = 34 ∨ r = 92 := by omega
                        generalize s.extract k (k + 1) = X at *
                        clear HC HC2 hr k2 k8 k9 k10 k12 k13 k32 kq hml htk en1
                        rcases hr2 with rfl | rfl
                        · go_wp2_with fail
                          refine hf.mono ?_
                          rintro e w1 ⟨rfl, hb1⟩
                          have hB1 := hB.trans (hb1.mono hB.size)
                          go_wp2
                          go_roundw
                          case rel =>
                            refine ⟨k + n, _, rfl, by go_num, by have := H1.out; have := HK.out; omega, ?_, hB1⟩
                            rw [append_list, append_list, HM.out]
                            have := HX.out
                            rw [HV.out] at this
                            rw [← this]
                            simp
                          case measure => have := H1.out; have := HK.out; simp [intOf]; omega
                        · go_wp2_with fail
                          refine hf.mono ?_
                          rintro e w1 ⟨rfl, hb1⟩
                          have hB1 := hB.trans (hb1.mono hB.size)
                          go_wp2
                          go_roundw
                          case rel =>
                            refine ⟨k + n, _, rfl, by go_num, by have := H1.out; have := HK.out; omega, ?_, hB1⟩
                            rw [append_list, append_list, HM.out]
                            have := HX.out
                            rw [HV.out] at this
                            rw [← this]
                            simp
                          case measure => have := H1.out; have := HK.out; simp [intOf]; omega
                      · rw [if_neg kq] at HC2
                        have HV : Hid (esc (s.data.toList.drop k) = (s.data.toList.drop k).take n) := HC2
                        obtain ⟨r, hr⟩ : ∃ r : Int, (c : Int) = r := ⟨_, rfl⟩
                        rw [hr] at hf
                        have f0 : (r == 65533) = false := by rw [← hr]; simp; omega
                        have f1 : ¬ r < 32 := by omega
                        have f2 : (r == 34) = false := by simp; omega
                        have f3 : (r == 92) = false := by simp; omega
                        have f4 : (r == 8) = false := by simp; omega
                        have f5 : (r == 9) = false := by simp; omega
                        have f6 : (r == 10) = false := by simp; omega
                        have f7 : (r == 12) = false := by simp; omega
                        have f8 : (r == 13) = false := by simp; omega
                        clear HC HC2 hr k2 k8 k9 k10 k12 k13 k32 kq
                        have hsl := slice_mid s k n (by have := H1.out; have := HK.out; omega)
                        have hml := mid_list (s := s) rfl k (k + n)
                        rw [Nat.add_sub_cancel_left] at hml
                        have hms : (s.extract k (k + n)).size ≤ 10000 := by simp; omega
                        have HM : Hid ((s.extract k (k + n)).data.toList = (s.data.toList.drop k).take n) := hml
                        clear hml
                        go_wp2_with fail
                        refine hf.mono ?_
                        rintro e w1 ⟨rfl, hb1⟩
                        have hB1 := hB.trans (hb1.mono hB.size)
                        go_wp2
                        go_roundw
                        case rel =>
                          refine ⟨k + n, o ++ s.extract k (k + n), rfl, by go_num, by have := H1.out; have := HK.out; omega, ?_, hB1⟩
                          rw [append_list, HM.out]
                          have := HX.out
                          rw [HV.out] at this
                          exact this
                        case measure => have := H1.out; have := HK.out; simp [intOf]; omega
    · have ek : k = s.size := by omega
      have zk : ¬ (k : Int) < (s.size : Int) := by omega
      have HD : Hid (s.data.toList.drop k = []) := List.drop_of_length_le (by rw [← size_list rfl]; omega)
      clear ek hlt hk
      go_wp2
      go_ret
      refine ⟨?_, hB⟩
      have := HE.out
      rw [HD.out, quo_nil, List.append_nil] at this
      show Ending.returned (.string (o ++ ⟨#[34]⟩)) = _
      have e : o ++ (⟨#[34]⟩ : ByteArray) = ⟨(quoteL s.data.toList).toArray⟩ := by
        apply ByteArray.ext
        apply Array.ext'
        rw [append_list, this]
        simp [quoteL]
      rw [e]
end Go.Proofs.YtnkoblhdbccbeaaGreatDoor
