/-
  The program's reader of JSON: numbers, whole. Conditions: as stated (texts of at most 4096 bytes).
-/
import Derived.Test.YtdcaohnaiepllaaGreatDoorJR4
namespace Go.Proofs.YtdcaohnaiepllaaGreatDoor
open Go.RowKit Go.Extern.Stop Go.Stop Go.Extern

theorem ParseInt_ok (t : ByteArray) (ht : t.size ≤ 4096) (v : Int) (h : Lib.parseIntB 64 t.data.toList = .ok v) (w : World) :
    Calls Tryz.prog 63 #[.string t, .int .i64 10, .int .i64 64] w fun e w' => e = .returned (.tuple #[.int .i64 v, .nilIface]) ∧ Below w.heap.size w w' := by
  refine (Tryz.strconv_ParseInt_10_at64_ok t (by omega) v h w).mono ?_
  rintro e w' ⟨rfl, hw⟩
  refine ⟨rfl, ?_⟩
  rcases hw with rfl | ⟨t, rfl⟩
  · exact Below.refl _ _
  · exact Lib.bytesWorld_below _ _ _
theorem ParseInt_no (t : ByteArray) (ht : t.size ≤ 4096) (h : ∀ v, Lib.parseIntB 64 t.data.toList ≠ .ok v) (w : World) (hE : JEnv w) :
    Calls Tryz.prog 63 #[.string t, .int .i64 10, .int .i64 64] w fun e w' => ∃ m N, e = .returned (.tuple #[.int .i64 m, .iface 172 (.pointer (some ⟨N, 0, none⟩))]) ∧ Below w.heap.size w w' := by
  cases hp : Lib.parseIntB 64 t.data.toList with
  | ok v => exact absurd hp (h v)
  | «syntax» =>
    obtain ⟨ev, h1, h2⟩ := hE.syn
    refine (Tryz.strconv_ParseInt_10_at64_syntax t (by omega) hp ev w h1 h2).mono ?_
    rintro e w' ⟨N, rfl, _, _, hb⟩
    exact ⟨_, N, rfl, hb⟩
  | range =>
    obtain ⟨ev, h1, h2⟩ := hE.range
    refine (Tryz.strconv_ParseInt_10_at64_range t (by omega) hp ev w h1 h2).mono ?_
    rintro e w' ⟨N, rfl, _, _, hb⟩
    exact ⟨_, N, rfl, hb⟩

set_option maxHeartbeats 4000000 in
theorem number_any {w0 w : World} {b k : Nat} {s : ByteArray} (R : Rd w0 b s k w) :
    Calls Tryz.prog 33 #[.pointer (some ⟨b, 0, none⟩)] w (Ans w0 b s 0 w (numP (s.data.toList.drop k))) := by
  have hB : Below w.heap.size w (w.alloc (.cells #[.int .i64 0, .int .i64 0, .string ⟨#[]⟩, .slice none 0 0, .slice none 0 0] 31)) := (Below.refl _ _).alloc (Nat.le_refl _) _
  have R1 := R.same hB
  obtain ⟨RR, hRR⟩ : ∃ r, numP (s.data.toList.drop k) = r := ⟨_, rfl⟩
  rw [hRR]
  obtain ⟨p, hp⟩ : ∃ p, decide (hd (s.data.toList.drop k) = (45 : UInt8).toNat) = p := ⟨_, rfl⟩
  have htk := take_at R1 45 (by decide) hp
  have hsg : p.toNat = sgn (s.data.toList.drop k) := by
    unfold sgn
    cases p
    · exact (if_neg (show ¬ hd (s.data.toList.drop k) = 45 from of_decide_eq_false hp)).symm
    · exact (if_pos (show hd (s.data.toList.drop k) = 45 from of_decide_eq_true hp)).symm
  have HW := (show Hid _ from And.intro hsg hRR)
  have HR0 := (show Hid _ from R)
  obtain ⟨c0, c1, cf, hb⟩ := R1.cells
  have hne0 : b ≠ w.heap.size := by have := lt_of_heap R.rd; omega
  clear hRR hp R R1 hB hsg
  go_enter Tryz.func33, Tryz.ntmps33
  go_wp2_with fail
  refine htk.mono ?_
  rintro e w1 ⟨rfl, K1, R1⟩
  have hdg := digits_any R1
  obtain ⟨dd, hdd⟩ : ∃ d, digN (s.data.toList.drop (k + p.toNat)) = d := ⟨_, rfl⟩
  rw [hdd] at hdg
  have HD := (show Hid _ from hdd)
  have HK1 := (show Hid _ from K1)
  clear htk hdd c0 c1 cf hb K1 hne0 R1
  go_wp2_with fail
  refine hdg.mono ?_
  rintro e w2 ⟨K2, h2⟩
  obtain ⟨r2, K2', hne, hle⟩ := wordRow HR0.out (HK1.out.trans K2)
  clear hdg K2
  cases dd with
  | none =>
    obtain ⟨rfl, k2, R2⟩ := h2
    have hwr := wrongV_any R2 1 rfl
    go_wp2_with fail
    refine hwr.mono ?_
    rintro e w3 ⟨x, rfl, hx, hb3⟩
    obtain ⟨r3, K3'⟩ := wordRow2 K2' r2 (Kept.of_below hb3) hne
    obtain ⟨j0, j1, j2, j3, j4, jf⟩ := row5 r3
    obtain ⟨u, z, rfl⟩ := hx.iface
    have HX := (show Hid _ from And.intro hx (And.intro K3' r3))
    clear hx K3' r3 K2' r2 R2 hb3 hwr
    go_wp2
    obtain ⟨hx, K3', r3⟩ := HX.out
    obtain ⟨hsg, hr⟩ := HW.out
    refine bodyPost_ret (v := .tuple #[zeroA, .iface u z]) (by simp [results, Tryz.results33, go_sem, j0, j1, j2, j3, j4]) rfl (Ans.err hx K3' r3 ?_ 0 1 2 3 4 _ _ _ _ _)
    rw [← hr]
    unfold numP
    rw [← hsg, List.drop_drop, HD.out]
  | some n =>
    obtain ⟨rfl, R2⟩ := h2
    have hval : numP (s.data.toList.drop k) = numEnd (s.data.toList.drop k) (p.toNat + n) := by
      unfold numP
      rw [← HW.out.1, List.drop_drop, HD.out]
    obtain ⟨c, hc⟩ : ∃ c : Int, ((hd (s.data.toList.drop (k + p.toNat + n)) : Nat) : Int) = c := ⟨_, rfl⟩
    have hpk := peek_any R2 hc
    have hc' : ((hd ((s.data.toList.drop k).drop (p.toNat + n)) : Nat) : Int) = c := by rw [List.drop_drop, ← Nat.add_assoc]; exact hc
    have HV := (show Hid _ from And.intro hval hc')
    clear hval hc hc'
    go_wp2_with fail
    refine hpk.mono ?_
    rintro e w3 ⟨rfl, hb3⟩
    obtain ⟨r3, K3'⟩ := wordRow2 K2' r2 (Kept.of_below hb3) hne
    have R3 := R2.same hb3
    clear K2' r2 R2 hb3 hpk
    by_cases hcc : c = 46 ∨ c = 101 ∨ c = 69
    · have hwr := wrongV_any R3 4 rfl
      have HC := (show Hid _ from hcc)
      rcases hcc with rfl | rfl | rfl
      all_goals
        go_wp2_with fail
        refine hwr.mono ?_
        rintro e w4 ⟨x, rfl, hx, hb4⟩
        obtain ⟨r4, K4'⟩ := wordRow2 K3' r3 (Kept.of_below hb4) hne
        obtain ⟨j0, j1, j2, j3, j4, jf⟩ := row5 r4
        obtain ⟨u, z, rfl⟩ := hx.iface
        have HX := (show Hid _ from And.intro hx (And.intro K4' r4))
        clear hx K4' r4 K3' r3 R3 hb4 hwr
        go_wp2
        obtain ⟨hx, K4', r4⟩ := HX.out
        obtain ⟨hsg, hr⟩ := HW.out
        refine bodyPost_ret (v := .tuple #[zeroA, .iface u z]) (by simp [results, Tryz.results33, go_sem, j0, j1, j2, j3, j4]) rfl (Ans.err hx K4' r4 ?_ 0 1 2 3 4 _ _ _ _ _)
        rw [← hr, HV.out.1]
        unfold numEnd
        exact if_pos (by have := HV.out.2; have := HC.out; omega)
    · have e46 : (c == 46) = false := by simp; omega
      have e101 : (c == 101) = false := by simp; omega
      have e69 : (c == 69) = false := by simp; omega
      have hnum : numP (s.data.toList.drop k) = match Lib.parseIntB 64 ((s.data.toList.drop k).take (p.toNat + n)) with | .ok v => .ok (intV v, (s.data.toList.drop k).drop (p.toNat + n)) | _ => .error 4 := by
        rw [HV.out.1]
        unfold numEnd
        exact if_neg (by have := HV.out.2; omega)
      have hk3 := R3.hk
      have hs3 := R3.hs
      obtain ⟨k3, hk3e⟩ : ∃ k3, k + p.toNat + n = k3 := ⟨_, rfl⟩
      rw [hk3e] at R3 hk3
      have hct := cut_list (s := s) rfl k k3
      rw [show k3 - k = p.toNat + n by omega] at hct
      have hz : (s.extract k k3).size ≤ 4096 := by rw [size_list hct, List.length_take, List.length_drop, ← size_list (s := s) rfl]; omega
      rw [← hct] at hnum
      obtain ⟨d0, d1, df, hdb⟩ := R3.cells
      have z0 : (0 : Int) ≤ (k : Int) := by omega
      have z1 : (k : Int) ≤ (k3 : Int) := by omega
      have z2 : (k3 : Int) ≤ (s.size : Int) := by omega
      have hdr : (s.data.toList.drop k).drop (p.toNat + n) = s.data.toList.drop k3 := by rw [List.drop_drop, ← Nat.add_assoc, hk3e]
      have HN := (show Hid _ from And.intro hnum hdr)
      have HX := (show Hid _ from And.intro R3 (And.intro K3' (And.intro r3 (And.intro hne hle))))
      clear hnum hct hk3 hs3 hk3e hdr hcc
      by_cases hok : ∃ v, Lib.parseIntB 64 (s.extract k k3).data.toList = .ok v
      · obtain ⟨v, hv⟩ := hok
        have hpi := fun W (_ : Below w3.heap.size w3 W) => ParseInt_ok _ hz v hv W
        have HVV := (show Hid _ from hv)
        clear hz hv R3 K3' r3 hne hle
        go_wp2_with fail
        go_region_with (go_at_call 63; refine (hpi _ (Below.refl _ _).drew).mono ?_; rintro e w' ⟨rfl, hb'⟩; have HB := (show Hid _ from hb'); clear hb')
        all_goals
          have hb4 : Below w3.heap.size w3 w' := undrew HB.out
          obtain ⟨R3, K3', r3, hne, hle⟩ := HX.out
          obtain ⟨r4, K4'⟩ := wordRow2 K3' r3 (Kept.of_below hb4) hne
          have R4 := R3.same hb4
          obtain ⟨j0, j1, j2, j3, j4, jf⟩ := row5 r4
          have HY := (show Hid _ from And.intro R4 (And.intro K4' (And.intro hne hle)))
          clear R3 K3' r3 hne hle hb4 r4 K4' R4 hpi d0 d1 df hdb
          go_wp2
          obtain ⟨R4, K4', hne, hle⟩ := HY.out
          refine bodyPost_ret (v := .tuple #[.agg #[.int .i64 2, .int .i64 v, .string ⟨#[]⟩, .slice none 0 0, .slice none 0 0], .nilIface]) (by simp [results, Tryz.results33, go_sem, j0, j1, j2, j3, j4]) rfl (Ans.leaf R4 K4' hne hle 2 v ⟨#[]⟩ ?_ 0 1 2 3 4 _ _ _ _ _)
          rw [← HW.out.2, HN.out.1, HVV.out, HN.out.2]
          rfl
      · have hno : ∀ v, Lib.parseIntB 64 (s.extract k k3).data.toList ≠ .ok v := fun v h => hok ⟨v, h⟩
        have hpi := fun W (hW : Below w3.heap.size w3 W) => ParseInt_no _ hz hno W (R3.now.below hW)
        have HVV := (show Hid _ from hno)
        clear hz hok hno R3 K3' r3 hne hle
        go_wp2_with fail
        go_region_with (go_at_call 63; refine (hpi _ (Below.refl _ _).drew).mono ?_; rintro e w' ⟨m, N, rfl, hb'⟩; have HB := (show Hid _ from hb'); clear hb')
        all_goals
          have hb4 : Below w3.heap.size w3 w' := undrew HB.out
          obtain ⟨R3, K3', r3, hne, hle⟩ := HX.out
          obtain ⟨r4, K4'⟩ := wordRow2 K3' r3 (Kept.of_below hb4) hne
          have R4 := R3.same hb4
          have hwr := wrongV_any R4 4 rfl
          clear R3 K3' r3 hle hb4 hpi d0 d1 df hdb
          go_wp2_with fail
          refine hwr.mono ?_
          rintro e w5 ⟨x, rfl, hx, hb5⟩
          obtain ⟨r5, K5'⟩ := wordRow2 K4' r4 (Kept.of_below hb5) hne
          obtain ⟨j0, j1, j2, j3, j4, jf⟩ := row5 r5
          obtain ⟨u, z, rfl⟩ := hx.iface
          have HZ := (show Hid _ from And.intro hx (And.intro K5' r5))
          clear hx K5' r5 K4' r4 R4 hb5 hwr hne
          go_wp2
          obtain ⟨hx, K5', r5⟩ := HZ.out
          refine bodyPost_ret (v := .tuple #[zeroA, .iface u z]) (by simp [results, Tryz.results33, go_sem, j0, j1, j2, j3, j4]) rfl (Ans.err hx K5' r5 ?_ 0 1 2 3 4 _ _ _ _ _)
          rw [← HW.out.2, HN.out.1]
          split
          · rename_i v hv
            exact absurd hv (HVV.out v)
          · rfl
end Go.Proofs.YtdcaohnaiepllaaGreatDoor
