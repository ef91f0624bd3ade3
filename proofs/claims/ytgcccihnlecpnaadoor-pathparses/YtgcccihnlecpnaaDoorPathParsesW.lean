/-
  PathParses' walk. No conditions beyond those stated.
-/
import Derived.Test.YtgcccihnlecpnaaDoorPMend
import Derived.Test.YtgcccihnlecpnaaDoorPStrs
import Derived.Test.YtgcccihnlecpnaaDoorPAw
namespace Go.Proofs.YtgcccihnlecpnaaDoor
open Go.RowKit

theorem psl_one (s : ByteArray) (k : Nat) (h : k + 1 ≤ s.size) (W : World) : (Instr.slice 9 (.string s) (some (.int .i64 (k : Int))) (some (.int .i64 ((k : Int) + 1))) none).run Tryd.prog W = .ok (.string (s.extract k (k + 1))) W := by
  rw [run_slice_string (P := Tryd.prog) W 9 s .i64 .i64 _ _ Tryd.underlying9 (by omega) (by omega) (by omega)]
  have e1 : ((k : Int)).toNat = k := by omega
  have e2 : ((k : Int) + 1).toNat = k + 1 := by omega
  rw [e1, e2]
theorem ext_one (s : ByteArray) (k : Nat) (h : k < s.size) : (s.extract k (k + 1)).data.toList = [s[k]] := by
  have e : (s.extract k (k + 1)).data.toList = (s.data.toList.drop k).take 1 := by
    rw [ByteArray.data_extract, Array.toList_extract, List.extract_eq_take_drop, Nat.add_sub_cancel_left]
  have hl : k < s.data.toList.length := h
  rw [e, List.drop_eq_getElem_cons hl]
  rfl
theorem app_data (a b : ByteArray) : (a ++ b).data.toList = a.data.toList ++ b.data.toList := by simp
/-- whether one of those that are done is no part. -/
def badB (ps : List ByteArray) : Bool := ps.any fun p => !decide (goodPart p)
theorem bad_snoc (ps : List ByteArray) (p : ByteArray) : badB (ps ++ [p]) = (badB ps || !decide (goodPart p)) := by
  unfold badB; rw [List.any_append]; simp
theorem bad_none {ps : List ByteArray} (h : badB ps = false) : ∀ p ∈ ps, goodPart p := by
  intro p hp
  unfold badB at h
  rw [List.any_eq_false] at h
  by_cases hg : goodPart p
  · exact hg
  · exact absurd (by rw [decide_eq_false hg]; rfl) (h p hp)
theorem bad_some {ps : List ByteArray} (h : badB ps = true) : ¬ ∀ p ∈ ps, goodPart p := by
  intro hh
  unfold badB at h
  rw [List.any_eq_true] at h
  obtain ⟨p, hp, hg⟩ := h
  rw [decide_eq_true (hh p hp)] at hg
  cases hg
/-- how far the law's loop has come. -/
structure Cuts (L : List UInt8) (done : List ByteArray) (P : ByteArray) (k : Nat) : Prop where
  at_ : k ≤ L.length → dotG [] L = done.map (·.data.toList) ++ dotG P.data.toList (L.drop k)
  end_ : L.length < k → dotG [] L = done.map (·.data.toList)
  size : P.size ≤ k
  len : done.length ≤ k
theorem Cuts.start (L : List UInt8) : Cuts L [] ⟨#[]⟩ 0 := ⟨fun _ => rfl, fun h => absurd h (by omega), Nat.le_refl _, Nat.zero_le _⟩
theorem Cuts.char {s : ByteArray} {done : List ByteArray} {P : ByteArray} {k : Nat} (h : Cuts s.data.toList done P k) (hk : k < s.size) (hc : s[k] ≠ 46) : Cuts s.data.toList done (P ++ s.extract k (k + 1)) (k + 1) := by
  have hl : k < s.data.toList.length := hk
  refine ⟨fun _ => ?_, fun h => ?_, ?_, by have := h.len; omega⟩
  · rw [h.at_ (by omega), List.drop_eq_getElem_cons hl]
    show _ ++ dotG _ (s[k] :: _) = _
    rw [dotG, if_neg hc, app_data, ext_one s k hk]
  · omega
  · have e := congrArg List.length (ext_one s k hk)
    have e2 : (s.extract k (k + 1)).size = 1 := e
    rw [ByteArray.size_append, e2]; have := h.size; omega
theorem Cuts.dot {s : ByteArray} {done : List ByteArray} {P : ByteArray} {k : Nat} (h : Cuts s.data.toList done P k) (hk : k < s.size) (hc : s[k] = 46) : Cuts s.data.toList (done ++ [P]) ⟨#[]⟩ (k + 1) := by
  have hl : k < s.data.toList.length := hk
  refine ⟨fun _ => ?_, fun h => ?_, Nat.zero_le _, by have := h.len; rw [List.length_append]; simp; omega⟩
  · rw [h.at_ (by omega), List.drop_eq_getElem_cons hl]
    show _ ++ dotG _ (s[k] :: _) = _
    rw [dotG, if_pos hc, List.map_append]
    simp
  · omega
theorem Cuts.last {s : ByteArray} {done : List ByteArray} {P : ByteArray} {k : Nat} (h : Cuts s.data.toList done P k) (hk : k = s.size) : Cuts s.data.toList (done ++ [P]) ⟨#[]⟩ (k + 1) := by
  have hl : s.data.toList.length = s.size := rfl
  refine ⟨fun h => by omega, fun _ => ?_, Nat.zero_le _, by have := h.len; rw [List.length_append]; simp; omega⟩
  rw [h.at_ (by omega), List.drop_of_length_le (by omega), List.map_append]
  simp [dotG]
theorem Cuts.all {s : ByteArray} {done : List ByteArray} {P : ByteArray} {k : Nat} (h : Cuts s.data.toList done P k) (hk : s.size < k) : dots s = done := by
  unfold dots
  rw [h.end_ hk, List.map_map]
  have e : (mkB ∘ fun b : ByteArray => b.data.toList) = id := by funext b; exact mkB_data b
  rw [e, List.map_id]

set_option maxRecDepth 100000 in
set_option maxHeartbeats 8000000 in
theorem PathParses_walk (s0 : ByteArray) (_ : s0.size ≤ maxLen) (w : World) (hE : PEnv w) :
    Calls Tryd.prog 3 #[.string s0] w fun e w' => e = .returned (.bool true) ∧ Below w.heap.size w w' := by
  have haw := awake_true w hE
  have m0 : 0 ≤ min (s0.size : Int) 400 := by omega
  have m1 : min (s0.size : Int) 400 ≤ (s0.size : Int) := by omega
  have hz : (s0.extract 0 (min (s0.size : Int) 400).toNat).size ≤ 400 := by simp; omega
  have HE := (show Hid _ from hE)
  clear hE
  go_enter Tryd.func3, Tryd.ntmps3
  go_wp2_with fail
  refine haw.mono ?_
  rintro e w1 ⟨rfl, hB1⟩
  have HB1 := (show Hid _ from hB1)
  clear haw hB1
  go_wp2_with fail
  generalize s0.extract 0 (min (s0.size : Int) 400).toNat = s at *
  go_loopg [3, 4, 5, 6] (s.size + 1) (fun gg sv pv bv i wr => ∃ (k : Nat) (done : List ByteArray) (P : ByteArray), k ≤ s.size + 1 ∧ s.size + 1 - k ≤ gg ∧ i = .int .i64 k ∧ pv = .string P ∧ bv = .bool (badB done) ∧ Aside (OwS w1 sv done wr ∧ Cuts s.data.toList done P k))
  case atStart => exact ⟨0, [], ⟨#[]⟩, Nat.zero_le _, by omega, rfl, rfl, rfl, OwS.nil (Below.refl _ _), Cuts.start _⟩
  case round =>
    rename_i sv _ _ _
    obtain ⟨k, done, P, hk, hgg, rfl, rfl, rfl, A⟩ := hrel
    obtain ⟨hO, hC⟩ := A.out
    have hPz := hC.size
    have hdl := hC.len
    have HO := (show Hid _ from hO)
    by_cases hks : k = s.size + 1
    · obtain ⟨wa, wc, rfl, hw1, hw2, hwc⟩ := hO.strs
      have hall := hC.all (by omega)
      have zk : ¬ (k : Int) ≤ (s.size : Int) := by omega
      have hBw : Below w.heap.size w wr := HB1.out.trans (hO.below.mono HB1.out.size)
      have hparse := Parse6_any s wr (HE.out.below hBw) (by omega)
      have hd400 : done.length ≤ 401 := by omega
      have HX := (show Hid _ from And.intro hBw (And.intro hwc hall))
      clear hO hC HO hall hwc hBw hks
      rcases hbd : badB done with _ | _
      · by_cases h8 : 8 < done.length
        · have z8 : (8 : Int) < (done.length : Int) := by omega
          have hno : parsePP s = none := parse_bad fun hh => by have := hh.2.1; rw [HX.out.2.2] at this; omega
          rw [hno] at hparse
          clear hbd hno
          go_wp2_with fail
          refine hparse.mono ?_
          rintro e w2 ⟨hb2, ue, ze, rfl, hflt⟩
          have hcode := hflt.code ((HE.out.below HX.out.1).below hb2)
          have HC := (show Hid _ from HX.out.1.trans (hb2.mono HX.out.1.size))
          clear hb2 hflt
          go_wp2_with fail
          refine hcode.mono ?_
          rintro e w3 ⟨rfl, hb3⟩
          go_wp2_with fail
          go_ret
          exact ⟨rfl, HC.out.trans (hb3.mono HC.out.size)⟩
        · have z8 : ¬ (8 : Int) < (done.length : Int) := by omega
          have hcmp : ((⟨(mend s.data.toList).toArray⟩ : ByteArray).toList == s.toList) = Lib.validD s.data.toList := by
            rw [ByteArray.toList_eq, ByteArray.toList_eq, valid_iff_mend]
            show ((mend s.data.toList).toArray.toList == s.data.toList) = _
            rw [Bool.eq_iff_iff, beq_iff_eq, decide_eq_true_iff]
          by_cases hv : Lib.validD s.data.toList = true
          · rw [hv] at hcmp
            have hyes : parsePP s = some done := by
              rw [← HX.out.2.2]
              refine parse_good ⟨hv, by rw [HX.out.2.2]; omega, ?_⟩
              rw [HX.out.2.2]
              exact bad_none hbd
            rw [hyes] at hparse
            clear hbd hyes hv
            go_wp2_with fail
            refine hparse.mono ?_
            rintro e w2 ⟨hb2, lv, rfl, hst⟩
            obtain ⟨la, lc, rfl, hl1, hl2, hlc⟩ := hst
            have hmend := Mend_any s (by omega) w2
            generalize (⟨(mend s.data.toList).toArray⟩ : ByteArray) = M at *
            have HY := (show Hid _ from And.intro hb2 hlc)
            clear hparse hlc hb2
            go_wp2_with fail
            refine hmend.mono ?_
            rintro e w3 ⟨rfl, hb3⟩
            have HZ := (show Hid _ from hb3)
            clear hmend hb3
            go_wp2_with fail
            go_loopg [9, 90] done.length (fun gg _ i wy => ∃ j : Nat, j ≤ done.length ∧ done.length - j ≤ gg ∧ i = .int .i64 j ∧ Aside (Below w3.heap.size w3 wy))
            case atStart => exact ⟨0, Nat.zero_le _, by omega, rfl, Below.refl _ _⟩
            case round =>
              obtain ⟨j, hj, hjg, rfl, B⟩ := hrel
              by_cases hjl : j < done.length
              · obtain ⟨u, hu⟩ : ∃ u, done[j]? = some u := ⟨_, List.getElem?_eq_getElem hjl⟩
                obtain ⟨hb2, hlc⟩ := HY.out
                obtain ⟨hBw, hwc, -⟩ := HX.out
                obtain ⟨lb, lo, rfl, hlcell⟩ := hlc (fun e => by rw [e] at hjl; simp at hjl)
                obtain ⟨wb, wo, rfl, hwcell⟩ := hwc (fun e => by rw [e] at hjl; simp at hjl)
                have d0 := hlcell j u hu
                have d1 := hwcell j u hu
                have hb23 := HZ.out
                have d0' := (B.out.cell (lt_of_cell ((hb23.cell (lt_of_cell d0)).trans d0))).trans ((hb23.cell (lt_of_cell d0)).trans d0)
                have d1a := (hb2.cell (lt_of_cell d1)).trans d1
                have d1b := (hb23.cell (lt_of_cell d1a)).trans d1a
                have d1' := (B.out.cell (lt_of_cell d1b)).trans d1b
                have D0 := below_regrown_cell d0'
                have D1 := below_regrown_cell d1'
                have zj : (j : Int) < (done.length : Int) := by omega
                have zj0 : (0 : Int) ≤ (j : Int) := by omega
                clear hb2 hlc hBw hwc hlcell hwcell d0 d1 hb23 d1a d1b d0' d1' hu
                go_wp2_with fail
                refine wp_region_quiet_below mixed (by kernel_rfl) ?_
                iterate 9 go_big_quiet_step (fail)
                refine wpQuiet_nil ?_
                rintro w5 ⟨⟨dq, osq⟩, hw5⟩
                have hb5 : Below wr.heap.size wr w5 := by rw [hw5]; exact below_regrown wr dq osq
                have HB5 := (show Hid _ from hb5)
                clear hw5 hb5 D0 D1
                go_wp2_with fail
                go_roundg (done.length - (j + 1))
                case measure => omega
                case rel => exact ⟨j + 1, by omega, by omega, by go_num, (show Aside _ from B.out.trans (HB5.out.mono B.out.size))⟩
              · have zj : ¬ (j : Int) < (done.length : Int) := by omega
                go_wp2_with fail
                go_ret
                have hX := HX.out.1.trans (HY.out.1.mono HX.out.1.size)
                have hX3 := hX.trans (HZ.out.mono hX.size)
                exact ⟨rfl, hX3.trans (B.out.mono hX3.size)⟩
          · have hv' : Lib.validD s.data.toList = false := by simpa using hv
            rw [hv'] at hcmp
            have hno : parsePP s = none := parse_bad fun hh => hv hh.1
            rw [hno] at hparse
            clear hbd hno hv hv'
            go_wp2_with fail
            refine hparse.mono ?_
            rintro e w2' ⟨hb2, ue, ze, rfl, hflt⟩
            have hmend := Mend_any s (by omega) w2'
            generalize (⟨(mend s.data.toList).toArray⟩ : ByteArray) = M at *
            have HQ := (show Hid _ from And.intro hb2 hflt)
            clear hparse hb2 hflt
            go_wp2_with fail
            refine hmend.mono ?_
            rintro e w2 ⟨rfl, hbm⟩
            have hb2 := HQ.out.1.trans (hbm.mono HQ.out.1.size)
            have hflt := HQ.out.2.below hbm
            clear hmend hbm
            have hcode := hflt.code ((HE.out.below HX.out.1).below hb2)
            have HC := (show Hid _ from HX.out.1.trans (hb2.mono HX.out.1.size))
            clear hb2 hflt
            go_wp2_with fail
            refine hcode.mono ?_
            rintro e w3 ⟨rfl, hb3⟩
            go_wp2_with fail
            go_ret
            exact ⟨rfl, HC.out.trans (hb3.mono HC.out.size)⟩
      · have hno : parsePP s = none := parse_bad fun hh => bad_some hbd (by have := hh.2.2; rw [HX.out.2.2] at this; exact this)
        rw [hno] at hparse
        clear hbd hno
        go_wp2_with fail
        refine hparse.mono ?_
        rintro e w2 ⟨hb2, ue, ze, rfl, hflt⟩
        have hcode := hflt.code ((HE.out.below HX.out.1).below hb2)
        have HC := (show Hid _ from HX.out.1.trans (hb2.mono HX.out.1.size))
        clear hb2 hflt
        go_wp2_with fail
        refine hcode.mono ?_
        rintro e w3 ⟨rfl, hb3⟩
        go_wp2_with fail
        go_ret
        exact ⟨rfl, HC.out.trans (hb3.mono HC.out.size)⟩
    · have zle : (k : Int) ≤ (s.size : Int) := by omega
      by_cases hlt : k < s.size
      · have zk : (k : Int) < (s.size : Int) := by omega
        have zk0 : (0 : Int) ≤ (k : Int) := by omega
        by_cases hc : s[k] = 46
        · have h46 : ((s[k].toNat : Int) != 46) = false := by rw [hc]; rfl
          have HC2 := (show Hid _ from hC.dot hlt hc)
          clear hO hC hc hks
          rcases hbd : badB done with _ | _
          · by_cases hz0 : P.size = 0
            · obtain ⟨g1, g2⟩ := none_size hz0
              have HBB := (show Hid (badB (done ++ [P]) = true) from by rw [bad_snoc, hbd, decide_eq_false (by intro hh; have := hh.1; omega)]; rfl)
              go_wp2_with (first | (at_builtin; refine append_str rfl (.tmp 50) (.tmp 52) rfl HO.out P rfl _ rfl rfl (by omega) ?_; intro s1 u1 h1; have H1 := (show Hid _ from h1); clear h1))
              go_roundg (s.size + 1 - (k + 1))
              case measure => omega
              case rel => exact ⟨k + 1, done ++ [P], ⟨#[]⟩, by omega, by omega, by go_num, rfl, by rw [HBB.out], (show Aside _ from And.intro H1.out HC2.out)⟩
            · obtain ⟨g1, g2⟩ := some_size hz0
              by_cases hz3 : 32 < P.size
              · have g3 : (32 : Int) < (P.size : Int) := by omega
                have HBB := (show Hid (badB (done ++ [P]) = true) from by rw [bad_snoc, hbd, decide_eq_false (by intro hh; have := hh.2; omega)]; rfl)
                go_wp2_with (first | (at_builtin; refine append_str rfl (.tmp 50) (.tmp 52) rfl HO.out P rfl _ rfl rfl (by omega) ?_; intro s1 u1 h1; have H1 := (show Hid _ from h1); clear h1))
                go_roundg (s.size + 1 - (k + 1))
                case measure => omega
                case rel => exact ⟨k + 1, done ++ [P], ⟨#[]⟩, by omega, by omega, by go_num, rfl, by rw [HBB.out], (show Aside _ from And.intro H1.out HC2.out)⟩
              · have g3 : ¬ (32 : Int) < (P.size : Int) := by omega
                have HBB := (show Hid (badB (done ++ [P]) = false) from by rw [bad_snoc, hbd, decide_eq_true (show goodPart P from ⟨by omega, by omega⟩)]; rfl)
                go_wp2_with (first | (at_builtin; refine append_str rfl (.tmp 50) (.tmp 52) rfl HO.out P rfl _ rfl rfl (by omega) ?_; intro s1 u1 h1; have H1 := (show Hid _ from h1); clear h1))
                go_roundg (s.size + 1 - (k + 1))
                case measure => omega
                case rel => exact ⟨k + 1, done ++ [P], ⟨#[]⟩, by omega, by omega, by go_num, rfl, by rw [HBB.out], (show Aside _ from And.intro H1.out HC2.out)⟩
          · have HBB := (show Hid (badB (done ++ [P]) = true) from by rw [bad_snoc, hbd]; rfl)
            go_wp2_with (first | (at_builtin; refine append_str rfl (.tmp 50) (.tmp 52) rfl HO.out P rfl _ rfl rfl (by omega) ?_; intro s1 u1 h1; have H1 := (show Hid _ from h1); clear h1))
            go_roundg (s.size + 1 - (k + 1))
            case measure => omega
            case rel => exact ⟨k + 1, done ++ [P], ⟨#[]⟩, by omega, by omega, by go_num, rfl, by rw [HBB.out], (show Aside _ from And.intro H1.out HC2.out)⟩
        · have h46 : ((s[k].toNat : Int) != 46) = true := by
            have : s[k].toNat ≠ 46 := fun e => hc (UInt8.toNat_inj.1 e)
            simp; omega
          have hsl := psl_one s k (by omega)
          have HC2 := (show Hid _ from hC.char hlt hc)
          have hEz : (s.extract k (k + 1)).size = 1 := congrArg List.length (ext_one s k hlt)
          generalize s.extract k (k + 1) = E at *
          clear hO hC hc hks
          go_wp2_with fail
          go_roundg (s.size + 1 - (k + 1))
          case measure => omega
          case rel => exact ⟨k + 1, done, P ++ E, by omega, by omega, by go_num, rfl, rfl, (show Aside _ from And.intro HO.out HC2.out)⟩
      · have zk : ¬ (k : Int) < (s.size : Int) := by omega
        have HC2 := (show Hid _ from hC.last (by omega))
        clear hO hC hks
        rcases hbd : badB done with _ | _
        · by_cases hz0 : P.size = 0
          · obtain ⟨g1, g2⟩ := none_size hz0
            have HBB := (show Hid (badB (done ++ [P]) = true) from by rw [bad_snoc, hbd, decide_eq_false (by intro hh; have := hh.1; omega)]; rfl)
            go_wp2_with (first | (at_builtin; refine append_str rfl (.tmp 50) (.tmp 52) rfl HO.out P rfl _ rfl rfl (by omega) ?_; intro s1 u1 h1; have H1 := (show Hid _ from h1); clear h1))
            go_roundg (s.size + 1 - (k + 1))
            case measure => omega
            case rel => exact ⟨k + 1, done ++ [P], ⟨#[]⟩, by omega, by omega, by go_num, rfl, by rw [HBB.out], (show Aside _ from And.intro H1.out HC2.out)⟩
          · obtain ⟨g1, g2⟩ := some_size hz0
            by_cases hz3 : 32 < P.size
            · have g3 : (32 : Int) < (P.size : Int) := by omega
              have HBB := (show Hid (badB (done ++ [P]) = true) from by rw [bad_snoc, hbd, decide_eq_false (by intro hh; have := hh.2; omega)]; rfl)
              go_wp2_with (first | (at_builtin; refine append_str rfl (.tmp 50) (.tmp 52) rfl HO.out P rfl _ rfl rfl (by omega) ?_; intro s1 u1 h1; have H1 := (show Hid _ from h1); clear h1))
              go_roundg (s.size + 1 - (k + 1))
              case measure => omega
              case rel => exact ⟨k + 1, done ++ [P], ⟨#[]⟩, by omega, by omega, by go_num, rfl, by rw [HBB.out], (show Aside _ from And.intro H1.out HC2.out)⟩
            · have g3 : ¬ (32 : Int) < (P.size : Int) := by omega
              have HBB := (show Hid (badB (done ++ [P]) = false) from by rw [bad_snoc, hbd, decide_eq_true (show goodPart P from ⟨by omega, by omega⟩)]; rfl)
              go_wp2_with (first | (at_builtin; refine append_str rfl (.tmp 50) (.tmp 52) rfl HO.out P rfl _ rfl rfl (by omega) ?_; intro s1 u1 h1; have H1 := (show Hid _ from h1); clear h1))
              go_roundg (s.size + 1 - (k + 1))
              case measure => omega
              case rel => exact ⟨k + 1, done ++ [P], ⟨#[]⟩, by omega, by omega, by go_num, rfl, by rw [HBB.out], (show Aside _ from And.intro H1.out HC2.out)⟩
        · have HBB := (show Hid (badB (done ++ [P]) = true) from by rw [bad_snoc, hbd]; rfl)
          go_wp2_with (first | (at_builtin; refine append_str rfl (.tmp 50) (.tmp 52) rfl HO.out P rfl _ rfl rfl (by omega) ?_; intro s1 u1 h1; have H1 := (show Hid _ from h1); clear h1))
          go_roundg (s.size + 1 - (k + 1))
          case measure => omega
          case rel => exact ⟨k + 1, done ++ [P], ⟨#[]⟩, by omega, by omega, by go_num, rfl, by rw [HBB.out], (show Aside _ from And.intro H1.out HC2.out)⟩
end Go.Proofs.YtgcccihnlecpnaaDoor
