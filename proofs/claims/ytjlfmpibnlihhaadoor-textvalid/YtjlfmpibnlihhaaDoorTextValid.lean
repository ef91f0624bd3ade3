/-
  TextValid: a text is UTF-8 just if none of its characters is a byte that is none: for every text. No conditions.
-/
import Derived.Test.YtjlfmpibnlihhaaDoorRow
import Derived.Test.YtjlfmpibnlihhaaDoorMend
namespace Go.Proofs.YtjlfmpibnlihhaaDoor
open Go.RowKit Go.Extern.Stop Go.Stop Go.Extern

set_option maxRecDepth 100000 in
set_option maxHeartbeats 2000000 in
theorem TextValid_walk (s : ByteArray) (_hs : s.size ≤ maxLen) (w : World) (hE : Env w) :
    Calls Tryd.prog 8 #[.string s] w fun e w' => e = .returned (.bool true) ∧ Below w.heap.size w w' := by
  have hm0 : 0 ≤ min (s.size : Int) 400 := by omega
  have hm1 : min (s.size : Int) 400 ≤ (s.size : Int) := by omega
  go_enter Tryd.func8, Tryd.ntmps8
  go_wp2_with fail
  refine (awake_true _ hE).mono ?_
  rintro e w1 ⟨rfl, hB1⟩
  go_wp2_with fail
  have hz : (s.extract 0 (min (s.size : Int) 400).toNat).size ≤ 400 := by simp; omega
  generalize s.extract 0 (min (s.size : Int) 400).toNat = t at *
  have HZ : Hid (t.size ≤ 400) := hz
  have zi : (t.size : Int) ≤ 400 := by omega
  clear hz
  go_loopw [3, 4] (fun bv at' wr => ∃ (k : Nat) (b : Bool), bv = .bool b ∧ at' = .int .i64 (k : Int) ∧ k ≤ t.size ∧ (b && Lib.validD (t.data.toList.drop k)) = Lib.validD t.data.toList ∧ Below w.heap.size w wr) (fun _ at' _ => t.size - (intOf at').toNat)
  case atStart => exact ⟨0, true, rfl, rfl, Nat.zero_le _, by simp, hB1⟩
  case round =>
    obtain ⟨k, b, rfl, rfl, hk, heq, hB⟩ := hrel
    have HE : Hid ((b && Lib.validD (t.data.toList.drop k)) = Lib.validD t.data.toList) := heq
    have HK : Hid (k ≤ t.size) := hk
    clear heq
    by_cases hlt : k < t.size
    · have hne : t.data.toList.drop k ≠ [] := by
        intro h
        have := congrArg List.length h
        rw [List.length_drop, ← size_list rfl] at this
        simp at this
        omega
      have hle := Lib.decodeL_le _ hne
      have hw := Lib.decodeL_width (t.data.toList.drop k)
      rw [List.length_drop, ← size_list rfl] at hle
      have hst := Lib.validD_step _ hne
      rw [List.drop_drop] at hst
      have hf := First_any (t.extract k t.size) (by rw [drop_list rfl]; exact hne) (by simp; omega) wr
      rw [drop_list rfl] at hf
      obtain ⟨c, n, hd⟩ : ∃ c n, Lib.decodeL (t.data.toList.drop k) = (c, n) := ⟨_, _, rfl⟩
      rw [hd] at hf hle hw hst
      simp only at hf hle hw hst
      have H1 : Hid (1 ≤ n ∧ n ≤ t.size - k) := ⟨hw, hle⟩
      have H2 := (show Hid _ from hst)
      have zk : (k : Int) < (t.size : Int) := by omega
      have zn : (k : Int) + (n : Int) ≤ (t.size : Int) := by omega
      clear hd hw hle hst hlt hk hne
      cases b with
      | false =>
        go_wp2_with fail
        refine hf.mono ?_
        rintro e w2 ⟨rfl, hb2⟩
        have hB2 := hB.trans (hb2.mono hB.size)
        go_wp2
        go_roundw
        case rel =>
          refine ⟨k + n, false, rfl, by go_num, by have := H1.out; have := HK.out; omega, ?_, hB2⟩
          have := HE.out; simpa using this
        case measure => have := H1.out; have := HK.out; simp [intOf]; omega
      | true =>
        by_cases h65 : c = 65533
        · subst h65
          replace hf : Calls Tryd.prog 19 #[.string (t.extract k t.size)] wr fun e w' => e = .returned (.tuple #[.int .i32 65533, .int .i64 (n : Int)]) ∧ Below wr.heap.size wr w' := hf
          by_cases h1 : n = 1
          · have nn : ((n : Int) != 1) = false := by rw [h1]; rfl
            have HV : Hid (Lib.validD (t.data.toList.drop k) = false) := by show _ = _; rw [H2.out, if_pos ⟨rfl, h1⟩]
            clear h1
            go_wp2_with fail
            refine hf.mono ?_
            rintro e w2 ⟨rfl, hb2⟩
            have hB2 := hB.trans (hb2.mono hB.size)
            go_wp2
            go_roundw
            case rel =>
              refine ⟨k + n, false, rfl, by go_num, by have := H1.out; have := HK.out; omega, ?_, hB2⟩
              have h := HE.out; rw [HV.out] at h; rw [← h]; rfl
            case measure => have := H1.out; have := HK.out; simp [intOf]; omega
          · have nn : ((n : Int) != 1) = true := by simp; omega
            have HV : Hid (Lib.validD (t.data.toList.drop k) = Lib.validD (t.data.toList.drop (k + n))) := by show _ = _; rw [H2.out, if_neg (fun h => h1 h.2)]
            clear h1
            go_wp2_with fail
            refine hf.mono ?_
            rintro e w2 ⟨rfl, hb2⟩
            have hB2 := hB.trans (hb2.mono hB.size)
            go_wp2
            go_roundw
            case rel =>
              refine ⟨k + n, true, rfl, by go_num, by have := H1.out; have := HK.out; omega, ?_, hB2⟩
              have h := HE.out; rw [HV.out] at h; exact h
            case measure => have := H1.out; have := HK.out; simp [intOf]; omega
        · obtain ⟨r, hr⟩ : ∃ r : Int, (c : Int) = r := ⟨_, rfl⟩
          rw [hr] at hf
          have cc : (r != 65533) = true := by rw [← hr]; simp; omega
          have HV : Hid (Lib.validD (t.data.toList.drop k) = Lib.validD (t.data.toList.drop (k + n))) := by show _ = _; rw [H2.out, if_neg (fun h => h65 h.1)]
          clear hr h65
          go_wp2_with fail
          refine hf.mono ?_
          rintro e w2 ⟨rfl, hb2⟩
          have hB2 := hB.trans (hb2.mono hB.size)
          go_wp2
          go_roundw
          case rel =>
            refine ⟨k + n, true, rfl, by go_num, by have := H1.out; have := HK.out; omega, ?_, hB2⟩
            have h := HE.out; rw [HV.out] at h; exact h
          case measure => have := H1.out; have := HK.out; simp [intOf]; omega
    · have zk : ¬ (k : Int) < (t.size : Int) := by omega
      have ek : t.data.toList.drop k = [] := List.drop_of_length_le (by rw [← size_list rfl]; omega)
      have hb : b = Lib.validD t.data.toList := by
        have h := HE.out
        rw [ek] at h
        rw [← h]
        simp [Lib.validD_nil]
      have hval := fun W (hT : Tabs W) => Valid_any t W (by have := HZ.out; omega) hT
      have hmz : (⟨(mend t.data.toList).toArray⟩ : ByteArray).size ≤ 1600 := by
        have := mend_length _ t.data.toList (Nat.le_refl _)
        rw [← size_list rfl] at this
        rw [size_list (l := mend t.data.toList) (by simp)]
        have := HZ.out
        omega
      have hM := fun W => Mend_any t (by have := HZ.out; omega) W
      have hmv : Lib.validD (⟨(mend t.data.toList).toArray⟩ : ByteArray).data.toList = true := by
        show Lib.validD (mend t.data.toList).toArray.toList = true
        rw [List.toList_toArray]
        exact valid_mend _ _ (Nat.le_refl _)
      have hcmp : ((⟨(mend t.data.toList).toArray⟩ : ByteArray).toList == t.toList) = Lib.validD t.data.toList := by
        rw [Lib.toList_data, Lib.toList_data, valid_iff_mend]
        show ((mend t.data.toList).toArray.toList == t.data.toList) = _
        rw [List.toList_toArray]
        by_cases h : mend t.data.toList = t.data.toList
        · rw [h]; simp
        · rw [decide_eq_false h]; exact beq_false_of_ne h
      rw [← hb] at hcmp hval
      generalize (⟨(mend t.data.toList).toArray⟩ : ByteArray) = m at *
      have HMV : Hid (Lib.validD m.data.toList = true) := hmv
      have HC : Hid ((m.toList == t.toList) = b) := hcmp
      clear hb ek hmv hlt hk hcmp HE
      go_wp2_with fail
      refine (hval _ (hE.below hB).tabs).mono ?_
      rintro e w2 ⟨rfl, hb2⟩
      have hB2 := hB.trans (hb2.mono hB.size)
      go_wp2_with fail
      refine (hM _).mono ?_
      rintro e w3 ⟨rfl, hb3⟩
      have hB3 := hB2.trans (hb3.mono hB2.size)
      go_wp2_with fail
      refine (Valid_any m _ (by omega) (hE.below hB3).tabs).mono ?_
      rintro e w4 ⟨rfl, hb4⟩
      rw [HMV.out]
      have hB4 := hB3.trans (hb4.mono hB3.size)
      go_wp2_with fail
      refine (hM _).mono ?_
      rintro e w5 ⟨rfl, hb5⟩
      have hcmp := HC.out
      go_wp2
      go_ret
      exact ⟨by simp, hB4.trans (hb5.mono hB4.size)⟩

namespace TextValid
open Go.ChangeShapes Go.WideShapes Go.ChangeAt
open Go.ChangeMaps (open_string shut_string)
theorem reads (os : Os) {H : Type} (enc : TypeId × Value → H) : ∃ places, DataW.whole enc Tryd.prog ((laidOn (World.holding Tryd.prog os ⟨#[], #[], []⟩)).forCall (fun _ _ => 0) ⟨#[], #[.string ⟨#[]⟩], []⟩).memory Tryd.f8.params.toList Rows.textValidSpec.vars false #[((.string ⟨#[]⟩) : Value)].toList 8 = some ([.lit (.string [])], [], places) :=
  ⟨[], by kernel_rfl⟩

set_option maxRecDepth 100000 in
theorem contract (H : Type) (enc : TypeId × Value → H) (W : World) (base : Nat) (args : Array Value) (ds gs : List (DataW H)) (before : List MemPlace)
    (hval : ∀ (j : Nat) t v, Tryd.f8.params[j]? = some t → args[j]? = some v → Value.okWide Tryd.prog W .any base t v)
    (hW : DataW.Whole enc Tryd.prog Tryd.f8.params.toList Rows.textValidSpec.vars false W args.toList ds gs before) (hL : laidMetH Tryd.prog Rows.textValidRow.laid W) :
    Calls Tryd.prog 8 args W fun e W' => ∃ v, e = .returned v ∧ Rows.textValidSpec.post enc Tryd.prog Tryd.f8 false true false false W args v W' := by
  have hW' := hW
  obtain ⟨p, q, hA0, hV, rfl, hfz, hnd⟩ := hW
  have hA : DataW.TrodAll enc Tryd.prog W 0 (fun _ => true) true Tryd.f8.params.toList args.toList ds p := hA0
  rw [Tryd.params8] at hA hval
  obtain ⟨v0, d0, rfl, rfl, h0⟩ := trodAll_one hA
  obtain ⟨rfl, rfl⟩ := trodVars_none hV
  obtain ⟨s0, rfl, rfl, rfl, hs0⟩ := open_string Tryd.underlying9 (hval 0 9 v0 rfl rfl) h0
  have hg := env_of_laid hL
  refine (TextValid_walk s0 hs0 W hg).mono fun e W' ⟨he, hb⟩ => ?_
  subst he
  refine ⟨_, rfl, _, _, _, [], [], [], hW', ?_, ?_, ?_, hb.frame _, fun h => by cases h⟩
  · exact trodAll_mk1 (shut_bool Tryd.underlying4 _)
  · exact trodAll_mk1 (shut_string Tryd.underlying9 hs0)
  · rfl

set_option maxRecDepth 100000 in
theorem lifted (os : Os) (started : os.Started) (H : Type) (enc : TypeId × Value → H) (F : Stop.Interp) :
    ReturnsInHanded {} Tryd.checked os 8 .any ((OpenSpec.ofChange Rows.textValidSpec).preRow enc Tryd.prog Tryd.f8 Rows.textValidRow.domain false Rows.textValidRow.laid) (((OpenSpec.ofChange Rows.textValidSpec).at F).post enc Tryd.prog Tryd.f8 false true false false) := by
  obtain ⟨places, hx⟩ := reads os enc
  refine returnsInHanded_of_row (C := Tryd.checked) (s := (OpenSpec.ofChange Rows.textValidSpec)) own started (by kernel_rfl) Tryd.func8
    (witness_row_at (enc := enc) (C := Tryd.checked) false (laidOn (World.holding Tryd.prog os ⟨#[], #[], []⟩)) #[.string ⟨#[]⟩] rfl (by kernel_rfl) (by kernel_rfl) (by kernel_rfl)
      (OpenSpec.preRow_of_cond 8 hx (by kernel_rfl) (fun k hk => by cases hk) (by kernel_rfl) (laidWorld_met os _))) ?_
  intro W base args ds gs before hval hW _ _ _ hL _ _
  exact contract H enc W base args ds gs before hval hW hL

theorem said : Rows.TextValidSaid :=
  OpenClaim.holds_of_cond 8 Tryd.f8 rfl rfl rfl rfl rfl rfl rfl ⟨rfl, rfl, rfl, rfl, rfl⟩ rfl rfl rfl rfl rfl (by kernel_rfl) Tryd.func8 (by kernel_rfl)
    (of_decide_eq_true (by kernel_rfl)) (by unfold Func.isWrapper; first | (rw [if_pos (by decide +kernel)]; kernel_rfl) | (rw [if_neg (by decide +kernel)]; exact ⟨rfl, rfl⟩))
    (fun os started H enc _ F => by rw [OpenClaim.pre_eq_preRow]; exact lifted os started H enc F)

theorem plain (f : FuncId) (fn : Func) (hf : Tryd.pinned.checked.prog.funcNamed "roundelay/roundelaylaw02.TextValid" = some f) (hfn : Tryd.pinned.checked.prog.funcs[f]? = some fn) :
    true = Tryd.pinned.checked.prog.looks [] ∧ ∀ (j : Nat) t, fn.params[j]? = some t → Tryd.pinned.checked.prog.wantsStandIn t = false := by
  obtain rfl : f = 8 := Option.some.inj ((show Tryd.prog.funcNamed "roundelay/roundelaylaw02.TextValid" = some 8 by kernel_rfl).symm.trans hf) |>.symm
  obtain rfl : fn = Tryd.f8 := (Option.some.inj (Tryd.func8.symm.trans hfn)).symm
  refine ⟨by kernel_rfl, fun j t ht => ?_⟩
  rw [Tryd.params8] at ht
  have hm := Array.mem_of_getElem? ht
  simp only [List.mem_toArray, List.mem_cons, List.not_mem_nil, or_false] at hm
  subst hm
  exact (show Tryd.prog.wantsStandIn 9 = false by kernel_rfl)

theorem card : Rows.TextValidCardSaid :=
  Claim7.holds_tied_plain_at .later [] _ _ _ _ said (fun _ h => by cases h) (by kernel_rfl) (fun _ h => by cases h) textValid_row_tie rfl ⟨rfl, rfl⟩ (by kernel_rfl) rfl plain (by kernel_rfl)
end TextValid
theorem textValid_holds : Rows.TextValidCardSaid := TextValid.card
#print axioms textValid_holds
end Go.Proofs.YtjlfmpibnlihhaaDoor
