/-
  TextBack: what stands in quotes is read as it was, whatever stands behind it: for every two texts. No conditions.
-/
import Derived.Test.YtjlfmpibnlihhaaDoorRow
import Derived.Test.YtjlfmpibnlihhaaDoorMend
import Derived.SizedLaws
namespace Go.Proofs.YtjlfmpibnlihhaaDoor
open Go.RowKit Go.Extern.Stop Go.Stop Go.Extern

set_option maxRecDepth 100000 in
set_option maxHeartbeats 2000000 in
theorem TextBack_walk (s : ByteArray) (_hs : s.size ≤ maxLen) (b : ByteArray) (hb0 : b.data.toList.length ≤ reachBytes) (w : World) (hE : Env w) :
    Calls Tryd.prog 5 #[.string s, .string b] w fun e w' => e = .returned (.bool true) ∧ Below w.heap.size w w' := by
  have hm0 : 0 ≤ min (s.size : Int) 400 := by omega
  have hm1 : min (s.size : Int) 400 ≤ (s.size : Int) := by omega
  have hb : (b.size : Int) ≤ 140737488351232 := by rw [← size_list rfl] at hb0; unfold reachBytes at hb0; omega
  clear hb0
  go_enter Tryd.func5, Tryd.ntmps5
  go_wp2_with fail
  refine (awake_true _ hE).mono ?_
  rintro e w1 ⟨rfl, hB1⟩
  go_wp2_with fail
  have hz : (s.extract 0 (min (s.size : Int) 400).toNat).size ≤ 400 := by simp; omega
  generalize s.extract 0 (min (s.size : Int) 400).toNat = t at *
  refine (Quote_any t (by omega) _ (hE.below hB1).tabs).mono ?_
  rintro e w2 ⟨rfl, hB2⟩
  have hB2' := hB1.trans (hB2.mono hB1.size)
  obtain ⟨q, hq⟩ : ∃ q : ByteArray, (⟨(quoteL t.data.toList).toArray⟩ : ByteArray) = q := ⟨_, rfl⟩
  have hql : q.data.toList = quoteL t.data.toList := by rw [← hq]
  have hqz : q.size ≤ 2402 := by
    have := quo_length _ t.data.toList (Nat.le_refl _)
    rw [← size_list rfl] at this
    rw [size_list hql]
    simp [quoteL]
    omega
  rw [hq]
  have HL : Hid (q.data.toList = quoteL t.data.toList) := hql
  have hrd : readL (q ++ b).data.toList = some (mend t.data.toList, q.size) := by
    rw [append_list, hql, readL_quote, size_list hql]
  have hmz : (⟨(mend t.data.toList).toArray⟩ : ByteArray).size ≤ 1600 := by
    have := mend_length _ t.data.toList (Nat.le_refl _)
    rw [← size_list rfl] at this
    rw [size_list (l := mend t.data.toList) (by simp)]
    omega
  have hqv : Lib.validD q.data.toList = true := by rw [hql]; exact valid_quote _
  have hM := fun W => Mend_any t (by omega) W
  obtain ⟨m, hm⟩ : ∃ m : ByteArray, (⟨(mend t.data.toList).toArray⟩ : ByteArray) = m := ⟨_, rfl⟩
  rw [hm] at hM hmz
  have HM : Hid ((⟨(mend t.data.toList).toArray⟩ : ByteArray) = m) := hm
  have HR : Hid (readL (q ++ b).data.toList = some (mend t.data.toList, q.size)) := hrd
  have HV : Hid (Lib.validD q.data.toList = true) := hqv
  clear hq hql hrd hqv hm
  have hsum : (q ++ b).size ≤ 140737488355320 := by
    rw [ByteArray.size_append]; omega
  have HS : Hid ((q ++ b).size ≤ 140737488355320) := hsum
  clear hsum
  go_wp2_with fail
  refine (Unquote_any (q ++ b) HS.out _ (hE.below hB2')).mono ?_
  rintro e w3 ⟨h3, hB3⟩
  rw [HR.out] at h3
  simp only [Tells] at h3
  rw [HM.out] at h3
  subst h3
  have hB3' := hB2'.trans (hB3.mono hB2'.size)
  go_wp2_with fail
  refine (hM _).mono ?_
  rintro e w4 ⟨rfl, hB4⟩
  have hB4' := hB3'.trans (hB4.mono hB3'.size)
  go_wp2_with fail
  refine (Valid_any q _ (by omega) (hE.below hB4').tabs).mono ?_
  rintro e w5 ⟨rfl, hB5⟩
  rw [HV.out]
  have hB5' := hB4'.trans (hB5.mono hB4'.size)
  go_wp2_with fail
  refine (Quote_any m (by omega) _ (hE.below hB5').tabs).mono ?_
  rintro e w6 ⟨rfl, hB6⟩
  have hB6' := hB5'.trans (hB6.mono hB5'.size)
  go_wp2_with fail
  refine (hM _).mono ?_
  rintro e w7 ⟨rfl, hB7⟩
  have hB7' := hB6'.trans (hB7.mono hB6'.size)
  go_wp2_with fail
  refine (Quote_any m (by omega) _ (hE.below hB7').tabs).mono ?_
  rintro e w8 ⟨rfl, hB8⟩
  generalize (quoteL m.data.toList).toArray = qm at *
  go_wp2
  go_ret
  exact ⟨rfl, hB7'.trans (hB8.mono hB7'.size)⟩

namespace TextBack
open Go.ChangeShapes Go.WideShapes Go.ChangeAt
open Go.ChangeMaps (open_string shut_string)
theorem reads (os : Os) {H : Type} (enc : TypeId × Value → H) : ∃ places, DataW.whole enc Tryd.prog ((laidOn (World.holding Tryd.prog os ⟨#[], #[], []⟩)).forCall (fun _ _ => 0) ⟨#[], #[.string ⟨#[]⟩, .string ⟨#[]⟩], []⟩).memory Tryd.f5.params.toList Rows.textBackSpec.vars false #[((.string ⟨#[]⟩) : Value), .string ⟨#[]⟩].toList 8 = some ([.lit (.string []), .lit (.string [])], [], places) :=
  ⟨[], by kernel_rfl⟩

set_option maxRecDepth 100000 in
theorem contract (H : Type) (enc : TypeId × Value → H) (W : World) (base : Nat) (args : Array Value) (ds gs : List (DataW H)) (before : List MemPlace)
    (hval : ∀ (j : Nat) t v, Tryd.f5.params[j]? = some t → args[j]? = some v → Value.okWide Tryd.prog W .any base t v)
    (hW : DataW.Whole enc Tryd.prog Tryd.f5.params.toList Rows.textBackSpec.vars false W args.toList ds gs before) (hL : laidMetH Tryd.prog Rows.textBackRow.laid W) (ts : List TypeId) (hsz : (DataW.weightsEach Tryd.prog (Tryd.f5.params.toList ++ ts) (ds ++ gs)).all (· ≤ reachBytes) = true) :
    Calls Tryd.prog 5 args W fun e W' => ∃ v, e = .returned v ∧ Rows.textBackSpec.post enc Tryd.prog Tryd.f5 false true false false W args v W' := by
  have hW' := hW
  obtain ⟨p, q, hA0, hV, rfl, hfz, hnd⟩ := hW
  have hA : DataW.TrodAll enc Tryd.prog W 0 (fun _ => true) true Tryd.f5.params.toList args.toList ds p := hA0
  rw [Tryd.params5] at hA hval hsz
  obtain ⟨v0, v1, d0, d1, p0, p1, rfl, rfl, rfl, h0, h1⟩ := trodAll_two hA
  obtain ⟨rfl, rfl⟩ := trodVars_none hV
  obtain ⟨s0, rfl, rfl, rfl, hs0⟩ := open_string Tryd.underlying9 (hval 0 9 v0 rfl rfl) h0
  obtain ⟨s1, rfl, rfl, rfl, hs1⟩ := open_string Tryd.underlying9 (hval 1 9 v1 rfl rfl) h1
  have hg := env_of_laid hL
  have hz1 := sized_string hsz (j := 1) (t := 9) rfl rfl
  refine (TextBack_walk s0 hs0 s1 hz1 W hg).mono fun e W' ⟨he, hb⟩ => ?_
  subst he
  refine ⟨_, rfl, _, _, _, [], [], [], hW', ?_, ?_, ?_, hb.frame _, fun h => by cases h⟩
  · exact trodAll_mk1 (shut_bool Tryd.underlying4 _)
  · exact trodAll_mk2 (shut_string Tryd.underlying9 hs0) (shut_string Tryd.underlying9 hs1)
  · rfl

set_option maxRecDepth 100000 in
theorem lifted (os : Os) (started : os.Started) (H : Type) (enc : TypeId × Value → H) (F : Stop.Interp) :
    ReturnsInHanded {} Tryd.checked os 5 .any ((OpenSpec.ofChange Rows.textBackSpec).preRow enc Tryd.prog Tryd.f5 Rows.textBackRow.domain false Rows.textBackRow.laid) (((OpenSpec.ofChange Rows.textBackSpec).at F).post enc Tryd.prog Tryd.f5 false true false false) := by
  obtain ⟨places, hx⟩ := reads os enc
  refine returnsInHanded_of_row (C := Tryd.checked) (s := (OpenSpec.ofChange Rows.textBackSpec)) own started (by kernel_rfl) Tryd.func5
    (witness_row_at (enc := enc) (C := Tryd.checked) false (laidOn (World.holding Tryd.prog os ⟨#[], #[], []⟩)) #[.string ⟨#[]⟩, .string ⟨#[]⟩] rfl (by kernel_rfl) (by kernel_rfl) (by kernel_rfl)
      (OpenSpec.preRow_of_cond 8 hx (by kernel_rfl) (fun k hk => by cases hk) (by kernel_rfl) (laidWorld_met os _))) ?_
  intro W base args ds gs before hval hW _ _ hsz hL _ _
  exact contract H enc W base args ds gs before hval hW hL _ hsz

theorem said : Rows.TextBackSaid :=
  OpenClaim.holds_of_cond 5 Tryd.f5 rfl rfl rfl rfl rfl rfl rfl ⟨rfl, rfl, rfl, rfl, rfl⟩ rfl rfl rfl rfl rfl (by kernel_rfl) Tryd.func5 (by kernel_rfl)
    (of_decide_eq_true (by kernel_rfl)) (by unfold Func.isWrapper; first | (rw [if_pos (by decide +kernel)]; kernel_rfl) | (rw [if_neg (by decide +kernel)]; exact ⟨rfl, rfl⟩))
    (fun os started H enc _ F => by rw [OpenClaim.pre_eq_preRow]; exact lifted os started H enc F)

theorem plain (f : FuncId) (fn : Func) (hf : Tryd.pinned.checked.prog.funcNamed "roundelay/roundelaylaw02.TextBack" = some f) (hfn : Tryd.pinned.checked.prog.funcs[f]? = some fn) :
    true = Tryd.pinned.checked.prog.looks [] ∧ ∀ (j : Nat) t, fn.params[j]? = some t → Tryd.pinned.checked.prog.wantsStandIn t = false := by
  obtain rfl : f = 5 := Option.some.inj ((show Tryd.prog.funcNamed "roundelay/roundelaylaw02.TextBack" = some 5 by kernel_rfl).symm.trans hf) |>.symm
  obtain rfl : fn = Tryd.f5 := (Option.some.inj (Tryd.func5.symm.trans hfn)).symm
  refine ⟨by kernel_rfl, fun j t ht => ?_⟩
  rw [Tryd.params5] at ht
  have hm := Array.mem_of_getElem? ht
  simp only [List.mem_toArray, List.mem_cons, List.not_mem_nil, or_false] at hm
  rcases hm with rfl | rfl
  · exact (show Tryd.prog.wantsStandIn 9 = false by kernel_rfl)
  · exact (show Tryd.prog.wantsStandIn 9 = false by kernel_rfl)

theorem card : Rows.TextBackCardSaid :=
  Claim7.holds_tied_plain_at .later [] _ _ _ _ said (fun _ h => by cases h) (by kernel_rfl) (fun _ h => by cases h) textBack_row_tie rfl ⟨rfl, rfl⟩ (by kernel_rfl) rfl plain (by kernel_rfl)
end TextBack
theorem textBack_holds : Rows.TextBackCardSaid := TextBack.card
#print axioms textBack_holds
end Go.Proofs.YtjlfmpibnlihhaaDoor
