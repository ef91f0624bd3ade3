/-
  TextShort: a text in quotes that is cut off anywhere is none: for every text and place. No conditions.
-/
import Derived.Test.YtjlfmpibnlihhaaDoorRow
namespace Go.Proofs.YtjlfmpibnlihhaaDoor
open Go.RowKit Go.Extern.Stop Go.Stop Go.Extern

theorem take_list {s : ByteArray} {l : List UInt8} (h : s.data.toList = l) (k : Nat) : (s.extract 0 k).data.toList = l.take k := by
  subst h
  rw [ByteArray.data_extract, Array.toList_extract, List.extract_eq_take_drop]
  simp

set_option maxRecDepth 100000 in
set_option maxHeartbeats 2000000 in
theorem TextShort_walk (s : ByteArray) (_hs : s.size ≤ maxLen) (a : Int) (wa : Lit.wf (.int .u16 a)) (w : World) (hE : Env w) :
    Calls Tryd.prog 6 #[.string s, .int .u16 a] w fun e w' => e = .returned (.bool true) ∧ Below w.heap.size w w' := by
  have ha : 0 ≤ a ∧ a < 65536 := by
    have h := wa
    simp only [Lit.wf, Bool.and_eq_true, decide_eq_true_eq] at h
    have h1 : IntKind.u16.min = 0 := rfl
    have h2 : IntKind.u16.max = 65535 := rfl
    omega
  obtain ⟨ha0, ha1⟩ := ha
  have hm0 : 0 ≤ min (s.size : Int) 400 := by omega
  have hm1 : min (s.size : Int) 400 ≤ (s.size : Int) := by omega
  clear wa
  go_enter Tryd.func6, Tryd.ntmps6
  go_wp2_with fail
  refine (awake_true _ hE).mono ?_
  rintro e w1 ⟨rfl, hB1⟩
  go_wp2_with fail
  have hz : (s.extract 0 (min (s.size : Int) 400).toNat).size ≤ 400 := by simp; omega
  generalize s.extract 0 (min (s.size : Int) 400).toNat = t at *
  refine (Quote_any t (by omega) _ (hE.below hB1).tabs).mono ?_
  rintro e w2 ⟨rfl, hB2⟩
  have hB2' := hB1.trans (hB2.mono hB1.size)
  obtain ⟨q, hq⟩ : ∃ q : ByteArray, (⟨(quoteL t.data.toList).toArray⟩ : ByteArray) = q := ⟨_, rfl⟩
  have hql : q.data.toList = quoteL t.data.toList := by rw [← hq]
  have hqz : 2 ≤ q.size ∧ q.size ≤ 2402 := by
    have := quo_length _ t.data.toList (Nat.le_refl _)
    rw [← size_list rfl] at this
    rw [size_list hql]
    simp [quoteL]
    omega
  rw [hq]
  have HL : Hid (q.data.toList = quoteL t.data.toList) := hql
  clear hq hql
  obtain ⟨hq2, hq3⟩ := hqz
  have z2 : ¬ (q.size : Int) < 2 := by omega
  have z0 : ¬ (q.size : Int) = 0 := by omega
  obtain ⟨i, hi⟩ : ∃ i : Nat, a % (q.size : Int) = i := ⟨(a % (q.size : Int)).toNat, by have := Int.emod_nonneg a z0; omega⟩
  have hlt : i < q.size := by have := Int.emod_lt_of_pos a (show (0 : Int) < q.size by omega); omega
  have zi : (i : Int) ≤ (q.size : Int) := by omega
  have hrd : readL (q.extract 0 i).data.toList = none := by
    rw [take_list HL.out]
    exact readL_short _ i (by rw [← size_list HL.out]; exact hlt)
  have hez : (q.extract 0 i).size ≤ 2402 := by simp; omega
  have HR : Hid (readL (q.extract 0 i).data.toList = none) := hrd
  have HLT : Hid (i < q.size) := hlt
  clear hrd hlt
  go_wp2_with fail
  refine (Unquote_any (q.extract 0 i) (by omega) _ (hE.below hB2')).mono ?_
  rintro e w3 ⟨h3, hB3⟩
  rw [HR.out] at h3
  obtain ⟨v, rfl, hv⟩ := h3
  have hB3' := hB2'.trans (hB3.mono hB2'.size)
  go_wp2_with fail
  refine (hv.code (hE.below hB3').handle).mono ?_
  rintro e w4 ⟨rfl, hB4⟩
  go_wp2
  go_ret
  exact ⟨rfl, hB3'.trans (hB4.mono hB3'.size)⟩

namespace TextShort
open Go.ChangeShapes Go.WideShapes Go.ChangeAt
open Go.ChangeMaps (open_string shut_string)
theorem reads (os : Os) {H : Type} (enc : TypeId × Value → H) : ∃ places, DataW.whole enc Tryd.prog ((laidOn (World.holding Tryd.prog os ⟨#[], #[], []⟩)).forCall (fun _ _ => 0) ⟨#[], #[.string ⟨#[]⟩, .int .u16 0], []⟩).memory Tryd.f6.params.toList Rows.textShortSpec.vars false #[((.string ⟨#[]⟩) : Value), .int .u16 0].toList 8 = some ([.lit (.string []), .lit (.int .u16 0)], [], places) :=
  ⟨[], by kernel_rfl⟩

set_option maxRecDepth 100000 in
theorem contract (H : Type) (enc : TypeId × Value → H) (W : World) (base : Nat) (args : Array Value) (ds gs : List (DataW H)) (before : List MemPlace)
    (hval : ∀ (j : Nat) t v, Tryd.f6.params[j]? = some t → args[j]? = some v → Value.okWide Tryd.prog W .any base t v)
    (hW : DataW.Whole enc Tryd.prog Tryd.f6.params.toList Rows.textShortSpec.vars false W args.toList ds gs before) (hL : laidMetH Tryd.prog Rows.textShortRow.laid W) :
    Calls Tryd.prog 6 args W fun e W' => ∃ v, e = .returned v ∧ Rows.textShortSpec.post enc Tryd.prog Tryd.f6 false true false false W args v W' := by
  have hW' := hW
  obtain ⟨p, q, hA0, hV, rfl, hfz, hnd⟩ := hW
  have hA : DataW.TrodAll enc Tryd.prog W 0 (fun _ => true) true Tryd.f6.params.toList args.toList ds p := hA0
  rw [Tryd.params6] at hA hval
  obtain ⟨v0, v1, d0, d1, p0, p1, rfl, rfl, rfl, h0, h1⟩ := trodAll_two hA
  obtain ⟨rfl, rfl⟩ := trodVars_none hV
  obtain ⟨s0, rfl, rfl, rfl, hs0⟩ := open_string Tryd.underlying9 (hval 0 9 v0 rfl rfl) h0
  obtain ⟨c1, rfl, rfl, rfl, wc1⟩ := open_int Tryd.underlying25 (hval 1 25 v1 rfl rfl) h1
  have hg := env_of_laid hL
  refine (TextShort_walk s0 hs0 c1 wc1 W hg).mono fun e W' ⟨he, hb⟩ => ?_
  subst he
  refine ⟨_, rfl, _, _, _, [], [], [], hW', ?_, ?_, ?_, hb.frame _, fun h => by cases h⟩
  · exact trodAll_mk1 (shut_bool Tryd.underlying4 _)
  · exact trodAll_mk2 (shut_string Tryd.underlying9 hs0) (shut_int Tryd.underlying25 wc1)
  · rfl

set_option maxRecDepth 100000 in
theorem lifted (os : Os) (started : os.Started) (H : Type) (enc : TypeId × Value → H) (F : Stop.Interp) :
    ReturnsInHanded {} Tryd.checked os 6 .any ((OpenSpec.ofChange Rows.textShortSpec).preRow enc Tryd.prog Tryd.f6 Rows.textShortRow.domain false Rows.textShortRow.laid) (((OpenSpec.ofChange Rows.textShortSpec).at F).post enc Tryd.prog Tryd.f6 false true false false) := by
  obtain ⟨places, hx⟩ := reads os enc
  refine returnsInHanded_of_row (C := Tryd.checked) (s := (OpenSpec.ofChange Rows.textShortSpec)) own started (by kernel_rfl) Tryd.func6
    (witness_row_at (enc := enc) (C := Tryd.checked) false (laidOn (World.holding Tryd.prog os ⟨#[], #[], []⟩)) #[.string ⟨#[]⟩, .int .u16 0] rfl (by kernel_rfl) (by kernel_rfl) (by kernel_rfl)
      (OpenSpec.preRow_of_cond 8 hx (by kernel_rfl) (fun k hk => by cases hk) (by kernel_rfl) (laidWorld_met os _))) ?_
  intro W base args ds gs before hval hW _ _ _ hL _ _
  exact contract H enc W base args ds gs before hval hW hL

theorem said : Rows.TextShortSaid :=
  OpenClaim.holds_of_cond 6 Tryd.f6 rfl rfl rfl rfl rfl rfl rfl ⟨rfl, rfl, rfl, rfl, rfl⟩ rfl rfl rfl rfl rfl (by kernel_rfl) Tryd.func6 (by kernel_rfl)
    (of_decide_eq_true (by kernel_rfl)) (by unfold Func.isWrapper; first | (rw [if_pos (by decide +kernel)]; kernel_rfl) | (rw [if_neg (by decide +kernel)]; exact ⟨rfl, rfl⟩))
    (fun os started H enc _ F => by rw [OpenClaim.pre_eq_preRow]; exact lifted os started H enc F)

theorem plain (f : FuncId) (fn : Func) (hf : Tryd.pinned.checked.prog.funcNamed "roundelay/roundelaylaw02.TextShort" = some f) (hfn : Tryd.pinned.checked.prog.funcs[f]? = some fn) :
    true = Tryd.pinned.checked.prog.looks [] ∧ ∀ (j : Nat) t, fn.params[j]? = some t → Tryd.pinned.checked.prog.wantsStandIn t = false := by
  obtain rfl : f = 6 := Option.some.inj ((show Tryd.prog.funcNamed "roundelay/roundelaylaw02.TextShort" = some 6 by kernel_rfl).symm.trans hf) |>.symm
  obtain rfl : fn = Tryd.f6 := (Option.some.inj (Tryd.func6.symm.trans hfn)).symm
  refine ⟨by kernel_rfl, fun j t ht => ?_⟩
  rw [Tryd.params6] at ht
  have hm := Array.mem_of_getElem? ht
  simp only [List.mem_toArray, List.mem_cons, List.not_mem_nil, or_false] at hm
  rcases hm with rfl | rfl
  · exact (show Tryd.prog.wantsStandIn 9 = false by kernel_rfl)
  · exact (show Tryd.prog.wantsStandIn 25 = false by kernel_rfl)

theorem card : Rows.TextShortCardSaid :=
  Claim7.holds_tied_plain_at .later [] _ _ _ _ said (fun _ h => by cases h) (by kernel_rfl) (fun _ h => by cases h) textShort_row_tie rfl ⟨rfl, rfl⟩ (by kernel_rfl) rfl plain (by kernel_rfl)
end TextShort
theorem textShort_holds : Rows.TextShortCardSaid := TextShort.card
#print axioms textShort_holds
end Go.Proofs.YtjlfmpibnlihhaaDoor
