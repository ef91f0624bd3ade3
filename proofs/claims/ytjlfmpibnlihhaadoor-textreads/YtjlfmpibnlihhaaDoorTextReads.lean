/-
  TextReads: what any bytes, or a text in quotes with one of its bytes another one, begin with is what the document says, or an error is told: for every text, place and byte. No conditions.
-/
import Derived.Test.YtjlfmpibnlihhaaDoorRow
import Derived.Test.YtjlfmpibnlihhaaDoorBend
namespace Go.Proofs.YtjlfmpibnlihhaaDoor
open Go.RowKit Go.Extern.Stop Go.Stop Go.Extern

theorem rdN_pos : ∀ (n : Nat) (l o : List UInt8) (k : Nat) (o' : List UInt8) (k' : Nat), rdN n l o k = some (o', k') → k + 1 ≤ k'
  | 0, _, _, _, _, _, h => by cases h
  | n + 1, [], _, _, _, _, h => by cases h
  | n + 1, b :: t, o, k, o', k', h => by
    simp only [rdN] at h
    split at h
    · simp only [Option.some.injEq, Prod.mk.injEq] at h; omega
    · split at h
      · cases h
      · have := rdN_pos n _ _ _ _ _ h; omega
theorem readL_pos {l o : List UInt8} {k : Nat} (h : readL l = some (o, k)) : 1 ≤ k := by
  cases l with
  | nil => cases h
  | cons b t =>
    by_cases hb : b.toNat = 34
    · have e : readL (b :: t) = rd t [] 1 := if_pos hb
      rw [e] at h
      have := rdN_pos _ _ _ _ _ _ h
      omega
    · have e : readL (b :: t) = none := if_neg hb
      rw [e] at h
      cases h

set_option maxRecDepth 100000 in
set_option maxHeartbeats 2000000 in
theorem TextReads_walk (s : ByteArray) (_hs : s.size ≤ maxLen) (own : Bool) (a : Int) (wa : Lit.wf (.int .u16 a)) (b : Int) (w : World) (hE : Env w) :
    Calls Tryd.prog 4 #[.string s, .bool own, .int .u16 a, .int .u8 b] w fun e w' => e = .returned (.bool true) ∧ Below w.heap.size w w' := by
  have ha : 0 ≤ a ∧ a < 65536 := by
    have h := wa
    simp only [Lit.wf, Bool.and_eq_true, decide_eq_true_eq] at h
    have h1 : IntKind.u16.min = 0 := rfl
    have h2 : IntKind.u16.max = 65535 := rfl
    omega
  obtain ⟨ha0, ha1⟩ := ha
  have hm0 : 0 ≤ min (s.size : Int) 400 := by omega
  have hm1 : min (s.size : Int) 400 ≤ (s.size : Int) := by omega
  clear wa
  cases own with
  | false =>
    go_enter Tryd.func4, Tryd.ntmps4
    go_wp2_with fail
    refine (awake_true _ hE).mono ?_
    rintro e w1 ⟨rfl, hB1⟩
    go_wp2_with fail
    have hz : (s.extract 0 (min (s.size : Int) 400).toNat).size ≤ 400 := by simp; omega
    generalize s.extract 0 (min (s.size : Int) 400).toNat = u at *
    have hBu := hB1
    refine (Unquote_any u (by omega) _ (hE.below hBu)).mono ?_
    rintro e w4 ⟨h4, hB4⟩
    have hB4' := hBu.trans (hB4.mono hBu.size)
    cases hr : readL u.data.toList with
    | none =>
      rw [hr] at h4
      obtain ⟨v, rfl, hv⟩ := h4
      have hRd := Read_any u (by omega) w4
      rw [hr] at hRd
      simp only [strI] at hRd
      have HV : Hid (Bad w4 v) := hv
      clear hv hr
      go_wp2_with fail
      refine hRd.mono ?_
      rintro e w5 ⟨rfl, hB5⟩
      have hB5' := hB4'.trans (hB5.mono hB4'.size)
      have hv5 := HV.out.below hB5
      go_wp2_with fail
      refine (hv5.code (hE.below hB5').handle).mono ?_
      rintro e w6 ⟨rfl, hB6⟩
      go_wp2
      go_ret
      exact ⟨rfl, hB5'.trans (hB6.mono hB5'.size)⟩
    | some r =>
      obtain ⟨o, k⟩ := r
      rw [hr] at h4
      simp only [Tells] at h4
      subst h4
      have hk := readL_pos hr
      have hRd := Read_any u (by omega) w4
      rw [hr] at hRd
      simp only [strI] at hRd
      have nk : ((k : Int) == 0) = false := by simp; omega
      clear hr hk
      generalize o.toArray = oa at *
      go_wp2_with fail
      refine hRd.mono ?_
      rintro e w5 ⟨rfl, hB5⟩
      go_wp2
      go_ret
      exact ⟨rfl, hB4'.trans (hB5.mono hB4'.size)⟩
  | true =>
    go_enter Tryd.func4, Tryd.ntmps4
    go_wp2_with fail
    refine (awake_true _ hE).mono ?_
    rintro e w1 ⟨rfl, hB1⟩
    go_wp2_with fail
    have hz : (s.extract 0 (min (s.size : Int) 400).toNat).size ≤ 400 := by simp; omega
    generalize s.extract 0 (min (s.size : Int) 400).toNat = t at *
    refine (Put_any t (by omega) _).mono ?_
    rintro e w2 ⟨rfl, hB2⟩
    have hB2' := hB1.trans (hB2.mono hB1.size)
    have hqz : (⟨(quoteL t.data.toList).toArray⟩ : ByteArray).size ≤ 2402 := by
      have := quo_length _ t.data.toList (Nat.le_refl _)
      rw [← size_list rfl] at this
      rw [size_list (l := quoteL t.data.toList) (by simp)]
      simp [quoteL]
      omega
    have hqp : 0 < (⟨(quoteL t.data.toList).toArray⟩ : ByteArray).size := by
      rw [size_list (l := quoteL t.data.toList) (by simp)]
      simp [quoteL]
    generalize (⟨(quoteL t.data.toList).toArray⟩ : ByteArray) = q at *
    go_wp2_with fail
    refine (Bend_some q (by omega) hqp a b ha0 ha1 _).mono ?_
    rintro e w3 ⟨⟨u, rfl, hu⟩, hB3⟩
    have hBu := hB2'.trans (hB3.mono hB2'.size)
    have hz' : u.size ≤ 2402 := by omega
    clear hu hqz hqp hz
    go_wp2_with fail
    refine (Unquote_any u (by omega) _ (hE.below hBu)).mono ?_
    rintro e w4 ⟨h4, hB4⟩
    have hB4' := hBu.trans (hB4.mono hBu.size)
    cases hr : readL u.data.toList with
    | none =>
      rw [hr] at h4
      obtain ⟨v, rfl, hv⟩ := h4
      have hRd := Read_any u (by omega) w4
      rw [hr] at hRd
      simp only [strI] at hRd
      have HV : Hid (Bad w4 v) := hv
      clear hv hr
      go_wp2_with fail
      refine hRd.mono ?_
      rintro e w5 ⟨rfl, hB5⟩
      have hB5' := hB4'.trans (hB5.mono hB4'.size)
      have hv5 := HV.out.below hB5
      go_wp2_with fail
      refine (hv5.code (hE.below hB5').handle).mono ?_
      rintro e w6 ⟨rfl, hB6⟩
      go_wp2
      go_ret
      exact ⟨rfl, hB5'.trans (hB6.mono hB5'.size)⟩
    | some r =>
      obtain ⟨o, k⟩ := r
      rw [hr] at h4
      simp only [Tells] at h4
      subst h4
      have hk := readL_pos hr
      have hRd := Read_any u (by omega) w4
      rw [hr] at hRd
      simp only [strI] at hRd
      have nk : ((k : Int) == 0) = false := by simp; omega
      clear hr hk
      generalize o.toArray = oa at *
      go_wp2_with fail
      refine hRd.mono ?_
      rintro e w5 ⟨rfl, hB5⟩
      go_wp2
      go_ret
      exact ⟨rfl, hB4'.trans (hB5.mono hB4'.size)⟩

namespace TextReads
open Go.ChangeShapes Go.WideShapes Go.ChangeAt
open Go.ChangeMaps (open_string shut_string)
theorem reads (os : Os) {H : Type} (enc : TypeId × Value → H) : ∃ places, DataW.whole enc Tryd.prog ((laidOn (World.holding Tryd.prog os ⟨#[], #[], []⟩)).forCall (fun _ _ => 0) ⟨#[], #[.string ⟨#[]⟩, .bool false, .int .u16 0, .int .u8 0], []⟩).memory Tryd.f4.params.toList Rows.textReadsSpec.vars false #[((.string ⟨#[]⟩) : Value), .bool false, .int .u16 0, .int .u8 0].toList 8 = some ([.lit (.string []), .lit (.bool false), .lit (.int .u16 0), .lit (.int .u8 0)], [], places) :=
  ⟨[], by kernel_rfl⟩

set_option maxRecDepth 100000 in
theorem contract (H : Type) (enc : TypeId × Value → H) (W : World) (base : Nat) (args : Array Value) (ds gs : List (DataW H)) (before : List MemPlace)
    (hval : ∀ (j : Nat) t v, Tryd.f4.params[j]? = some t → args[j]? = some v → Value.okWide Tryd.prog W .any base t v)
    (hW : DataW.Whole enc Tryd.prog Tryd.f4.params.toList Rows.textReadsSpec.vars false W args.toList ds gs before) (hL : laidMetH Tryd.prog Rows.textReadsRow.laid W) :
    Calls Tryd.prog 4 args W fun e W' => ∃ v, e = .returned v ∧ Rows.textReadsSpec.post enc Tryd.prog Tryd.f4 false true false false W args v W' := by
  have hW' := hW
  obtain ⟨p, q, hA0, hV, rfl, hfz, hnd⟩ := hW
  have hA : DataW.TrodAll enc Tryd.prog W 0 (fun _ => true) true Tryd.f4.params.toList args.toList ds p := hA0
  rw [Tryd.params4] at hA hval
  obtain ⟨v0, v1, v2, v3, d0, d1, d2, d3, p0, p1, p2, p3, rfl, rfl, rfl, h0, h1, h2, h3⟩ := trodAll_four hA
  obtain ⟨rfl, rfl⟩ := trodVars_none hV
  obtain ⟨s0, rfl, rfl, rfl, hs0⟩ := open_string Tryd.underlying9 (hval 0 9 v0 rfl rfl) h0
  obtain ⟨c1, rfl, rfl, rfl⟩ := open_bool Tryd.underlying4 (hval 1 4 v1 rfl rfl) h1
  obtain ⟨c2, rfl, rfl, rfl, wc2⟩ := open_int Tryd.underlying25 (hval 2 25 v2 rfl rfl) h2
  obtain ⟨c3, rfl, rfl, rfl, wc3⟩ := open_int Tryd.underlying5 (hval 3 5 v3 rfl rfl) h3
  have hg := env_of_laid hL
  refine (TextReads_walk s0 hs0 c1 c2 wc2 c3 W hg).mono fun e W' ⟨he, hb⟩ => ?_
  subst he
  refine ⟨_, rfl, _, _, _, [], [], [], hW', ?_, ?_, ?_, hb.frame _, fun h => by cases h⟩
  · exact trodAll_mk1 (shut_bool Tryd.underlying4 _)
  · exact trodAll_mk4 (shut_string Tryd.underlying9 hs0) (shut_bool Tryd.underlying4 c1) (shut_int Tryd.underlying25 wc2) (shut_int Tryd.underlying5 wc3)
  · rfl

set_option maxRecDepth 100000 in
theorem lifted (os : Os) (started : os.Started) (H : Type) (enc : TypeId × Value → H) (F : Stop.Interp) :
    ReturnsInHanded {} Tryd.checked os 4 .any ((OpenSpec.ofChange Rows.textReadsSpec).preRow enc Tryd.prog Tryd.f4 Rows.textReadsRow.domain false Rows.textReadsRow.laid) (((OpenSpec.ofChange Rows.textReadsSpec).at F).post enc Tryd.prog Tryd.f4 false true false false) := by
  obtain ⟨places, hx⟩ := reads os enc
  refine returnsInHanded_of_row (C := Tryd.checked) (s := (OpenSpec.ofChange Rows.textReadsSpec)) own started (by kernel_rfl) Tryd.func4
    (witness_row_at (enc := enc) (C := Tryd.checked) false (laidOn (World.holding Tryd.prog os ⟨#[], #[], []⟩)) #[.string ⟨#[]⟩, .bool false, .int .u16 0, .int .u8 0] rfl (by kernel_rfl) (by kernel_rfl) (by kernel_rfl)
      (OpenSpec.preRow_of_cond 8 hx (by kernel_rfl) (fun k hk => by cases hk) (by kernel_rfl) (laidWorld_met os _))) ?_
  intro W base args ds gs before hval hW _ _ _ hL _ _
  exact contract H enc W base args ds gs before hval hW hL

theorem said : Rows.TextReadsSaid :=
  OpenClaim.holds_of_cond 4 Tryd.f4 rfl rfl rfl rfl rfl rfl rfl ⟨rfl, rfl, rfl, rfl, rfl⟩ rfl rfl rfl rfl rfl (by kernel_rfl) Tryd.func4 (by kernel_rfl)
    (of_decide_eq_true (by kernel_rfl)) (by unfold Func.isWrapper; first | (rw [if_pos (by decide +kernel)]; kernel_rfl) | (rw [if_neg (by decide +kernel)]; exact ⟨rfl, rfl⟩))
    (fun os started H enc _ F => by rw [OpenClaim.pre_eq_preRow]; exact lifted os started H enc F)

theorem plain (f : FuncId) (fn : Func) (hf : Tryd.pinned.checked.prog.funcNamed "roundelay/roundelaylaw02.TextReads" = some f) (hfn : Tryd.pinned.checked.prog.funcs[f]? = some fn) :
    true = Tryd.pinned.checked.prog.looks [] ∧ ∀ (j : Nat) t, fn.params[j]? = some t → Tryd.pinned.checked.prog.wantsStandIn t = false := by
  obtain rfl : f = 4 := Option.some.inj ((show Tryd.prog.funcNamed "roundelay/roundelaylaw02.TextReads" = some 4 by kernel_rfl).symm.trans hf) |>.symm
  obtain rfl : fn = Tryd.f4 := (Option.some.inj (Tryd.func4.symm.trans hfn)).symm
  refine ⟨by kernel_rfl, fun j t ht => ?_⟩
  rw [Tryd.params4] at ht
  have hm := Array.mem_of_getElem? ht
  simp only [List.mem_toArray, List.mem_cons, List.not_mem_nil, or_false] at hm
  rcases hm with rfl | rfl | rfl | rfl
  · exact (show Tryd.prog.wantsStandIn 9 = false by kernel_rfl)
  · exact (show Tryd.prog.wantsStandIn 4 = false by kernel_rfl)
  · exact (show Tryd.prog.wantsStandIn 25 = false by kernel_rfl)
  · exact (show Tryd.prog.wantsStandIn 5 = false by kernel_rfl)

theorem card : Rows.TextReadsCardSaid :=
  Claim7.holds_tied_plain_at .later [] _ _ _ _ said (fun _ h => by cases h) (by kernel_rfl) (fun _ h => by cases h) textReads_row_tie rfl ⟨rfl, rfl⟩ (by kernel_rfl) rfl plain (by kernel_rfl)
end TextReads
theorem textReads_holds : Rows.TextReadsCardSaid := TextReads.card
#print axioms textReads_holds
end Go.Proofs.YtjlfmpibnlihhaaDoor
