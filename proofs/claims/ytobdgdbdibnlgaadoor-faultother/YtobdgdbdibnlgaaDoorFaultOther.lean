/-
  FaultOther: an error that has no code is told to have the one for others, wrapped or not: for every text and every list of places. No conditions.
-/
import Derived.Test.YtobdgdbdibnlgaaDoorRow
import Derived.Test.YtobdgdbdibnlgaaDoorPlaces
namespace Go.Proofs.YtobdgdbdibnlgaaDoor
open Go.RowKit Go.Extern.Stop Go.Stop Go.Extern

set_option maxHeartbeats 1000000 in
theorem FaultOther_walk (s : ByteArray) (base : Option Addr) (len cap : Nat) (hlc : len ≤ cap) (hcm : cap ≤ maxLen) (ss : List ByteArray) (hss : len ≤ ss.length) (w : World) (hg : Handle w) (hs : Strs w base len ss) :
    Calls Tryd.prog 6 #[.string s, .slice base len cap] w fun e w' => e = .returned (.bool true) ∧ Below w.heap.size w w' := by
  unfold maxLen at hcm
  go_enter Tryd.func6, Tryd.ntmps6
  go_wp2_with fail
  refine (awake_true _ hg).mono ?_
  rintro e w1 ⟨rfl, hB1⟩
  go_wp2_with fail
  generalize hm : (min (len : Int) 30).toNat = m
  have hm30 : m ≤ 30 := by omega
  have hml : m ≤ len := by omega
  have hs1 : Strs w1 base m ss := fun k hk => (hs.below hB1) k (by omega)
  have hsm : m ≤ ss.length := by omega
  have hmx : max (min (len : Int) 30) 0 = (m : Int) := by omega
  rw [hmx]
  clear hm hs hmx
  go_loopw [5, 20] (fun err i wr => ∃ k : Nat, k ≤ m ∧ i = .int .i64 k ∧ Below w1.heap.size w1 wr ∧ Chain wr (.iface 35 (.agg #[.string s])) (ss.take k).reverse err) (fun _ i _ => m - (intOf i).toNat)
  case atStart => exact ⟨0, Nat.zero_le _, rfl, Below.refl _ _, rfl⟩
  case round =>
    obtain ⟨k, hk, rfl, hB, hch⟩ := hrel
    obtain ⟨u, z, rfl⟩ := hch.iface
    by_cases hlt : k < m
    · obtain ⟨b, off, rfl, hcl⟩ := hs1 k hlt
      have hcr : wr.cell? ⟨b, off + k, none⟩ = some (.string (ss.getD k ByteArray.empty)) := by rw [hB.cell (lt_of_cell hcl)]; exact hcl
      clear hs1 hcl
      generalize hp : ss.getD k ByteArray.empty = p at *
      have HP : Hid (ss.getD k ByteArray.empty = p) := hp
      clear hp
      go_wp2_with (go_at_call 14; refine (Wrap_some _ _ _ _).mono ?_; rintro e w' ⟨rfl, rfl⟩)
      go_roundw
      case rel =>
        refine ⟨k + 1, by omega, by go_num, hB.alloc hB.size _, ?_⟩
        have e1 : (ss.take (k + 1)).reverse = p :: (ss.take k).reverse := by
          rw [List.take_succ_eq_append_getElem (by omega), List.reverse_append, ← HP.out, getD_lt _ _ _ (show k < ss.length by omega)]
          rfl
        rw [e1]
        refine ⟨wr.heap.size, .iface u z, rfl, ?_, hch.below ((Below.refl _ _).alloc (Nat.le_refl _) _)⟩
        show (wr.heap.push _)[_]? = _
        rw [Array.getElem?_push, if_pos rfl]
      case measure => simp [intOf]; omega
    · obtain rfl : k = m := by omega
      clear hs1
      have hB' := hB1.trans (hB.mono hB1.size)
      have hlen : (ss.take k).reverse.length = k := by simp; omega
      have HL : Hid ((ss.take k).reverse.length = k) := hlen
      clear hlen
      generalize (ss.take k).reverse = ps at *
      go_wp2_with fail
      refine (Code_other ps _ _ _ (hg.below hB') hch).mono ?_
      rintro e w3 ⟨rfl, hB3⟩
      have hB3' := hB'.trans (hB3.mono hB'.size)
      go_wp2_with fail
      refine (Places_some _ (.inr ⟨_, rfl⟩) ps (by rw [HL.out]; omega) _ _ (hg.below hB3') (hch.below hB3)).mono ?_
      rintro e w4 ⟨r, rfl, hown, hB4⟩
      obtain ⟨g, cp, rfl⟩ := is_slice hown
      have hB4' := hB3'.trans (hB4.mono hB3'.size)
      rw [HL.out]
      clear hown
      go_wp2
      go_ret
      exact ⟨rfl, hB4'⟩

namespace FaultOther
open Go.ChangeShapes Go.WideShapes Go.ChangeAt
open Go.ChangeMaps (open_string shut_string)
theorem reads (os : Os) {H : Type} (enc : TypeId × Value → H) : ∃ places, DataW.whole enc Tryd.prog ((laidOn (World.holding Tryd.prog os ⟨#[], #[], []⟩)).forCall (fun _ _ => 0) ⟨#[], #[.string ⟨#[]⟩, .slice none 0 0], []⟩).memory Tryd.f6.params.toList Rows.faultOtherSpec.vars false #[((.string ⟨#[]⟩) : Value), .slice none 0 0].toList 8 = some ([.lit (.string []), .nil], [], places) :=
  ⟨[], by kernel_rfl⟩

set_option maxRecDepth 100000 in
theorem contract (H : Type) (enc : TypeId × Value → H) (W : World) (base : Nat) (args : Array Value) (ds gs : List (DataW H)) (before : List MemPlace)
    (hval : ∀ (j : Nat) t v, Tryd.f6.params[j]? = some t → args[j]? = some v → Value.okWide Tryd.prog W .any base t v)
    (hW : DataW.Whole enc Tryd.prog Tryd.f6.params.toList Rows.faultOtherSpec.vars false W args.toList ds gs before) (hL : laidMetH Tryd.prog Rows.faultOtherRow.laid W) :
    Calls Tryd.prog 6 args W fun e W' => ∃ v, e = .returned v ∧ Rows.faultOtherSpec.post enc Tryd.prog Tryd.f6 false true false false W args v W' := by
  have hW' := hW
  obtain ⟨p, q, hA0, hV, rfl, hfz, hnd⟩ := hW
  have hA : DataW.TrodAll enc Tryd.prog W 0 (fun _ => true) true Tryd.f6.params.toList args.toList ds p := hA0
  rw [Tryd.params6] at hA hval
  obtain ⟨v0, v1, d0, d1, p0, p1, rfl, rfl, rfl, h0, h1⟩ := trodAll_two hA
  obtain ⟨rfl, rfl⟩ := trodVars_none hV
  obtain ⟨s0, rfl, rfl, rfl, hs0⟩ := open_string Tryd.underlying9 (hval 0 9 v0 rfl rfl) h0
  obtain ⟨a0, len, cap, rfl⟩ := okWide_slice Tryd.underlying22 (hval 1 22 v1 rfl rfl)
  have hlt : ∀ x ∈ p1, x.block < W.heap.size := fun x hx => by simpa using hW'.lt x (by simp [hx])
  obtain ⟨ss, hlc, hcm, hss, hs⟩ := strs_of h1
  have hg := handle_of_laid hL
  refine (FaultOther_walk s0 a0 len cap hlc hcm ss hss W hg hs).mono fun e W' ⟨he, hb⟩ => ?_
  subst he
  simp only [List.nil_append, List.append_nil] at hW' hfz hnd ⊢
  refine ⟨_, rfl, _, _, _, [], p1, [], hW', ?_, ?_, ?_, hb.frame _, fun h => by cases h⟩
  · exact trodAll_mk1 (shut_bool Tryd.underlying4 _)
  · exact trodAll_mk2 (shut_string Tryd.underlying9 hs0) (Below.trod laidOut readable22 (of_decide_eq_true (by kernel_rfl)) h1 hb hlt)
  · rfl

set_option maxRecDepth 100000 in
theorem lifted (os : Os) (started : os.Started) (H : Type) (enc : TypeId × Value → H) (F : Stop.Interp) :
    ReturnsInHanded {} Tryd.checked os 6 .any ((OpenSpec.ofChange Rows.faultOtherSpec).preRow enc Tryd.prog Tryd.f6 Rows.faultOtherRow.domain false Rows.faultOtherRow.laid) (((OpenSpec.ofChange Rows.faultOtherSpec).at F).post enc Tryd.prog Tryd.f6 false true false false) := by
  obtain ⟨places, hx⟩ := reads os enc
  refine returnsInHanded_of_row (C := Tryd.checked) (s := (OpenSpec.ofChange Rows.faultOtherSpec)) own started (by kernel_rfl) Tryd.func6
    (witness_row_at (enc := enc) (C := Tryd.checked) false (laidOn (World.holding Tryd.prog os ⟨#[], #[], []⟩)) #[.string ⟨#[]⟩, .slice none 0 0] rfl (by kernel_rfl) (by kernel_rfl) (by kernel_rfl)
      (OpenSpec.preRow_of_cond 8 hx (by kernel_rfl) (fun k hk => by cases hk) (by kernel_rfl) (laidWorld_met os _))) ?_
  intro W base args ds gs before hval hW _ _ _ hL _ _
  exact contract H enc W base args ds gs before hval hW hL

theorem said : Rows.FaultOtherSaid :=
  OpenClaim.holds_of_cond 6 Tryd.f6 rfl rfl rfl rfl rfl rfl rfl ⟨rfl, rfl, rfl, rfl, rfl⟩ rfl rfl rfl rfl rfl (by kernel_rfl) Tryd.func6 (by kernel_rfl)
    (of_decide_eq_true (by kernel_rfl)) (by unfold Func.isWrapper; first | (rw [if_pos (by decide +kernel)]; kernel_rfl) | (rw [if_neg (by decide +kernel)]; exact ⟨rfl, rfl⟩))
    (fun os started H enc _ F => by rw [OpenClaim.pre_eq_preRow]; exact lifted os started H enc F)

theorem plain (f : FuncId) (fn : Func) (hf : Tryd.pinned.checked.prog.funcNamed "roundelay/roundelaylaw01.FaultOther" = some f) (hfn : Tryd.pinned.checked.prog.funcs[f]? = some fn) :
    true = Tryd.pinned.checked.prog.looks [] ∧ ∀ (j : Nat) t, fn.params[j]? = some t → Tryd.pinned.checked.prog.wantsStandIn t = false := by
  obtain rfl : f = 6 := Option.some.inj ((show Tryd.prog.funcNamed "roundelay/roundelaylaw01.FaultOther" = some 6 by kernel_rfl).symm.trans hf) |>.symm
  obtain rfl : fn = Tryd.f6 := (Option.some.inj (Tryd.func6.symm.trans hfn)).symm
  refine ⟨by kernel_rfl, fun j t ht => ?_⟩
  rw [Tryd.params6] at ht
  have hm := Array.mem_of_getElem? ht
  simp only [List.mem_toArray, List.mem_cons, List.not_mem_nil, or_false] at hm
  rcases hm with rfl | rfl
  · exact (show Tryd.prog.wantsStandIn 9 = false by kernel_rfl)
  · exact (show Tryd.prog.wantsStandIn 22 = false by kernel_rfl)

theorem card : Rows.FaultOtherCardSaid :=
  Claim7.holds_tied_plain_at .later [] _ _ _ _ said (fun _ h => by cases h) (by kernel_rfl) (fun _ h => by cases h) faultOther_row_tie rfl ⟨rfl, rfl⟩ (by kernel_rfl) rfl plain (by kernel_rfl)
end FaultOther
theorem faultOther_holds : Rows.FaultOtherCardSaid := FaultOther.card
#print axioms faultOther_holds
end Go.Proofs.YtobdgdbdibnlgaaDoor
