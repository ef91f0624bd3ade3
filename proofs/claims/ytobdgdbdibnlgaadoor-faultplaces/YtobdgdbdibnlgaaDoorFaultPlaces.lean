/-
  FaultPlaces: all places are told, the outermost one first: for every code and every list of places. No conditions.
-/
import Derived.Test.YtobdgdbdibnlgaaDoorRow
import Derived.Test.YtobdgdbdibnlgaaDoorPlaces
import Derived.BigQuiet
import Derived.Deep.QuietTactic
import Derived.WalkSmall
namespace Go.Proofs.YtobdgdbdibnlgaaDoor
open Go.RowKit Go.Extern.Stop Go.Stop Go.Extern

theorem place_at (ss : List ByteArray) (m k : Nat) (hm : m ≤ ss.length) (hk : k < m) : (((ss.take m).reverse ++ [(⟨#[]⟩ : ByteArray)]).map Value.string)[k]? = some (.string (ss.getD (m - 1 - k) ByteArray.empty)) := by
  rw [List.getElem?_map, List.getElem?_append_left (by simp; omega), List.getElem?_reverse (by simp; omega), List.getElem?_take]
  simp [List.getD_eq_getElem?_getD, Nat.min_eq_left hm, show m - 1 - k < m by omega, show m - 1 - k < ss.length by omega]
theorem place_last (ss : List ByteArray) (m : Nat) (hm : m ≤ ss.length) : (((ss.take m).reverse ++ [(⟨#[]⟩ : ByteArray)]).map Value.string)[m]? = some (.string ⟨#[]⟩) := by
  rw [List.getElem?_map, List.getElem?_append_right (by simp; omega)]
  simp [Nat.min_eq_left hm]

set_option maxHeartbeats 1000000 in
theorem FaultPlaces_walk (c : Int) (base : Option Addr) (len cap : Nat) (hlc : len ≤ cap) (hcm : cap ≤ maxLen) (ss : List ByteArray) (hss : len ≤ ss.length) (w : World) (hg : Handle w) (hs : Strs w base len ss) :
    Calls Tryd.prog 4 #[.int .i64 c, .slice base len cap] w fun e w' => e = .returned (.bool true) ∧ Below w.heap.size w w' := by
  unfold maxLen at hcm
  go_enter Tryd.func4, Tryd.ntmps4
  go_wp2_with fail
  refine (awake_true _ hg).mono ?_
  rintro e w1 ⟨rfl, hB1⟩
  go_wp2_with fail
  generalize hm : (min (len : Int) 30).toNat = m
  have hm30 : m ≤ 30 := by omega
  have hml : m ≤ len := by omega
  have hs1 : Strs w1 base m ss := fun k hk => (hs.below hB1) k (by omega)
  have hsm : m ≤ ss.length := by omega
  clear hm hs
  cases hc : (c == 0)
  · refine (nest_some c hc base m cap hm30 ss hsm _ hs1).mono ?_
    rintro e w2 ⟨v, rfl, hch, hB2⟩
    have hB2' := hB1.trans (hB2.mono hB1.size)
    go_wp2_with fail
    refine (Places_some _ (.inl ⟨c, rfl⟩) _ (by simp; omega) _ _ (hg.below hB2') hch).mono ?_
    rintro e w3 ⟨r, rfl, hown, hB3⟩
    have hB3' := hB2'.trans (hB3.mono hB2'.size)
    have hs3 : Strs w3 base m ss := (hs1.below hB2).below hB3
    have hn : ((ss.take m).reverse ++ [(⟨#[]⟩ : ByteArray)]).length = m + 1 := by simp; omega
    rw [hn] at hown
    obtain ⟨g, cp, hr, hcp, hcells⟩ : ∃ g cp, r = .slice (some ⟨g, 0, none⟩) (m + 1) cp ∧ m + 1 ≤ cp ∧ ∀ j, j < m + 1 → w3.cell? ⟨g, j, none⟩ = (((ss.take m).reverse ++ [(⟨#[]⟩ : ByteArray)]).map Value.string)[j]? := by
      obtain ⟨g, cp, rfl⟩ := is_slice hown
      obtain ⟨_, h⟩ := id hown
      rcases h with ⟨h, _⟩ | ⟨g', cap', cur, h, _, _, hcp, _⟩
      · simp at h
      · simp only [Value.slice.injEq] at h
        obtain ⟨rfl, _, rfl⟩ := h
        exact ⟨g', cp, rfl, hcp, fun j hj => hown.cellAt j (by omega)⟩
    subst hr
    have hl : w3.cell? ⟨g, m, none⟩ = some (.string ⟨#[]⟩) := by rw [hcells m (by omega)]; exact place_last ss m hsm
    have hp : ∀ k, k < m → w3.cell? ⟨g, k, none⟩ = some (.string (ss.getD (m - 1 - k) ByteArray.empty)) := fun k hk => by rw [hcells k (by omega)]; exact place_at ss m k hsm hk
    have HP : Hid (∀ k, k < m → w3.cell? ⟨g, k, none⟩ = some (.string (ss.getD (m - 1 - k) ByteArray.empty))) := hp
    clear hp hcells hown hch hB2 hB3 hs1 hn
    go_wp2_with fail
    go_loopw [40] (fun i wr => ∃ k : Nat, k ≤ m ∧ i = .int .i64 k ∧ ∃ n, wr = w3.drewN n) (fun i _ => m - (intOf i).toNat)
    case atStart => exact ⟨0, Nat.zero_le _, rfl, 0, rfl⟩
    case round =>
      obtain ⟨k, hk, rfl, n, rfl⟩ := hrel
      by_cases hlt : k < m
      · have h1 := HP.out k hlt
        obtain ⟨b, off, rfl, h2⟩ := hs3 (m - 1 - k) (by omega)
        generalize ss.getD (m - 1 - k) ByteArray.empty = q at h1 h2
        clear hs3
        have b1 : (k : Int) < (m : Int) + 1 := by omega
        have b2 : (0 : Int) ≤ (m : Int) - 1 - k := by omega
        have b3 : (m : Int) - 1 - k < m := by omega
        go_wp2
        go_quiet (fail)
        go_wp2
        go_roundw
        case rel => exact ⟨k + 1, by omega, by go_num, _, rfl⟩
        case measure => simp [intOf]; omega
      · go_wp2
        go_ret
        exact ⟨rfl, below_drewN hB3' n⟩
  · obtain rfl : c = 0 := by simpa using hc
    refine (nest_none base m cap hm30 ss _ hs1).mono ?_
    rintro e w2 ⟨rfl, rfl⟩
    go_wp2_with fail
    refine (Places_none _).mono ?_
    rintro e w3 ⟨rfl, hB3⟩
    go_wp2
    go_ret
    exact ⟨rfl, hB1.trans (hB3.mono hB1.size)⟩

namespace FaultPlaces
open Go.ChangeShapes Go.WideShapes Go.ChangeAt
open Go.ChangeMaps (open_string shut_string)
theorem reads (os : Os) {H : Type} (enc : TypeId × Value → H) : ∃ places, DataW.whole enc Tryd.prog ((laidOn (World.holding Tryd.prog os ⟨#[], #[], []⟩)).forCall (fun _ _ => 0) ⟨#[], #[.int .i64 0, .slice none 0 0], []⟩).memory Tryd.f4.params.toList Rows.faultPlacesSpec.vars false #[((.int .i64 0) : Value), .slice none 0 0].toList 8 = some ([.lit (.int .i64 0), .nil], [], places) :=
  ⟨[], by kernel_rfl⟩

set_option maxRecDepth 100000 in
theorem contract (H : Type) (enc : TypeId × Value → H) (W : World) (base : Nat) (args : Array Value) (ds gs : List (DataW H)) (before : List MemPlace)
    (hval : ∀ (j : Nat) t v, Tryd.f4.params[j]? = some t → args[j]? = some v → Value.okWide Tryd.prog W .any base t v)
    (hW : DataW.Whole enc Tryd.prog Tryd.f4.params.toList Rows.faultPlacesSpec.vars false W args.toList ds gs before) (hL : laidMetH Tryd.prog Rows.faultPlacesRow.laid W) :
    Calls Tryd.prog 4 args W fun e W' => ∃ v, e = .returned v ∧ Rows.faultPlacesSpec.post enc Tryd.prog Tryd.f4 false true false false W args v W' := by
  have hW' := hW
  obtain ⟨p, q, hA0, hV, rfl, hfz, hnd⟩ := hW
  have hA : DataW.TrodAll enc Tryd.prog W 0 (fun _ => true) true Tryd.f4.params.toList args.toList ds p := hA0
  rw [Tryd.params4] at hA hval
  obtain ⟨v0, v1, d0, d1, p0, p1, rfl, rfl, rfl, h0, h1⟩ := trodAll_two hA
  obtain ⟨rfl, rfl⟩ := trodVars_none hV
  obtain ⟨c0, rfl, rfl, rfl, wc0⟩ := open_int Tryd.underlying3 (hval 0 3 v0 rfl rfl) h0
  obtain ⟨a0, len, cap, rfl⟩ := okWide_slice Tryd.underlying22 (hval 1 22 v1 rfl rfl)
  have hlt : ∀ x ∈ p1, x.block < W.heap.size := fun x hx => by simpa using hW'.lt x (by simp [hx])
  obtain ⟨ss, hlc, hcm, hss, hs⟩ := strs_of h1
  have hg := handle_of_laid hL
  refine (FaultPlaces_walk c0 a0 len cap hlc hcm ss hss W hg hs).mono fun e W' ⟨he, hb⟩ => ?_
  subst he
  simp only [List.nil_append, List.append_nil] at hW' hfz hnd ⊢
  refine ⟨_, rfl, _, _, _, [], p1, [], hW', ?_, ?_, ?_, hb.frame _, fun h => by cases h⟩
  · exact trodAll_mk1 (shut_bool Tryd.underlying4 _)
  · exact trodAll_mk2 (shut_int Tryd.underlying3 wc0) (Below.trod laidOut readable22 (of_decide_eq_true (by kernel_rfl)) h1 hb hlt)
  · rfl

set_option maxRecDepth 100000 in
theorem lifted (os : Os) (started : os.Started) (H : Type) (enc : TypeId × Value → H) (F : Stop.Interp) :
    ReturnsInHanded {} Tryd.checked os 4 .any ((OpenSpec.ofChange Rows.faultPlacesSpec).preRow enc Tryd.prog Tryd.f4 Rows.faultPlacesRow.domain false Rows.faultPlacesRow.laid) (((OpenSpec.ofChange Rows.faultPlacesSpec).at F).post enc Tryd.prog Tryd.f4 false true false false) := by
  obtain ⟨places, hx⟩ := reads os enc
  refine returnsInHanded_of_row (C := Tryd.checked) (s := (OpenSpec.ofChange Rows.faultPlacesSpec)) own started (by kernel_rfl) Tryd.func4
    (witness_row_at (enc := enc) (C := Tryd.checked) false (laidOn (World.holding Tryd.prog os ⟨#[], #[], []⟩)) #[.int .i64 0, .slice none 0 0] rfl (by kernel_rfl) (by kernel_rfl) (by kernel_rfl)
      (OpenSpec.preRow_of_cond 8 hx (by kernel_rfl) (fun k hk => by cases hk) (by kernel_rfl) (laidWorld_met os _))) ?_
  intro W base args ds gs before hval hW _ _ _ hL _ _
  exact contract H enc W base args ds gs before hval hW hL

theorem said : Rows.FaultPlacesSaid :=
  OpenClaim.holds_of_cond 4 Tryd.f4 rfl rfl rfl rfl rfl rfl rfl ⟨rfl, rfl, rfl, rfl, rfl⟩ rfl rfl rfl rfl rfl (by kernel_rfl) Tryd.func4 (by kernel_rfl)
    (of_decide_eq_true (by kernel_rfl)) (by unfold Func.isWrapper; first | (rw [if_pos (by decide +kernel)]; kernel_rfl) | (rw [if_neg (by decide +kernel)]; exact ⟨rfl, rfl⟩))
    (fun os started H enc _ F => by rw [OpenClaim.pre_eq_preRow]; exact lifted os started H enc F)

theorem plain (f : FuncId) (fn : Func) (hf : Tryd.pinned.checked.prog.funcNamed "roundelay/roundelaylaw01.FaultPlaces" = some f) (hfn : Tryd.pinned.checked.prog.funcs[f]? = some fn) :
    true = Tryd.pinned.checked.prog.looks [] ∧ ∀ (j : Nat) t, fn.params[j]? = some t → Tryd.pinned.checked.prog.wantsStandIn t = false := by
  obtain rfl : f = 4 := Option.some.inj ((show Tryd.prog.funcNamed "roundelay/roundelaylaw01.FaultPlaces" = some 4 by kernel_rfl).symm.trans hf) |>.symm
  obtain rfl : fn = Tryd.f4 := (Option.some.inj (Tryd.func4.symm.trans hfn)).symm
  refine ⟨by kernel_rfl, fun j t ht => ?_⟩
  rw [Tryd.params4] at ht
  have hm := Array.mem_of_getElem? ht
  simp only [List.mem_toArray, List.mem_cons, List.not_mem_nil, or_false] at hm
  rcases hm with rfl | rfl
  · exact (show Tryd.prog.wantsStandIn 3 = false by kernel_rfl)
  · exact (show Tryd.prog.wantsStandIn 22 = false by kernel_rfl)

theorem card : Rows.FaultPlacesCardSaid :=
  Claim7.holds_tied_plain_at .later [] _ _ _ _ said (fun _ h => by cases h) (by kernel_rfl) (fun _ h => by cases h) faultPlaces_row_tie rfl ⟨rfl, rfl⟩ (by kernel_rfl) rfl plain (by kernel_rfl)
end FaultPlaces
theorem faultPlaces_holds : Rows.FaultPlacesCardSaid := FaultPlaces.card
#print axioms faultPlaces_holds
end Go.Proofs.YtobdgdbdibnlgaaDoor
