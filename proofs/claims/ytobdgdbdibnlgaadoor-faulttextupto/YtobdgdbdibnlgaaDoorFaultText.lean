/-
  FaultText: an error's text has all places ahead of the code's: for every code and every list of places. Condition: what it reads is of bulk at most 1048576 (the second form).
-/
import Derived.Test.YtobdgdbdibnlgaaDoorTabs
namespace Go.Proofs.YtobdgdbdibnlgaaDoor
open Go.RowKit Go.Extern.Stop Go.Stop Go.Extern

theorem toList_eq {a : ByteArray} {l : List UInt8} (h : a.data.toList = l) : a = ⟨l.toArray⟩ := by
  cases a with
  | mk d => cases d; simp at h; subst h; rfl
theorem size_of_toList {a : ByteArray} {l : List UInt8} (h : a.data.toList = l) : a.size = l.length := by
  rw [← h]; rfl
theorem append_toList (a b : ByteArray) : (a ++ b).data.toList = a.data.toList ++ b.data.toList := by
  rw [ByteArray.data_append]; simp

theorem txt_length (s : ByteArray) (hs : s.size ≤ 27) : ∀ (ps : List ByteArray), (∀ p ∈ ps, p.size ≤ 1048576) → (txt s ps).length ≤ 27 + ps.length * 1048578
  | [], _ => by simp [txt]; show s.size ≤ 27; exact hs
  | p :: ps, h => by
    have h1 := txt_length s hs ps (fun q hq => h q (List.mem_cons_of_mem _ hq))
    have h2 : p.data.size ≤ 1048576 := h p (List.mem_cons_self ..)
    have h3 : p.data.size = p.size := rfl
    simp [txt]
    omega

set_option maxHeartbeats 2000000 in
theorem FaultText_walk (c : Int) (wc : Lit.wf (.int .i16 c)) (base : Option Addr) (len cap : Nat) (hlc : len ≤ cap) (hcm : cap ≤ maxLen) (ss : List ByteArray) (hss : len ≤ ss.length) (w : World) (hg : Handle w) (hs : Strs w base len ss)
    (htab : Lib.TabIs Tryd.prog w "internal/strconv.uint64pow10" .u64 Lib.pow10Tab) (hbig : ∀ p ∈ ss.take len, p.size ≤ 1048576) :
    Calls Tryd.prog 5 #[.int .i16 c, .slice base len cap] w fun e w' => e = .returned (.bool true) ∧ Below w.heap.size w w' := by
  have hcb : -32768 ≤ c ∧ c ≤ 32767 := bounds_i16 wc
  unfold maxLen at hcm
  go_enter Tryd.func5, Tryd.ntmps5
  go_wp2_with fail
  refine (awake_true _ hg).mono ?_
  rintro e w1 ⟨rfl, hB1⟩
  obtain ⟨hcl, hch⟩ := hcb
  have hm30 : (min (len : Int) 30).toNat ≤ 30 := by omega
  have hml : (min (len : Int) 30).toNat ≤ len := by omega
  have HMX : Hid (max (min (len : Int) 30) 0 = (((min (len : Int) 30).toNat : Nat) : Int)) := by show _ = _; omega
  cases hc : (c == 0)
  · go_wp2_with fail
    have htab1 := tab_below htab hB1
    refine (Error_any c (by omega) (by omega) _ htab1).mono ?_
    rintro e w2 ⟨rfl, hB2⟩
    have hB2' := hB1.trans (hB2.mono hB1.size)
    have hes := errText_size c (by omega) (by omega)
    have htab2 := tab_below htab hB2'
    have hs2 : Strs w2 base (min (len : Int) 30).toNat ss := fun k hk => (hs.below hB2') k (by omega)
    have hbig1 : ∀ p ∈ ss.take (min (len : Int) 30).toNat, p.size ≤ 1048576 := fun p hp => hbig p ((List.take_subset_take_left ss hml) hp)
    generalize hE : errText c = E at *
    have HE : Hid (errText c = E) := hE
    clear hE
    go_wp2_with fail
    rw [HMX.out]
    clear HMX htab1 htab hbig hs
    generalize (min (len : Int) 30).toNat = m at *
    have hsm : m ≤ ss.length := by omega
    have hall : ∀ k, k ≤ m → (txt E ((ss.take k).reverse ++ [⟨#[]⟩])).length ≤ 40000000 := by
      intro k hk
      have := txt_length E hes ((ss.take k).reverse ++ [⟨#[]⟩]) (by
        intro p hp
        rcases List.mem_append.1 hp with h | h
        · exact hbig1 p ((List.take_subset_take_left ss hk) (List.mem_reverse.1 h))
        · simp at h; subst h; decide)
      simp at this
      omega
    have HA : Hid (∀ k, k ≤ m → (txt E ((ss.take k).reverse ++ [⟨#[]⟩])).length ≤ 40000000) := hall
    clear hall
    go_loop [5, 24] (fun wt i => ∃ (k : Nat) (bw : ByteArray), k ≤ m ∧ i = .int .i64 k ∧ wt = .string bw ∧ bw.data.toList = txt E ((ss.take k).reverse ++ [⟨#[]⟩])) (fun _ i => m - (intOf i).toNat)
    case atStart => exact ⟨0, _, Nat.zero_le _, rfl, rfl, by rw [append_toList]; simp [txt]⟩
    case round =>
      obtain ⟨k, bw, hk, rfl, rfl, hbw⟩ := hrel
      have hbs : bw.size ≤ 40000000 := by rw [size_of_toList hbw]; exact HA.out k hk
      have HB : Hid (bw.data.toList = txt E ((ss.take k).reverse ++ [⟨#[]⟩])) := hbw
      clear hbw
      by_cases hlt : k < m
      · obtain ⟨b, off, rfl, hcl2⟩ := hs2 k hlt
        have hq : (ss.getD k ByteArray.empty).size ≤ 1048576 := by
          rw [getD_lt _ _ _ (by omega)]
          exact hbig1 _ (List.mem_take_iff_getElem.2 ⟨k, by omega, rfl⟩)
        clear hs2 hbig1
        generalize hp : ss.getD k ByteArray.empty = p at *
        have HP : Hid (ss.getD k ByteArray.empty = p) := hp
        clear hp
        have hq2 : (p ++ (⟨#[58, 32]⟩ : ByteArray)).size ≤ 1048578 := by
          rw [ByteArray.size_append]
          show p.size + 2 ≤ _
          omega
        go_wp2
        go_round
        case rel =>
          refine ⟨k + 1, _, by omega, by go_num, rfl, ?_⟩
          have e1 : (ss.take (k + 1)).reverse ++ [(⟨#[]⟩ : ByteArray)] = p :: ((ss.take k).reverse ++ [⟨#[]⟩]) := by
            rw [List.take_succ_eq_append_getElem (by omega), List.reverse_append, ← HP.out, getD_lt _ _ _ (show k < ss.length by omega)]
            rfl
          rw [append_toList, append_toList, HB.out, e1]
          simp [txt]
        case measure => simp [intOf]; omega
      · obtain rfl : k = m := by omega
        have hbw := toList_eq HB.out
        subst hbw
        clear HB hbs hbig1
        go_wp2_with fail
        refine (nest_some c hc base k cap hm30 ss hsm _ hs2).mono ?_
        rintro e w3 ⟨v, rfl, hch3, hB3⟩
        have hB3' := hB2'.trans (hB3.mono hB2'.size)
        have htab3 := tab_below htab2 hB3
        have hl3 := HA.out k (Nat.le_refl _)
        obtain ⟨q, qs, hqs⟩ : ∃ q qs, (ss.take k).reverse ++ [(⟨#[]⟩ : ByteArray)] = q :: qs := by
          cases h : (ss.take k).reverse ++ [(⟨#[]⟩ : ByteArray)] with
          | nil => simp at h
          | cons q qs => exact ⟨q, qs, rfl⟩
        rw [hqs] at hch3 hl3 ⊢
        obtain ⟨b3, x3, rfl, hcell3, hrest3⟩ := id hch3
        have mF := Tryd.methodErrorF
        have HT : Hid (Lib.TabIs Tryd.prog w3 "internal/strconv.uint64pow10" .u64 Lib.pow10Tab) := htab3
        clear hqs hcell3 hrest3 htab2 htab3 hs2
        go_wp2_with fail
        refine (Fault_Error c E q qs b3 _ (hg.below hB3') hch3 (fun W h => by rw [← HE.out]; exact Error_any c (by omega) (by omega) W (tab_below HT.out h)) (by omega)).mono ?_
        rintro e w4 ⟨rfl, hB4⟩
        clear hl3 hch3
        go_wp2
        go_ret
        exact ⟨rfl, hB3'.trans (hB4.mono hB3'.size)⟩
  · go_wp2
    go_ret
    exact ⟨rfl, hB1⟩

theorem bulk_strs {H : Type} (l : List ByteArray) : ∀ p ∈ l, p.size ≤ Rows.uptoBulkAll (Go.ChangeShapes.strs l : List (DataW H)) := by
  induction l with
  | nil => intro p hp; cases hp
  | cons s l ih =>
    intro p hp
    have e : Rows.uptoBulkAll (Go.ChangeShapes.strs (s :: l) : List (DataW H)) = s.data.toList.length + 1 + Rows.uptoBulkAll (Go.ChangeShapes.strs l : List (DataW H)) := by
      simp only [Go.ChangeShapes.strs, List.map_cons, Rows.uptoBulkAll, Rows.uptoBulk]
    rcases List.mem_cons.1 hp with rfl | hp
    · have h3 : p.data.toList.length = p.size := by simp
      omega
    · have := ih p hp
      omega

theorem bulk_second {H : Type} {d0 d1 : DataW H} (h : Rows.uptoSmall H ([d0, d1] ++ []) = true) : Rows.uptoBulk d1 ≤ 1048576 := by
  have h' : Rows.uptoBulkAll ([d0, d1] ++ []) ≤ 1048576 := of_decide_eq_true h
  simp only [List.append_nil, Rows.uptoBulkAll] at h'
  omega

open Go.ChangeShapes Go.WideShapes Go.ChangeAt in
theorem strs_upto {H : Type} {enc : TypeId × Value → H} {W : World} {a0 : Option Addr} {len cap : Nat} {d1 : DataW H} {p1 : List MemPlace} (h1 : DataW.Trod enc Tryd.prog W 0 (fun _ => true) true 22 (.slice a0 len cap) d1 p1) (hb : Rows.uptoBulk d1 ≤ 1048576) :
    ∃ ss : List ByteArray, len ≤ cap ∧ cap ≤ maxLen ∧ len ≤ ss.length ∧ Strs W a0 len ss ∧ ∀ p ∈ ss.take len, p.size ≤ 1048576 := by
  obtain ⟨fuel, hf⟩ := h1
  rcases open_strings Tryd.underlying22 Tryd.underlying9 cells9 hf with ⟨hcs, hx⟩ | ⟨a, len', cap', ss, hcs, _, hl, hm, hz, hx, hcell, hws⟩
  · simp [Value.cells] at hcs
    obtain ⟨rfl, rfl, rfl⟩ := hcs
    exact ⟨[], Nat.le_refl _, by unfold maxLen; omega, Nat.le_refl _, fun k hk => absurd hk (Nat.not_lt_zero _), fun p hp => by simp at hp⟩
  · simp [Value.cells] at hcs
    obtain ⟨rfl, rfl, rfl⟩ := hcs
    simp only [if_true] at hz
    refine ⟨ss, hl, hm, by omega, fun k hk => ?_, fun p hp => ?_⟩
    · have hsp : a.spot = none := by simpa [Addr.add] using World.cell?_spot (hcell 0 (by omega))
      have hk' := hcell k (by omega)
      obtain ⟨b, off, spot⟩ := a
      simp only at hsp
      subst hsp
      exact ⟨b, off, rfl, by rw [← add_plain]; exact hk'⟩
    · have hd := congrArg Prod.fst hx
      simp only at hd
      subst hd
      simp only [Rows.uptoBulk] at hb
      have := bulk_strs (H := H) _ p hp
      omega

namespace FaultText
open Go.ChangeShapes Go.WideShapes Go.ChangeAt
open Go.ChangeMaps (open_string shut_string)
theorem reads (os : Os) {H : Type} (enc : TypeId × Value → H) : ∃ places, DataW.whole enc Tryd.prog ((laidOn4 (World.holding Tryd.prog os ⟨#[], #[], []⟩)).forCall (fun _ _ => 0) ⟨#[], #[.int .i16 0, .slice none 0 0], []⟩).memory Tryd.f5.params.toList Rows.faultTextSpec.vars false #[((.int .i16 0) : Value), .slice none 0 0].toList 8 = some ([.lit (.int .i16 0), .nil], [], places) :=
  ⟨[], by kernel_rfl⟩

set_option maxRecDepth 100000 in
theorem contract (H : Type) (enc : TypeId × Value → H) (W : World) (base : Nat) (args : Array Value) (ds gs : List (DataW H)) (before : List MemPlace)
    (hval : ∀ (j : Nat) t v, Tryd.f5.params[j]? = some t → args[j]? = some v → Value.okWide Tryd.prog W .any base t v)
    (hW : DataW.Whole enc Tryd.prog Tryd.f5.params.toList Rows.faultTextSpec.vars false W args.toList ds gs before) (hL : laidMetH Tryd.prog Rows.faultTextUptoRow.laid W) (hcond : Rows.uptoSmall H (ds ++ gs) = true) :
    Calls Tryd.prog 5 args W fun e W' => ∃ v, e = .returned v ∧ Rows.faultTextSpec.post enc Tryd.prog Tryd.f5 false true false false W args v W' := by
  have hW' := hW
  obtain ⟨p, q, hA0, hV, rfl, hfz, hnd⟩ := hW
  have hA : DataW.TrodAll enc Tryd.prog W 0 (fun _ => true) true Tryd.f5.params.toList args.toList ds p := hA0
  rw [Tryd.params5] at hA hval
  obtain ⟨v0, v1, d0, d1, p0, p1, rfl, rfl, rfl, h0, h1⟩ := trodAll_two hA
  obtain ⟨rfl, rfl⟩ := trodVars_none hV
  obtain ⟨c0, rfl, rfl, rfl, wc0⟩ := open_int Tryd.underlying31 (hval 0 31 v0 rfl rfl) h0
  obtain ⟨a0, len, cap, rfl⟩ := okWide_slice Tryd.underlying22 (hval 1 22 v1 rfl rfl)
  have hlt : ∀ x ∈ p1, x.block < W.heap.size := fun x hx => by simpa using hW'.lt x (by simp [hx])
  obtain ⟨ss, hlc, hcm, hss, hs, hbig⟩ := strs_upto h1 (by simpa using bulk_second hcond)
  obtain ⟨htab, hg⟩ := laid4_parts hL
  refine (FaultText_walk c0 wc0 a0 len cap hlc hcm ss hss W hg hs htab hbig).mono fun e W' ⟨he, hb⟩ => ?_
  subst he
  simp only [List.nil_append, List.append_nil] at hW' hfz hnd ⊢
  refine ⟨_, rfl, _, _, _, [], p1, [], hW', ?_, ?_, ?_, hb.frame _, fun h => by cases h⟩
  · exact trodAll_mk1 (shut_bool Tryd.underlying4 _)
  · exact trodAll_mk2 (shut_int Tryd.underlying31 wc0) (Below.trod laidOut readable22 (of_decide_eq_true (by kernel_rfl)) h1 hb hlt)
  · rfl

set_option maxRecDepth 100000 in
theorem lifted (os : Os) (started : os.Started) (H : Type) (enc : TypeId × Value → H) (F : Stop.Interp) :
    ReturnsInHanded {} Tryd.checked os 5 .any ((Rows.OpenSpec.upto Rows.faultTextSpec).preRow enc Tryd.prog Tryd.f5 Rows.faultTextUptoRow.domain false Rows.faultTextUptoRow.laid) (((Rows.OpenSpec.upto Rows.faultTextSpec).at F).post enc Tryd.prog Tryd.f5 false true false false) := by
  obtain ⟨places, hx⟩ := reads os enc
  refine returnsInHanded_of_row (C := Tryd.checked) (s := (Rows.OpenSpec.upto Rows.faultTextSpec)) own started (by kernel_rfl) Tryd.func5
    (witness_row_at (enc := enc) (C := Tryd.checked) false (laidOn4 (World.holding Tryd.prog os ⟨#[], #[], []⟩)) #[.int .i16 0, .slice none 0 0] rfl (by kernel_rfl) (by kernel_rfl) (by kernel_rfl)
      (OpenSpec.preRow_of_cond 8 hx (by kernel_rfl) (fun k hk => by cases hk; kernel_rfl) (by kernel_rfl) (laidWorld4_met os _))) ?_
  intro W base args ds gs before hval hW _ hcond _ hL _ _
  exact contract H enc W base args ds gs before hval hW hL (hcond _ rfl)

theorem said : Rows.FaultTextUptoSaid :=
  OpenClaim.holds_of_cond 5 Tryd.f5 rfl rfl rfl rfl rfl rfl rfl ⟨rfl, rfl, rfl, rfl, rfl⟩ rfl rfl rfl rfl rfl (by kernel_rfl) Tryd.func5 (by kernel_rfl)
    (of_decide_eq_true (by kernel_rfl)) (by unfold Func.isWrapper; first | (rw [if_pos (by decide +kernel)]; kernel_rfl) | (rw [if_neg (by decide +kernel)]; exact ⟨rfl, rfl⟩))
    (fun os started H enc _ F => by rw [OpenClaim.pre_eq_preRow]; exact lifted os started H enc F)

theorem plain (f : FuncId) (fn : Func) (hf : Tryd.pinned.checked.prog.funcNamed "roundelay/roundelaylaw01.FaultText" = some f) (hfn : Tryd.pinned.checked.prog.funcs[f]? = some fn) :
    true = Tryd.pinned.checked.prog.looks [] ∧ ∀ (j : Nat) t, fn.params[j]? = some t → Tryd.pinned.checked.prog.wantsStandIn t = false := by
  obtain rfl : f = 5 := Option.some.inj ((show Tryd.prog.funcNamed "roundelay/roundelaylaw01.FaultText" = some 5 by kernel_rfl).symm.trans hf) |>.symm
  obtain rfl : fn = Tryd.f5 := (Option.some.inj (Tryd.func5.symm.trans hfn)).symm
  refine ⟨by kernel_rfl, fun j t ht => ?_⟩
  rw [Tryd.params5] at ht
  have hm := Array.mem_of_getElem? ht
  simp only [List.mem_toArray, List.mem_cons, List.not_mem_nil, or_false] at hm
  rcases hm with rfl | rfl
  · exact (show Tryd.prog.wantsStandIn 31 = false by kernel_rfl)
  · exact (show Tryd.prog.wantsStandIn 22 = false by kernel_rfl)

theorem card : Rows.FaultTextUptoCardSaid :=
  Claim7.holds_tied_plain_at .later [] _ _ _ _ said (fun _ h => by cases h) (by kernel_rfl) (fun _ h => by cases h) faultTextUpto_row_tie rfl ⟨rfl, rfl⟩ (by kernel_rfl) rfl plain (by kernel_rfl)
end FaultText
theorem faultText_holds : Rows.FaultTextUptoCardSaid := FaultText.card
#print axioms faultText_holds
end Go.Proofs.YtobdgdbdibnlgaaDoor
