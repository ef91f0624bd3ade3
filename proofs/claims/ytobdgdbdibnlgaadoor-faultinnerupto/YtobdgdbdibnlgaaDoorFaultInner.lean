/-
  FaultInner: what is unwrapped is what was wrapped: for every code of a byte and every two texts. Condition: what it reads is of bulk at most 1048576 (the second form).
-/
import Derived.Test.YtobdgdbdibnlgaaDoorInner
import Derived.Test.YtobdgdbdibnlgaaDoorRow
namespace Go.Proofs.YtobdgdbdibnlgaaDoor
open Go.RowKit Go.Extern.Stop Go.Stop Go.Extern

theorem inner_text (a b E : ByteArray) : (⟨(txt E [b, a]).toArray⟩ : ByteArray) = b ++ ⟨#[58, 32]⟩ ++ ⟨(txt E [a]).toArray⟩ := by
  apply ByteArray.ext
  rw [ByteArray.data_append, ByteArray.data_append]
  simp [txt]

theorem Unwrap_of (b : Nat) (x : Value) (w : World) (h : w.cell? ⟨b, 1, none⟩ = some x) : Calls Tryd.prog 16 #[.pointer (some ⟨b, 0, none⟩)] w fun e w' => e = .returned x ∧ w' = w := by
  go_enter Tryd.func16, Tryd.ntmps16
  go_wp2
  go_ret
  exact ⟨rfl, rfl⟩
/-- a fact on one cell, behind calls that keep what was there. -/
theorem cell_kept {w w' : World} {p : Addr} {v : Value} (h : Hid (w.cell? p = some v)) (hb : Below w.heap.size w w') : Hid (w'.cell? p = some v) := by
  show w'.cell? p = some v
  rw [hb.cell (lt_of_cell h.out)]
  exact h.out

set_option maxHeartbeats 2000000 in
theorem FaultInner_walk (c : Int) (hc0 : 0 ≤ c) (hc1 : c ≤ 255) (a b : ByteArray) (ha : a.size ≤ 1048576) (hb : b.size ≤ 1048576) (w : World) (hg : Handle w) (hx : ∃ x : Int, w.cell? ⟨1, 2, none⟩ = some (.int .u64 x)) :
    Calls Tryd.prog 8 #[.int .u8 c, .string a, .string b] w fun e w' => e = .returned (.bool true) ∧ Below w.heap.size w w' := by
  obtain ⟨x, hx⟩ := hx
  obtain ⟨n, hn⟩ : ∃ n : Nat, c + 1 = (n : Int) := ⟨(c + 1).toNat, by omega⟩
  obtain ⟨E, hEs, hE⟩ := Error_det n (by omega) (decide (x ≤ (n : Int)))
  rw [← hn] at hE
  have HE : Hid (∀ W : World, W.cell? ⟨1, 2, none⟩ = some (.int .u64 x) → Calls Tryd.prog 13 #[.int .i64 (c + 1)] W fun e w' => e = .returned (.string E) ∧ Below W.heap.size W w') := fun W h => hE W x h rfl
  have HX : Hid (w.cell? ⟨1, 2, none⟩ = some (.int .u64 x)) := hx
  have hcn : (c + 1 == 0) = false := by simp; omega
  have hl1 : (txt E [a]).length ≤ 140737488355328 := by
    have h3 : a.data.size = a.size := rfl
    have h4 : E.data.size = E.size := rfl
    simp [txt]; omega
  have hl2 : (txt E [b, a]).length ≤ 140737488355328 := by
    have h3 : a.data.size = a.size := rfl
    have h4 : E.data.size = E.size := rfl
    have h5 : b.data.size = b.size := rfl
    simp [txt]; omega
  have mF := Tryd.methodErrorF
  have hsz1 : (⟨(txt E [a]).toArray⟩ : ByteArray).size ≤ 2000000 := by
    have h3 : a.data.size = a.size := rfl
    have h4 : E.data.size = E.size := rfl
    show Array.size _ ≤ _
    simp [txt]; omega
  have hsz2 : (b ++ (⟨#[58, 32]⟩ : ByteArray)).size ≤ 1048578 := by
    rw [ByteArray.size_append]
    show b.size + 2 ≤ _
    omega
  clear hE hn hx hEs
  go_enter Tryd.func8, Tryd.ntmps8
  go_wp2_with fail
  refine (awake_true _ hg).mono ?_
  rintro e w1 ⟨rfl, hB1⟩
  go_wp2_with fail
  refine (New_some (c + 1) hcn _ _).mono ?_
  rintro e w2 ⟨rfl, rfl⟩
  have hB2 : Below w.heap.size w (w1.alloc (.cells #[.string a, .iface 27 (.int .i64 (c + 1))] 41)) := hB1.alloc hB1.size _
  have hB3 : Below w.heap.size w ((w1.alloc (.cells #[.string a, .iface 27 (.int .i64 (c + 1))] 41)).alloc (.cells #[.string b, .iface 39 (.pointer (some ⟨w1.heap.size, 0, none⟩))] 41)) := hB2.alloc hB2.size _
  have hch : Chain ((w1.alloc (.cells #[.string a, .iface 27 (.int .i64 (c + 1))] 41)).alloc (.cells #[.string b, .iface 39 (.pointer (some ⟨w1.heap.size, 0, none⟩))] 41)) (.iface 27 (.int .i64 (c + 1))) [b, a] (.iface 39 (.pointer (some ⟨w1.heap.size + 1, 0, none⟩))) := by
    refine ⟨w1.heap.size + 1, .iface 39 (.pointer (some ⟨w1.heap.size, 0, none⟩)), rfl, ?_, w1.heap.size, .iface 27 (.int .i64 (c + 1)), rfl, ?_, rfl⟩
    · show ((w1.heap.push _).push _)[_]? = _
      rw [Array.getElem?_push, if_pos (by simp)]
    · show ((w1.heap.push _).push _)[_]? = _
      rw [Array.getElem?_push, if_neg (by simp), Array.getElem?_push, if_pos rfl]
  have hin : Chain ((w1.alloc (.cells #[.string a, .iface 27 (.int .i64 (c + 1))] 41)).alloc (.cells #[.string b, .iface 39 (.pointer (some ⟨w1.heap.size, 0, none⟩))] 41)) (.iface 27 (.int .i64 (c + 1))) [a] (.iface 39 (.pointer (some ⟨w1.heap.size, 0, none⟩))) := by
    refine ⟨w1.heap.size, .iface 27 (.int .i64 (c + 1)), rfl, ?_, rfl⟩
    show ((w1.heap.push _).push _)[_]? = _
    rw [Array.getElem?_push, if_neg (by simp), Array.getElem?_push, if_pos rfl]
  have H3 := cell_kept HX hB3
  go_wp2_with fail
  refine (Unwrap_of _ (.iface 39 (.pointer (some ⟨w1.heap.size, 0, none⟩))) _ (by simp)).mono ?_
  rintro e w3 ⟨rfl, rfl⟩
  go_wp2_with fail
  refine (Fault_Error (c + 1) E a [] w1.heap.size _ (hg.below hB3) hin (fun W h => HE.out W (cell_kept H3 h).out) hl1).mono ?_
  rintro e w4 ⟨rfl, hB4⟩
  have hB4' := hB3.trans (hB4.mono hB3.size)
  have H4 := cell_kept H3 hB4
  have hin4 := hin.below hB4
  have hch4 := hch.below hB4
  clear hin hch hB4 hB2 hB3 H3
  go_wp2_with fail
  refine (Fault_Error (c + 1) E a [] w1.heap.size _ (hg.below hB4') hin4 (fun W h => HE.out W (cell_kept H4 h).out) hl1).mono ?_
  rintro e w5 ⟨rfl, hB5⟩
  have hB5' := hB4'.trans (hB5.mono hB4'.size)
  have H5 := cell_kept H4 hB5
  have hin5 := hin4.below hB5
  have hch5 := hch4.below hB5
  clear hin4 hch4 hB5 hB4' H4
  go_wp2_with fail
  refine (Fault_Error (c + 1) E b [a] (w1.heap.size + 1) _ (hg.below hB5') hch5 (fun W h => HE.out W (cell_kept H5 h).out) hl2).mono ?_
  rintro e w6 ⟨rfl, hB6⟩
  have hB6' := hB5'.trans (hB6.mono hB5'.size)
  have H6 := cell_kept H5 hB6
  have hin6 := hin5.below hB6
  have hch6 := hch5.below hB6
  rw [inner_text]
  clear hin5 hch5 hB6 hB5' H5 hl2
  go_wp2_with fail
  refine (Fault_Error (c + 1) E a [] w1.heap.size _ (hg.below hB6') hin6 (fun W h => HE.out W (cell_kept H6 h).out) hl1).mono ?_
  rintro e w7 ⟨rfl, hB7⟩
  have hB7' := hB6'.trans (hB7.mono hB6'.size)
  have hch7 := hch6.below hB7
  generalize (⟨(txt E [a]).toArray⟩ : ByteArray) = X at *
  clear hin6 hch6 hB7 hB6' H6 hl1 HE HX
  go_wp2_with fail
  refine (Code_some [b, a] (c + 1) _ _ (hg.below hB7') hch7).mono ?_
  rintro e w8 ⟨rfl, hB8⟩
  go_wp2
  go_ret
  exact ⟨rfl, hB7'.trans (hB8.mono hB7'.size)⟩

theorem bulk_texts {H : Type} {d0 : DataW H} {a b : ByteArray} (h : Rows.uptoSmall H ([d0, .lit (.string a.data.toList), .lit (.string b.data.toList)] ++ []) = true) : a.size ≤ 1048576 ∧ b.size ≤ 1048576 := by
  have h' : Rows.uptoBulkAll ([d0, .lit (.string a.data.toList), .lit (.string b.data.toList)] ++ []) ≤ 1048576 := of_decide_eq_true h
  simp only [List.append_nil, Rows.uptoBulkAll, Rows.uptoBulk] at h'
  have h3 : a.data.toList.length = a.size := by simp
  have h4 : b.data.toList.length = b.size := by simp
  omega

namespace FaultInner
open Go.ChangeShapes Go.WideShapes Go.ChangeAt
open Go.ChangeMaps (open_string shut_string)
theorem reads (os : Os) {H : Type} (enc : TypeId × Value → H) : ∃ places, DataW.whole enc Tryd.prog ((laidOn (World.holding Tryd.prog os ⟨#[], #[], []⟩)).forCall (fun _ _ => 0) ⟨#[], #[.int .u8 0, .string ⟨#[]⟩, .string ⟨#[]⟩], []⟩).memory Tryd.f8.params.toList Rows.faultInnerSpec.vars false #[((.int .u8 0) : Value), .string ⟨#[]⟩, .string ⟨#[]⟩].toList 8 = some ([.lit (.int .u8 0), .lit (.string []), .lit (.string [])], [], places) :=
  ⟨[], by kernel_rfl⟩

set_option maxRecDepth 100000 in
theorem contract (H : Type) (enc : TypeId × Value → H) (W : World) (base : Nat) (args : Array Value) (ds gs : List (DataW H)) (before : List MemPlace)
    (hval : ∀ (j : Nat) t v, Tryd.f8.params[j]? = some t → args[j]? = some v → Value.okWide Tryd.prog W .any base t v)
    (hW : DataW.Whole enc Tryd.prog Tryd.f8.params.toList Rows.faultInnerSpec.vars false W args.toList ds gs before) (hL : laidMetH Tryd.prog Rows.faultInnerUptoRow.laid W) (hcond : Rows.uptoSmall H (ds ++ gs) = true) (hS : W.ShapedOpen Tryd.prog) :
    Calls Tryd.prog 8 args W fun e W' => ∃ v, e = .returned v ∧ Rows.faultInnerSpec.post enc Tryd.prog Tryd.f8 false true false false W args v W' := by
  have hW' := hW
  obtain ⟨p, q, hA0, hV, rfl, hfz, hnd⟩ := hW
  have hA : DataW.TrodAll enc Tryd.prog W 0 (fun _ => true) true Tryd.f8.params.toList args.toList ds p := hA0
  rw [Tryd.params8] at hA hval
  obtain ⟨v0, v1, v2, d0, d1, d2, p0, p1, p2, rfl, rfl, rfl, h0, h1, h2⟩ := trodAll_three hA
  obtain ⟨rfl, rfl⟩ := trodVars_none hV
  obtain ⟨c0, rfl, rfl, rfl, wc0⟩ := open_int Tryd.underlying5 (hval 0 5 v0 rfl rfl) h0
  obtain ⟨s1, rfl, rfl, rfl, hs1⟩ := open_string Tryd.underlying9 (hval 1 9 v1 rfl rfl) h1
  obtain ⟨s2, rfl, rfl, rfl, hs2⟩ := open_string Tryd.underlying9 (hval 2 9 v2 rfl rfl) h2
  have hg := handle_of_laid hL
  have hbd : 0 ≤ c0 ∧ c0 ≤ 255 := bounds_u8 wc0
  obtain ⟨hz1, hz2⟩ := bulk_texts hcond
  refine (FaultInner_walk c0 hbd.1 hbd.2 s1 s2 hz1 hz2 W hg (pow_cell hS)).mono fun e W' ⟨he, hb⟩ => ?_
  subst he
  refine ⟨_, rfl, _, _, _, [], [], [], hW', ?_, ?_, ?_, hb.frame _, fun h => by cases h⟩
  · exact trodAll_mk1 (shut_bool Tryd.underlying4 _)
  · exact trodAll_mk3 (shut_int Tryd.underlying5 wc0) (shut_string Tryd.underlying9 hs1) (shut_string Tryd.underlying9 hs2)
  · rfl

set_option maxRecDepth 100000 in
theorem lifted (os : Os) (started : os.Started) (H : Type) (enc : TypeId × Value → H) (F : Stop.Interp) :
    ReturnsInHanded {} Tryd.checked os 8 .any ((Rows.OpenSpec.upto Rows.faultInnerSpec).preRow enc Tryd.prog Tryd.f8 Rows.faultInnerUptoRow.domain false Rows.faultInnerUptoRow.laid) (((Rows.OpenSpec.upto Rows.faultInnerSpec).at F).post enc Tryd.prog Tryd.f8 false true false false) := by
  obtain ⟨places, hx⟩ := reads os enc
  refine returnsInHanded_of_row (C := Tryd.checked) (s := (Rows.OpenSpec.upto Rows.faultInnerSpec)) own started (by kernel_rfl) Tryd.func8
    (witness_row_at (enc := enc) (C := Tryd.checked) false (laidOn (World.holding Tryd.prog os ⟨#[], #[], []⟩)) #[.int .u8 0, .string ⟨#[]⟩, .string ⟨#[]⟩] rfl (by kernel_rfl) (by kernel_rfl) (by kernel_rfl)
      (OpenSpec.preRow_of_cond 8 hx (by kernel_rfl) (fun k hk => by cases hk; kernel_rfl) (by kernel_rfl) (laidWorld_met os _))) ?_
  intro W base args ds gs before hval hW _ hcond _ hL hS _
  exact contract H enc W base args ds gs before hval hW hL (hcond _ rfl) hS

theorem said : Rows.FaultInnerUptoSaid :=
  OpenClaim.holds_of_cond 8 Tryd.f8 rfl rfl rfl rfl rfl rfl rfl ⟨rfl, rfl, rfl, rfl, rfl⟩ rfl rfl rfl rfl rfl (by kernel_rfl) Tryd.func8 (by kernel_rfl)
    (of_decide_eq_true (by kernel_rfl)) (by unfold Func.isWrapper; first | (rw [if_pos (by decide +kernel)]; kernel_rfl) | (rw [if_neg (by decide +kernel)]; exact ⟨rfl, rfl⟩))
    (fun os started H enc _ F => by rw [OpenClaim.pre_eq_preRow]; exact lifted os started H enc F)

theorem plain (f : FuncId) (fn : Func) (hf : Tryd.pinned.checked.prog.funcNamed "roundelay/roundelaylaw01.FaultInner" = some f) (hfn : Tryd.pinned.checked.prog.funcs[f]? = some fn) :
    true = Tryd.pinned.checked.prog.looks [] ∧ ∀ (j : Nat) t, fn.params[j]? = some t → Tryd.pinned.checked.prog.wantsStandIn t = false := by
  obtain rfl : f = 8 := Option.some.inj ((show Tryd.prog.funcNamed "roundelay/roundelaylaw01.FaultInner" = some 8 by kernel_rfl).symm.trans hf) |>.symm
  obtain rfl : fn = Tryd.f8 := (Option.some.inj (Tryd.func8.symm.trans hfn)).symm
  refine ⟨by kernel_rfl, fun j t ht => ?_⟩
  rw [Tryd.params8] at ht
  have hm := Array.mem_of_getElem? ht
  simp only [List.mem_toArray, List.mem_cons, List.not_mem_nil, or_false] at hm
  rcases hm with rfl | rfl | rfl
  · exact (show Tryd.prog.wantsStandIn 5 = false by kernel_rfl)
  · exact (show Tryd.prog.wantsStandIn 9 = false by kernel_rfl)
  · exact (show Tryd.prog.wantsStandIn 9 = false by kernel_rfl)

theorem card : Rows.FaultInnerUptoCardSaid :=
  Claim7.holds_tied_plain_at .later [] _ _ _ _ said (fun _ h => by cases h) (by kernel_rfl) (fun _ h => by cases h) faultInnerUpto_row_tie rfl ⟨rfl, rfl⟩ (by kernel_rfl) rfl plain (by kernel_rfl)
end FaultInner
theorem faultInner_holds : Rows.FaultInnerUptoCardSaid := FaultInner.card
#print axioms faultInner_holds
end Go.Proofs.YtobdgdbdibnlgaaDoor
