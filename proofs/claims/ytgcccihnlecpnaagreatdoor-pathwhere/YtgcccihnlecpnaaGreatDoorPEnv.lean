/-
  What layer path finds in its variables. No conditions.
-/
import Derived.Test.YtgcccihnlecpnaaGreatDoorVText
import Derived.Test.YtgcccihnlecpnaaGreatDoorTCalls
import Derived.Test.YtgcccihnlecpnaaGreatDoorJShelf
import Derived.Test.YtgcccihnlecpnaaGreatDoorVTwin3
import Derived.WalkSmall
import Derived.Lib.ItoaLen
import Derived.Lib.AppendIntMem
import Derived.Lib.OthersKept
namespace Go.Proofs.YtgcccihnlecpnaaGreatDoor
open Go.RowKit

theorem gPow : Tryz.prog.globalNamed "internal/strconv.uint64pow10" = some 6 := by kernel_rfl
def Pow (w : World) : Prop := Lib.TabIs Tryz.prog w "internal/strconv.uint64pow10" .u64 Lib.pow10Tab
theorem Pow.below {w w' : World} (h : Pow w) (hb : Below w.heap.size w w') : Pow w' := by
  have hc := Lib.TabIs.cell h gPow 0 (by decide)
  exact var?_below hb gPow (lt_of_cellT hc) h
theorem U8.later {w w' : World} (h : U8 w) (hb : Below w.heap.size w w') : U8 w' := by
  refine ⟨fun c hc => ?_, fun i hi => ⟨?_, ?_⟩⟩
  · rw [hb.cell (lt_of_cell (h.1 c hc))]; exact h.1 c hc
  · rw [hb.cell (lt_of_cell (h.2 i hi).1)]; exact (h.2 i hi).1
  · rw [hb.cell (lt_of_cell (h.2 i hi).2)]; exact (h.2 i hi).2

/-- what the walks need of the variables. -/
structure PEnv (w : World) : Prop where
  handle : Handle w
  u8 : U8 w
  pow : Pow w
  syn : ∃ ev, w.cell? ⟨7, 0, none⟩ = some ev ∧ (ev = .nilIface ∨ ∃ te pe, ev = .iface te pe)
  range : ∃ ev, w.cell? ⟨8, 0, none⟩ = some ev ∧ (ev = .nilIface ∨ ∃ te pe, ev = .iface te pe)
  maxLen : ∃ m, w.cell? ⟨5, 0, none⟩ = some (.int .i64 m)
theorem PEnv.below {w w' : World} (h : PEnv w) (hb : Below w.heap.size w w') : PEnv w' := by
  refine ⟨h.handle.below hb, h.u8.later hb, h.pow.below hb, ?_, ?_, ?_⟩
  · obtain ⟨ev, h1, h2⟩ := h.syn
    exact ⟨ev, (hb.cell (lt_of_cell h1)).trans h1, h2⟩
  · obtain ⟨ev, h1, h2⟩ := h.range
    exact ⟨ev, (hb.cell (lt_of_cell h1)).trans h1, h2⟩
  · obtain ⟨m, h1⟩ := h.maxLen
    exact ⟨m, (hb.cell (lt_of_cell h1)).trans h1⟩

/-- an error of a code. -/
def Flt (c : Int) (w : World) (v : Value) : Prop := ∃ ps, Chain w (.iface 40 (.int .i64 c)) ps v
theorem Flt.below {c : Int} {w w' : World} {v : Value} (h : Flt c w v) (hb : Below w.heap.size w w') : Flt c w' v := by
  obtain ⟨p, h⟩ := h
  exact ⟨p, h.below hb⟩
theorem Flt.iface {c : Int} {w : World} {v : Value} (h : Flt c w v) : ∃ u z, v = .iface u z := by
  obtain ⟨p, h⟩ := h
  exact h.iface
theorem Flt.code {c : Int} {w : World} {x : Value} (h : Flt c w x) (hE : PEnv w) : Calls Tryz.prog 14 #[x] w fun e w' => e = .returned (.int .i64 c) ∧ Below w.heap.size w w' := by
  obtain ⟨ps, h⟩ := h
  exact Code_some ps c x w hE.handle h

theorem Chain.kept {w w' : World} {fin : Value} (hk : ∀ (b : Nat) (cs : Array Value), w.heap[b]? = some (.cells cs 91 (0, 0)) → w'.heap[b]? = w.heap[b]?) : ∀ {ps : List ByteArray} {v : Value}, Chain w fin ps v → Chain w' fin ps v
  | [], _, h => h
  | _ :: _, _, ⟨b, x, e, hc, h⟩ => ⟨b, x, e, (hk b _ hc).trans hc, Chain.kept hk h⟩
theorem wrong_any (k : Nat) (hk : k ≤ 1000000) (w : World) (hE : PEnv w) :
    Calls Tryz.prog 23 #[.int .i64 (k : Int)] w fun e w' => ∃ u z, e = .returned (.iface u z) ∧ Flt 6 w' (.iface u z) ∧ Below w.heap.size w w' := by
  have hl := Lib.itoa_length_le (k : Int) (by omega) (by omega)
  have hpow := hE.pow
  clear hE
  go_enter Tryz.func23, Tryz.ntmps23
  go_wp2_with fail
  refine (Tryz.strconv_Itoa (k : Int) (by omega) (by omega) _ hpow).mono ?_
  rintro e w1 ⟨rfl, j, os, rfl⟩
  have hB := Lib.below_grow w.heap.size w (Nat.le_refl _) j os
  generalize Sort.grow (w.drewN j) os = W1 at *
  generalize Lib.itoa (k : Int) = it at *
  go_wp2_with fail
  refine (New_some 6 rfl _ _).mono ?_
  rintro e w2 ⟨rfl, rfl⟩
  go_wp2
  go_ret
  refine ⟨_, _, rfl, ⟨[(⟨#[112, 97, 116, 104, 44, 32, 112, 97, 114, 116, 32]⟩ : ByteArray) ++ ⟨it.toArray⟩], _, _, rfl, ?_, rfl⟩, hB.alloc hB.size _⟩
  show (Array.push _ _)[_]? = _
  rw [Array.getElem?_push, if_pos rfl]
end Go.Proofs.YtgcccihnlecpnaaGreatDoor
