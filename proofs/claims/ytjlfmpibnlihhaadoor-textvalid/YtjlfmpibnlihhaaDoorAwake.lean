/-
  The law's awake: true. Condition: the variables lie as they are laid.
-/
import Derived.Test.YtjlfmpibnlihhaaDoorUnquote
import Derived.Test.YtjlfmpibnlihhaaDoorQf
import Derived.Test.YtjlfmpibnlihhaaDoorVal
namespace Go.Proofs.YtjlfmpibnlihhaaDoor
open Go.RowKit Go.Extern.Stop Go.Stop Go.Extern

theorem read1 : readL [34, 97, 92, 117, 48, 48, 52, 49, 34, 98] = some ([97, 65], 9) := by decide +kernel
theorem read2 : readL [34, 97] = none := by decide +kernel
theorem quote1 : quoteL [10] = [34, 92, 110, 34] := by decide +kernel
theorem valid1 : Lib.validD [97] = true := by decide +kernel

theorem Bad.code {w : World} {v : Value} (h : Bad w v) (hg : Handle w) : Calls Tryd.prog 15 #[v] w fun e w' => e = .returned (.int .i64 1) ∧ Below w.heap.size w w' := by
  obtain ⟨p, h⟩ := h
  exact Code_some [p] 1 v w hg h
theorem Bad.iface {w : World} {v : Value} (h : Bad w v) : ∃ u z, v = .iface u z := by
  obtain ⟨p, h⟩ := h
  exact Chain.iface h

set_option maxHeartbeats 1000000 in
theorem awake_true (w : World) (hE : Env w) : Calls Tryd.prog 9 #[] w fun e w' => e = .returned (.bool true) ∧ Below w.heap.size w w' := by
  go_enter Tryd.func9, Tryd.ntmps9
  go_wp2_with fail
  refine (Unquote_any ⟨#[34, 97, 92, 117, 48, 48, 52, 49, 34, 98]⟩ (by decide) _ hE).mono ?_
  rintro e w1 ⟨h1, hB1⟩
  rw [show (⟨#[34, 97, 92, 117, 48, 48, 52, 49, 34, 98]⟩ : ByteArray).data.toList = [34, 97, 92, 117, 48, 48, 52, 49, 34, 98] from rfl, read1] at h1
  simp only [Tells] at h1
  subst h1
  go_wp2_with fail
  refine (Unquote_any ⟨#[34, 97]⟩ (by decide) _ (hE.below hB1)).mono ?_
  rintro e w2 ⟨h2, hB2⟩
  rw [show (⟨#[34, 97]⟩ : ByteArray).data.toList = [34, 97] from rfl, read2] at h2
  obtain ⟨v, rfl, hv⟩ := h2
  have hB2' := hB1.trans (hB2.mono hB1.size)
  go_wp2_with fail
  refine (hv.code (hE.below hB2').handle).mono ?_
  rintro e w3 ⟨rfl, hB3⟩
  have hB3' := hB2'.trans (hB3.mono hB2'.size)
  go_wp2_with fail
  refine (Quote_any ⟨#[10]⟩ (by decide) _ (hE.below hB3').tabs).mono ?_
  rintro e w4 ⟨rfl, hB4⟩
  have hB4' := hB3'.trans (hB4.mono hB3'.size)
  rw [show (⟨#[10]⟩ : ByteArray).data.toList = [10] from rfl, quote1]
  go_wp2_with fail
  refine (Valid_any ⟨#[97]⟩ _ (by decide) (hE.below hB4').tabs).mono ?_
  rintro e w5 ⟨rfl, hB5⟩
  rw [show (⟨#[97]⟩ : ByteArray).data.toList = [97] from rfl, valid1]
  go_wp2
  go_ret
  exact ⟨rfl, hB4'.trans (hB5.mono hB4'.size)⟩
end Go.Proofs.YtjlfmpibnlihhaaDoor
