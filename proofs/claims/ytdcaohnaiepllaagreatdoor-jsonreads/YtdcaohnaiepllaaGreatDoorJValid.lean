/-
  package value's Valid at values with nothing beside their kind: true. Conditions: as stated.
-/
import Derived.Test.YtdcaohnaiepllaaGreatDoorVText
import Derived.Test.YtdcaohnaiepllaaGreatDoorVDepth
import Derived.Test.YtdcaohnaiepllaaGreatDoorVGet
import Derived.Test.YtdcaohnaiepllaaGreatDoorJFs
import Derived.Test.YtdcaohnaiepllaaGreatDoorJPure
import Derived.Deep.QuietTactic
namespace Go.Proofs.YtdcaohnaiepllaaGreatDoor
open Go.RowKit

theorem U8.later {w w' : World} (h : U8 w) (hb : Below w.heap.size w w') : U8 w' := by
  refine ⟨fun c hc => ?_, fun i hi => ⟨?_, ?_⟩⟩
  · rw [hb.cell (lt_of_cell (h.1 c hc))]; exact h.1 c hc
  · rw [hb.cell (lt_of_cell (h.2 i hi).1)]; exact (h.2 i hi).1
  · rw [hb.cell (lt_of_cell (h.2 i hi).2)]; exact (h.2 i hi).2

/-- a value with nothing beside its kind, and texts that are UTF-8. -/
def VOk : Nat → V → Prop
  | 0, v => v = nulV ∨ (v = boolV 0 ∨ v = boolV 1) ∨ (∃ m, v = intV m) ∨ (∃ t, v = textV t ∧ t.size ≤ 1000000 ∧ Lib.validD t.data.toList = true) ∨ v = listV [] ∨ v = objV []
  | n + 1, v => v = nulV ∨ (v = boolV 0 ∨ v = boolV 1) ∨ (∃ m, v = intV m) ∨ (∃ t, v = textV t ∧ t.size ≤ 1000000 ∧ Lib.validD t.data.toList = true) ∨ (∃ l, v = listV l ∧ ∀ x ∈ l, VOk n x) ∨ (∃ f, v = objV f ∧ Rises f ∧ ∀ p ∈ f, p.1.size ≤ 1000000 ∧ Lib.validD p.1.data.toList = true ∧ VOk n p.2)

theorem str_ge {p q : ByteArray} (h : cmpT p q < 0) : Op.bytesLess p.toList q.toList = true := by
  rw [bytesLess_eq]
  exact decide_eq_true h

end Go.Proofs.YtdcaohnaiepllaaGreatDoor
