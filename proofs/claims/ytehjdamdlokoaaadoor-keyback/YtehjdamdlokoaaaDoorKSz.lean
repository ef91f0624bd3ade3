/-
  How long a key is at most. Conditions: as stated.
-/
import Derived.Test.YtehjdamdlokoaaaDoorKP1
import Derived.Test.YtehjdamdlokoaaaDoorKR1
namespace Go.Proofs.YtehjdamdlokoaaaDoor
open Go.RowKit

theorem put_size {v : V} (h : Nice 3 v) {P : ByteArray} (hP : (⟨(putV (3 + 1) v).toArray⟩ : ByteArray) = P) : P.size ≤ 6120 := by
  rw [← hP]
  have := put_len 3 v h
  have e : (⟨(putV (3 + 1) v).toArray⟩ : ByteArray).size = (putV (3 + 1) v).length := (ba_size _).trans (by simp)
  rw [e]
  exact this
end Go.Proofs.YtehjdamdlokoaaaDoor
