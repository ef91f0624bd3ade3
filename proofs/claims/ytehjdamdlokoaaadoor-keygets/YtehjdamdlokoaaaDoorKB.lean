/-
  package key's Behind. Conditions: as stated.
-/
import Derived.Test.YtehjdamdlokoaaaDoorVQ
namespace Go.Proofs.YtehjdamdlokoaaaDoor
open Go.RowKit

theorem Behind_any (s : ByteArray) (w : World) (hs : s.size ≤ 1000000) : Calls Tryd.prog 19 #[.string s] w fun e w' => e = .returned (.string ⟨(s.data.toList ++ [0]).toArray⟩) ∧ w' = w := by
  go_enter Tryd.func19, Tryd.ntmps19
  go_wp2_with fail
  go_ret
  exact ⟨rfl, rfl⟩
end Go.Proofs.YtehjdamdlokoaaaDoor
