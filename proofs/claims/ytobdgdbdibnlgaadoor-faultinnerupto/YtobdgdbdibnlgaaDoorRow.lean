/-
  What the rows of this seat share: the listed variable's cell, a world that lays it, the places opened. No conditions beyond those stated.
-/
import Derived.Test.YtobdgdbdibnlgaaDoorNest
import Derived.Test.YtobdgdbdibnlgaaDoorCards
import Derived.Test.YtobdgdbdibnlgaaDoorTie
import Derived.ProofKit
import Derived.OpenShut
import Derived.LaidHandle
import Derived.LaidLaws
import Derived.SliceStrings
import Derived.Deep.DeepHandedRow
import Derived.Lib.LaidTab
namespace Go.Proofs.YtobdgdbdibnlgaaDoor
open Go.RowKit Go.Extern.Stop Go.Stop Go.Extern

/-- what a walk needs of the places: a slice of 'm' strings. -/
def Strs (w : World) (base : Option Addr) (m : Nat) (ss : List ByteArray) : Prop :=
  ∀ k, k < m → ∃ b off, base = some ⟨b, off, none⟩ ∧ w.cell? ⟨b, off + k, none⟩ = some (.string (ss.getD k ByteArray.empty))

theorem Strs.below {w w' : World} {base : Option Addr} {m : Nat} {ss : List ByteArray} (h : Strs w base m ss) (hb : Below w.heap.size w w') : Strs w' base m ss := by
  intro k hk
  obtain ⟨b, off, e, hc⟩ := h k hk
  exact ⟨b, off, e, by rw [hb.cell (lt_of_cell hc)]; exact hc⟩

theorem own : ownKnob Tryd.prog.godebug = none := by kernel_rfl
theorem et : Tryd.prog.globalNamed "errors.errorType" = some 0 := by kernel_rfl
theorem rt : (Tryd.prog.cutTypes.find? (·.1 == "internal/reflectlite.rtype")).map (·.2) = some 80 := by kernel_rfl
theorem oneRow : ((List.range 142).filter fun t => Tryd.prog.rowNamed t [101, 114, 114, 111, 114]) = [25] := by kernel_rfl
theorem tsize : Tryd.prog.types.size = 142 := by kernel_rfl
theorem cells9 : Tryd.prog.cellsOf 9 = 1 := by kernel_rfl
theorem laidOut : laidOutB Tryd.prog = true := by kernel_rfl
theorem readable22 : Tryd.prog.readableRec 22 = true := by kernel_rfl

/-- what the row's list gives a walk: the variable's one cell. -/
theorem handle_of_laid {W : World} (h : laidMetH Tryd.prog [("errors.errorType", Rows.laid_errors_errorType)] W) : Handle W := by
  have h' : laidMet Tryd.prog [] W ∧ handlesMet Tryd.prog [("errors.errorType", Rows.laid_errors_errorType)] W := h
  obtain ⟨name, u, ty, e1, e2, e3, e4, e5⟩ := h'.2 _ (List.mem_singleton.2 rfl)
  have en : name = [101, 114, 114, 111, 114] := (Option.some.inj e1).symm
  subst en
  obtain rfl := Option.some.inj (rt.symm.trans e2)
  have hm : ty ∈ (List.range 142).filter fun t => Tryd.prog.rowNamed t [101, 114, 114, 111, 114] := List.mem_filter.2 ⟨List.mem_range.2 (by rw [← tsize]; exact e3), e4⟩
  rw [oneRow] at hm
  obtain rfl := List.mem_singleton.1 hm
  have hh : typeHandle Tryd.prog 25 = .pointer (some ⟨4, 25, none⟩) := by kernel_rfl
  rw [hh] at e5
  unfold Handle
  simpa using World.var?_cell et e5 0

def putCells (cs : Array Value) : Obj → Obj
  | .cells _ t frozen => .cells cs t frozen
  | o => o
/-- for a world that meets the condition: the variable's cell laid. -/
def laidOn (w : World) : World := { w with heap := w.heap.modify 0 (putCells #[.iface 80 (.agg #[.pointer (some ⟨4, 25, none⟩)])]) }
theorem laidWorld_met (os : Os) (args : Array Value) : laidMetH Tryd.prog [("errors.errorType", Rows.laid_errors_errorType)] ((laidOn (World.holding Tryd.prog os ⟨#[], #[], []⟩)).forCall (fun _ _ => 0) ⟨#[], args, []⟩).memory :=
  laidMetH_of_parts (laidMet_nil _ _) (by kernel_rfl)

open Go.ChangeShapes Go.WideShapes Go.ChangeAt in
/-- the places, opened: whatever slice of strings. -/
theorem strs_of {H : Type} {enc : TypeId × Value → H} {W : World} {a0 : Option Addr} {len cap : Nat} {d1 : DataW H} {p1 : List MemPlace} (h1 : DataW.Trod enc Tryd.prog W 0 (fun _ => true) true 22 (.slice a0 len cap) d1 p1) :
    ∃ ss : List ByteArray, len ≤ cap ∧ cap ≤ maxLen ∧ len ≤ ss.length ∧ Strs W a0 len ss := by
  obtain ⟨fuel, hf⟩ := h1
  rcases open_strings Tryd.underlying22 Tryd.underlying9 cells9 hf with ⟨hcs, hx⟩ | ⟨a, len', cap', ss, hcs, _, hl, hm, hz, hx, hcell, hws⟩
  · simp [Value.cells] at hcs
    obtain ⟨rfl, rfl, rfl⟩ := hcs
    exact ⟨[], Nat.le_refl _, by unfold maxLen; omega, Nat.le_refl _, fun k hk => absurd hk (Nat.not_lt_zero _)⟩
  · simp [Value.cells] at hcs
    obtain ⟨rfl, rfl, rfl⟩ := hcs
    simp only [if_true] at hz
    refine ⟨ss, hl, hm, by omega, fun k hk => ?_⟩
    have hsp : a.spot = none := by simpa [Addr.add] using World.cell?_spot (hcell 0 (by omega))
    have hk' := hcell k (by omega)
    obtain ⟨b, off, spot⟩ := a
    simp only at hsp
    subst hsp
    exact ⟨b, off, rfl, by rw [← add_plain]; exact hk'⟩

end Go.Proofs.YtobdgdbdibnlgaaDoor
