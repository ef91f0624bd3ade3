/-
  Deeds as they come in: a row of structs of two small numbers and a slice of bytes. No conditions beyond those stated.
-/
import Derived.Test.YtjihfbahcebljaaDoorVMade5
import Derived.Test.YtjihfbahcebljaaDoorHSt
namespace Go.Proofs.YtjihfbahcebljaaDoor
open Go.RowKit

/-- a deed: its kind, its number, where its bytes lie, which they are. -/
structure Ac where
  kind : Int
  id : Int
  b : Value
  bs : List UInt8
/-- a slice of deeds. -/
def ActsAt (W : World) (s : Value) (acts : List Ac) : Prop :=
  ∃ (a : Option Addr) (cap : Nat), s = .slice a acts.length cap ∧ acts.length ≤ cap ∧ cap ≤ 9223372036854775807 ∧ (∀ e ∈ acts, 0 ≤ e.kind ∧ e.kind < 256 ∧ 0 ≤ e.id ∧ e.id < 256 ∧ BytesAt W e.b e.bs) ∧
    (acts ≠ [] → ∃ b o, a = some ⟨b, o, none⟩ ∧ ∀ (j : Nat) (e : Ac), acts[j]? = some e → W.cell? ⟨b, o + j * 3, none⟩ = some (.int .u8 e.kind) ∧ W.cell? ⟨b, o + j * 3 + 1, none⟩ = some (.int .u8 e.id) ∧ W.cell? ⟨b, o + j * 3 + 2, none⟩ = some e.b)
theorem ActsAt.below {W W' : World} {s : Value} {acts : List Ac} (h : ActsAt W s acts) (hb : Below W.heap.size W W') : ActsAt W' s acts := by
  obtain ⟨a, cap, h1, h2, h3, h4, h5⟩ := h
  refine ⟨a, cap, h1, h2, h3, fun e he => ?_, fun hne => ?_⟩
  · obtain ⟨k1, k2, k3, k4, k5⟩ := h4 e he
    exact ⟨k1, k2, k3, k4, k5.below hb⟩
  · obtain ⟨b, o, h6, h7⟩ := h5 hne
    exact ⟨b, o, h6, fun j e hj => by
      obtain ⟨c1, c2, c3⟩ := h7 j e hj
      exact ⟨(hb.cell (lt_of_cell c1)).trans c1, (hb.cell (lt_of_cell c2)).trans c2, (hb.cell (lt_of_cell c3)).trans c3⟩⟩
theorem ActsAt.slice {W : World} {s : Value} {acts : List Ac} (h : ActsAt W s acts) : ∃ a cap, s = .slice a acts.length cap ∧ acts.length ≤ cap ∧ cap ≤ 9223372036854775807 := by
  obtain ⟨a, cap, h1, h2, h3, _⟩ := h
  exact ⟨a, cap, h1, h2, h3⟩
theorem ActsAt.take {W : World} {a : Option Addr} {n cap : Nat} {acts : List Ac} (h : ActsAt W (.slice a n cap) acts) (m : Nat) : ActsAt W (.slice a (min m acts.length) cap) (acts.take m) := by
  obtain ⟨a', cap', h1, h2, h3, h4, h5⟩ := h
  simp only [Value.slice.injEq] at h1
  refine ⟨a, cap, by rw [List.length_take], by rw [List.length_take]; omega, by omega, fun e he => h4 e (List.mem_of_mem_take he), fun hne => ?_⟩
  obtain ⟨b, o, h6, h7⟩ := h5 (fun e => hne (by rw [e]; simp))
  refine ⟨b, o, h1.1.trans h6, fun j e hj => h7 j e ?_⟩
  rw [List.getElem?_take] at hj
  split at hj
  · exact hj
  · cases hj
/-- the deed at a place. -/
theorem ActsAt.at {W : World} {a : Option Addr} {n cap : Nat} {acts : List Ac} (h : ActsAt W (.slice a n cap) acts) {j : Nat} {e : Ac} (hj : acts[j]? = some e) :
    ∃ b o ba bc, a = some ⟨b, o, none⟩ ∧ e.b = .slice ba e.bs.length bc ∧ W.cell? ⟨b, o + j * 3, none⟩ = some (.int .u8 e.kind) ∧ W.cell? ⟨b, o + j * 3 + 1, none⟩ = some (.int .u8 e.id) ∧ W.cell? ⟨b, o + j * 3 + 2, none⟩ = some (.slice ba e.bs.length bc) ∧
      0 ≤ e.kind ∧ e.kind < 256 ∧ 0 ≤ e.id ∧ e.id < 256 ∧ BytesAt W (.slice ba e.bs.length bc) e.bs := by
  obtain ⟨a', cap', h1, h2, h3, h4, h5⟩ := h
  obtain ⟨k1, k2, k3, k4, k5⟩ := h4 e (List.mem_of_getElem? hj)
  obtain ⟨b, o, h6, h7⟩ := h5 (fun e => by rw [e] at hj; simp at hj)
  obtain ⟨c1, c2, c3⟩ := h7 j e hj
  obtain ⟨ba, bc, e1, _⟩ := id k5
  simp only [Value.slice.injEq] at h1
  rw [e1] at c3 k5
  exact ⟨b, o, ba, bc, h1.1.trans h6, e1, c1, c2, c3, k1, k2, k3, k4, k5⟩
end Go.Proofs.YtjihfbahcebljaaDoor
