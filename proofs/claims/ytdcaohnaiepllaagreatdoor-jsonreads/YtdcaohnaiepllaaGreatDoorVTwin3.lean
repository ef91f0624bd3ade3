/-
  package twin's Value by its contract. No conditions beyond those stated.
-/
import Derived.Test.YtdcaohnaiepllaaGreatDoorVTwin2
namespace Go.Proofs.YtdcaohnaiepllaaGreatDoor
open Go.RowKit

theorem bcell {W w1 : World} (hb : Below W.heap.size W w1) : (∀ b o, b < W.heap.size → w1.cell? ⟨b, o, none⟩ = W.cell? ⟨b, o, none⟩) ∧ (∀ b o, b < W.heap.size → w1.frozen? ⟨b, o, none⟩ = W.frozen? ⟨b, o, none⟩) :=
  ⟨fun b o h => hb.cell (p := ⟨b, o, none⟩) h, fun b o h => hb.frozen (p := ⟨b, o, none⟩) h⟩

theorem row5 {W : World} {B t : Nat} {a0 a1 a2 a3 a4 : Value} (h : W.heap[B]? = some (.cells #[a0, a1, a2, a3, a4] t (0, 0))) :
    W.cell? ⟨B, 0, none⟩ = some a0 ∧ W.cell? ⟨B, 1, none⟩ = some a1 ∧ W.cell? ⟨B, 2, none⟩ = some a2 ∧ W.cell? ⟨B, 3, none⟩ = some a3 ∧ W.cell? ⟨B, 4, none⟩ = some a4 ∧ ∀ j, W.frozen? ⟨B, j, none⟩ = false := by
  simp [World.cell?, World.frozen?, h]
theorem row6 {W : World} {B t : Nat} {a0 a1 a2 a3 a4 a5 : Value} (h : W.heap[B]? = some (.cells #[a0, a1, a2, a3, a4, a5] t (0, 0))) :
    W.cell? ⟨B, 0, none⟩ = some a0 ∧ W.cell? ⟨B, 1, none⟩ = some a1 ∧ W.cell? ⟨B, 2, none⟩ = some a2 ∧ W.cell? ⟨B, 3, none⟩ = some a3 ∧ W.cell? ⟨B, 4, none⟩ = some a4 ∧ W.cell? ⟨B, 5, none⟩ = some a5 ∧ ∀ j, W.frozen? ⟨B, j, none⟩ = false := by
  simp [World.cell?, World.frozen?, h]
theorem heap_alloc2_old {w : World} {o1 o2 : Obj} : ((w.alloc o1).alloc o2).heap[w.heap.size]? = some o1 := by
  rw [Below.heap_alloc (w.alloc o1) o2 w.heap.size (by simp)]; exact heap_alloc_new w _
theorem heap_alloc2_new {w : World} {o1 o2 : Obj} : ((w.alloc o1).alloc o2).heap[w.heap.size + 1]? = some o2 := by
  have := heap_alloc_new (w.alloc o1) o2
  simpa using this

/-- a copy of a value: its fields' row is apart from all else. -/
def CopyV (m : Nat) (w w' : World) (v : V) (l' f' : Value) : Prop :=
  ∃ B, w.heap.size ≤ B ∧ (∃ es : List El, es.map El.v = v.list ∧ RowAt (fun k => w.heap.size ≤ k ∧ k ≠ B) w' 31 5 l' es.length (encEs es) ∧ ∀ e ∈ es, Rep (fun k => w.heap.size ≤ k ∧ k ≠ B) m w' e.v e.l e.f) ∧
    (∃ fs : List Fl, fs.map Fl.pair = v.fields ∧ RowAt (fun k => k = B) w' 49 6 f' fs.length (encFs fs) ∧ (∀ a n c, f' = .slice a n c → c = n) ∧ ∀ e ∈ fs, Rep (fun k => w.heap.size ≤ k ∧ k ≠ B) m w' e.v e.l e.f)
theorem CopyV.rep {m : Nat} {w w' : World} {v : V} {l' f' : Value} (h : CopyV m w w' v l' f') : Rep (fun k => w.heap.size ≤ k) (m + 1) w' v l' f' := by
  obtain ⟨B, hB, ⟨es, e1, e2, e3⟩, ⟨fs, f1, f2, _, f3⟩⟩ := h
  exact ⟨⟨es, e1, e2.move fun b hb _ => ⟨hb.1, rfl⟩, fun e he => (e3 e he).move fun b hb _ => ⟨hb.1, rfl⟩⟩, ⟨fs, f1, f2.move fun b hb _ => ⟨by omega, rfl⟩, fun e he => (f3 e he).move fun b hb _ => ⟨hb.1, rfl⟩⟩⟩

end Go.Proofs.YtdcaohnaiepllaaGreatDoor
