/-
  package value's Valid at the document's example, and the law's awake: true. Condition: the tables of package utf8 lie as they are laid.
-/
import Derived.Test.YtheijncppmndoaaDoorVText
import Derived.Test.YtheijncppmndoaaDoorVSet2
import Derived.Test.YtheijncppmndoaaDoorVDepth
import Derived.Test.YtheijncppmndoaaDoorVSize
import Derived.BigQuiet
namespace Go.Proofs.YtheijncppmndoaaDoor
open Go.RowKit

theorem U8.below {w w' : World} (h : U8 w) (hb : Below w.heap.size w w') : U8 w' := by
  refine ⟨fun c hc => ?_, fun i hi => ⟨?_, ?_⟩⟩
  · rw [hb.cell (lt_of_cell (h.1 c hc))]; exact h.1 c hc
  · rw [hb.cell (lt_of_cell (h.2 i hi).1)]; exact (h.2 i hi).1
  · rw [hb.cell (lt_of_cell (h.2 i hi).2)]; exact (h.2 i hi).2
theorem valid_a : Lib.validD [97] = true := by decide +kernel

theorem bare_int (m : Int) (w : World) : Calls Tryd.prog 35 #[.agg #[.int .i64 2, .int .i64 m, .string ⟨#[]⟩, .slice none 0 0, .slice none 0 0]] w fun e w' => e = .returned (.bool true) ∧ Below w.heap.size w w' := by
  by_cases h : m = 0
  · subst h
    go_enter Tryd.func35, Tryd.ntmps35
    go_wp2
    go_ret
    exact ⟨rfl, (Below.refl _ _).alloc (Nat.le_refl _) _⟩
  · have h' : (m == 0) = false := by simpa using h
    go_enter Tryd.func35, Tryd.ntmps35
    go_wp2
    go_ret
    exact ⟨rfl, (Below.refl _ _).alloc (Nat.le_refl _) _⟩
theorem bare_obj (a : Option Addr) (w : World) : Calls Tryd.prog 35 #[.agg #[.int .i64 5, .int .i64 0, .string ⟨#[]⟩, .slice none 0 0, .slice a 1 1]] w fun e w' => e = .returned (.bool true) ∧ Below w.heap.size w w' := by
  go_enter Tryd.func35, Tryd.ntmps35
  go_wp2
  go_ret
  exact ⟨rfl, (Below.refl _ _).alloc (Nat.le_refl _) _⟩
theorem Valid_int (m : Int) (w : World) : Calls Tryd.prog 20 #[.agg #[.int .i64 2, .int .i64 m, .string ⟨#[]⟩, .slice none 0 0, .slice none 0 0]] w fun e w' => e = .returned (.bool true) ∧ Below w.heap.size w w' := by
  go_enter Tryd.func20, Tryd.ntmps20
  go_wp2_with fail
  refine (bare_int m _).mono ?_
  rintro e w1 ⟨rfl, hb⟩
  have p1 := (hb.block w.heap.size (by simp)).trans (heap_alloc_new w _)
  obtain ⟨k0, k1, k2, k3, k4, kf⟩ := row5 p1
  clear p1
  go_wp2
  go_ret
  exact ⟨rfl, ((Below.refl _ _).alloc (Nat.le_refl _) _).trans (hb.mono (by simp))⟩

set_option maxHeartbeats 2000000 in
theorem validFields_one (B : Nat) (w : World) (hU : U8 w) (hr : w.heap[B]? = some (.cells #[.string ⟨#[97]⟩, .int .i64 2, .int .i64 1, .string ⟨#[]⟩, .slice none 0 0, .slice none 0 0] 35 (0, 0))) :
    Calls Tryd.prog 38 #[.slice (some ⟨B, 0, none⟩) 1 1] w fun e w' => e = .returned (.bool true) ∧ Below w.heap.size w w' := by
  obtain ⟨c0, c1, c2, c3, c4, c5, cf⟩ := row6 hr
  have hBl := lt_of_heap hr
  have hBa : ∀ o n, Below w.heap.size w ((w.alloc o).drewN n) := fun o n => by
    have h : Below w.heap.size w (w.alloc o) := (Below.refl _ _).alloc (Nat.le_refl _) _
    exact ⟨h.os, h.tape, h.output, h.size, h.block⟩
  have htx := fun W (hW : Below w.heap.size w W) => textValid_any ⟨#[97]⟩ W (by decide) (hU.below hW)
  rw [show (⟨#[97]⟩ : ByteArray).data.toList = [97] from rfl, valid_a] at htx
  clear hr hU
  go_enter Tryd.func38, Tryd.ntmps38
  go_wp2
  refine wp_loop_rounds 2 ?_
  rw [rounds_succ]
  go_wp2_with fail
  go_quiet (fail)
  go_wp2_with fail
  refine (htx _ (hBa _ _)).mono ?_
  rintro e w1 ⟨rfl, hb1⟩
  have p1 := (hb1.block w.heap.size (by simp)).trans (heap_alloc_new w _)
  obtain ⟨k0, k1, k2, k3, k4, k5, kf⟩ := row6 p1
  have hB1 : Below w.heap.size w w1 := (hBa _ _).trans (hb1.mono (hBa _ _).size)
  clear p1 hb1
  go_wp2_with fail
  refine (Valid_int 1 _).mono ?_
  rintro e w2 ⟨rfl, hb2⟩
  have hB2 := hB1.trans (hb2.mono hB1.size)
  clear hb2
  go_wp2
  rw [rounds_succ]
  go_wp2
  go_ret
  exact ⟨rfl, hB2⟩
theorem Valid_obj (B : Nat) (w : World) (hU : U8 w) (hr : w.heap[B]? = some (.cells #[.string ⟨#[97]⟩, .int .i64 2, .int .i64 1, .string ⟨#[]⟩, .slice none 0 0, .slice none 0 0] 35 (0, 0))) :
    Calls Tryd.prog 20 #[.agg #[.int .i64 5, .int .i64 0, .string ⟨#[]⟩, .slice none 0 0, .slice (some ⟨B, 0, none⟩) 1 1]] w fun e w' => e = .returned (.bool true) ∧ Below w.heap.size w w' := by
  have hv := fun W (hW : Below w.heap.size w W) => validFields_one B W (hU.below hW) ((hW.block _ (lt_of_heap hr)).trans hr)
  clear hr hU
  go_enter Tryd.func20, Tryd.ntmps20
  go_wp2_with fail
  refine (bare_obj _ _).mono ?_
  rintro e w1 ⟨rfl, hb⟩
  have p1 := (hb.block w.heap.size (by simp)).trans (heap_alloc_new w _)
  obtain ⟨k0, k1, k2, k3, k4, kf⟩ := row5 p1
  have hB1 : Below w.heap.size w w1 := ((Below.refl _ _).alloc (Nat.le_refl _) _).trans (hb.mono (by simp))
  clear p1 hb
  go_wp2_with fail
  refine (hv _ hB1).mono ?_
  rintro e w2 ⟨rfl, hb2⟩
  go_wp2
  go_ret
  exact ⟨rfl, hB1.trans (hb2.mono hB1.size)⟩
end Go.Proofs.YtheijncppmndoaaDoor
