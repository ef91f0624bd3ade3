/-
  ValueCmp's walk. No conditions beyond those stated.
-/
import Derived.Test.YtheijncppmndoaaDoorVRow
import Derived.Test.YtheijncppmndoaaDoorVLCmp3
import Derived.Lib.QuietBelow
import Derived.BigQuiet
namespace Go.Proofs.YtheijncppmndoaaDoor
open Go.RowKit

theorem mixed : Tryd.prog.follows .mixedOrders = true := by kernel_rfl
theorem below_regrown_cell {w : World} {b o : Nat} {v : Value} (h : w.cell? ⟨b, o, none⟩ = some v) (d : Nat) (os : Array Obj) : (Go.Sort.grow (redrawn w d) os).cell? ⟨b, o, none⟩ = some v := cell_regrown h d os


set_option maxRecDepth 100000 in
set_option maxHeartbeats 4000000 in
theorem ValueCmp_walk (v0 v1 : Value) (bs0 bs1 : List UInt8) (w : World) (hb0 : BytesAt w v0 bs0) (hb1 : BytesAt w v1 bs1) (hE : Env w) :
    Calls Tryd.prog 3 #[v0, v1] w fun e w' => e = .returned (.bool true) ∧ Below w.heap.size w w' := by
  go_enter Tryd.func3, Tryd.ntmps3
  go_wp2_with fail
  refine (awake_true _ hE.u8).mono ?_
  rintro e w1 ⟨rfl, hB1⟩
  go_wp2_with fail
  refine (Of_any v0 bs0 _ (hb0.below hB1) (hE.below hB1).tabs).mono ?_
  rintro e w2 ⟨x, lx, fx, rfl, hnx, hrx, hb2⟩
  obtain ⟨a1, c1, a2, c2, rfl, rfl⟩ := hrx.slices
  have hB2 := hB1.trans (hb2.mono hB1.size)
  go_wp2_with fail
  refine (Of_any v1 bs1 _ (hb1.below hB2) (hE.below hB2).tabs).mono ?_
  rintro e w3 ⟨y, ly, fy, rfl, hny, hry, hb3⟩
  obtain ⟨a3, c3, a4, c4, rfl, rfl⟩ := hry.slices
  have hB3 := hB2.trans (hb3.mono hB2.size)
  obtain ⟨O1, hO1⟩ : ∃ O, O = Obj.cells #[.int .i64 x.kind, .int .i64 x.num, .string x.text, .slice a1 x.list.length c1, .slice a2 x.fields.length c2] 28 := ⟨_, rfl⟩
  obtain ⟨O2, hO2⟩ : ∃ O, O = Obj.cells #[.int .i64 y.kind, .int .i64 y.num, .string y.text, .slice a3 y.list.length c3, .slice a4 y.fields.length c4] 28 := ⟨_, rfl⟩
  have hb34 : Below w3.heap.size w3 ((w3.alloc O1).alloc O2) := ((Below.refl _ _).alloc (Nat.le_refl _) _).alloc (by simp) _
  have lx4 : Lies 3 ((w3.alloc O1).alloc O2) x _ _ := ((Rep.lies hrx).below hb3).below hb34
  have ly4 : Lies 3 ((w3.alloc O1).alloc O2) y _ _ := (Rep.lies hry).below hb34
  have hB4 : Below w.heap.size w ((w3.alloc O1).alloc O2) := hB3.trans (hb34.mono hB3.size)
  have r1 : ((w3.alloc O1).alloc O2).heap[w3.heap.size]? = some O1 := heap_alloc2_old
  have r2 : ((w3.alloc O1).alloc O2).heap[w3.heap.size + 1]? = some O2 := heap_alloc2_new
  go_wp2_with fail
  rw [← hO1, ← hO2]
  generalize (w3.alloc O1).alloc O2 = W at *
  rw [hO1] at r1
  rw [hO2] at r2
  obtain ⟨p0, p1, p2, p3, p4, pf⟩ := row5 r1
  obtain ⟨q0, q1, q2, q3, q4, qf⟩ := row5 r2
  have P0 := below_regrown_cell p0
  have P1 := below_regrown_cell p1
  have P2 := below_regrown_cell p2
  have P3 := below_regrown_cell p3
  have P4 := below_regrown_cell p4
  have Q0 := below_regrown_cell q0
  have Q1 := below_regrown_cell q1
  have Q2 := below_regrown_cell q2
  have Q3 := below_regrown_cell q3
  have Q4 := below_regrown_cell q4
  have cV := fun d os => Calls.regrown_of (VCmp_any 3 x y _ _ _ _ _ (lx4.below (below_regrown W d os)) (ly4.below (below_regrown W d os)))
  have cL := fun d os => Calls.regrown_of (LCmp_any 3 x y _ _ _ _ _ (lx4.below (below_regrown W d os)) (ly4.below (below_regrown W d os)))
  have cS := fun d os => Calls.regrown_of (Same_any 3 x y _ _ _ _ _ (lx4.below (below_regrown W d os)) (ly4.below (below_regrown W d os)))
  generalize cmpV (3 + 1) x y = r at *
  clear hrx hry lx4 ly4 r1 r2 p0 p1 p2 p3 p4 pf q0 q1 q2 q3 q4 qf hO1 hO2 hb34 hb3 hb2 hB1 hB2 hB3 hb0 hb1 hE hnx hny
  refine wp_region_quiet_below mixed (by kernel_rfl) ?_
  repeat (quiet_step (first | exact cV _ _ | exact cL _ _ | exact cS _ _))
  refine wpQuiet_nil ?_
  intro _ hw'
  obtain ⟨⟨dq, osq⟩, hw''⟩ := hw'
  subst hw''
  go_wp2
  go_ret
  exact ⟨rfl, hB4.trans ((below_regrown W dq osq).mono hB4.size)⟩
end Go.Proofs.YtheijncppmndoaaDoor
