/-
  ValueSizes' walk. No conditions beyond those stated.
-/
import Derived.Test.YtheijncppmndoaaDoorVQ2
namespace Go.Proofs.YtheijncppmndoaaDoor
open Go.RowKit

set_option maxRecDepth 100000 in
set_option maxHeartbeats 1000000 in
theorem ValueSizes_walk (v0 v1 : Value) (bs0 bs1 : List UInt8) (w : World) (hb0 : BytesAt w v0 bs0) (hb1 : BytesAt w v1 bs1) (hE : Env w) :
    Calls Tryd.prog 5 #[v0, v1] w fun e w' => e = .returned (.bool true) ∧ Below w.heap.size w w' := by
  go_enter Tryd.func5, Tryd.ntmps5
  go_wp2_with fail
  refine (awake_true _ hE.u8).mono ?_
  rintro e w1 ⟨rfl, hB1⟩
  go_wp2_with fail
  refine (Of_any v0 bs0 _ (hb0.below hB1) (hE.below hB1).tabs).mono ?_
  rintro e w2 ⟨x, lx, fx, rfl, hnx, hrx, hb2⟩
  obtain ⟨a1, c1, a2, c2, rfl, rfl⟩ := hrx.slices
  have hB2 := hB1.trans (hb2.mono hB1.size)
  go_wp2_with fail
  refine (Of_any v1 bs1 _ (hb1.below hB2) (hE.below hB2).tabs).mono ?_
  rintro e w3 ⟨y, ly, fy, rfl, hny, hry, hb3⟩
  obtain ⟨a3, c3, a4, c4, rfl, rfl⟩ := hry.slices
  have hB3 := hB2.trans (hb3.mono hB2.size)
  obtain ⟨O1, hO1⟩ : ∃ O, O = Obj.cells #[.int .i64 x.kind, .int .i64 x.num, .string x.text, .slice a1 x.list.length c1, .slice a2 x.fields.length c2] 28 := ⟨_, rfl⟩
  obtain ⟨O2, hO2⟩ : ∃ O, O = Obj.cells #[.int .i64 y.kind, .int .i64 y.num, .string y.text, .slice a3 y.list.length c3, .slice a4 y.fields.length c4] 28 := ⟨_, rfl⟩
  obtain ⟨O3, hO3⟩ : ∃ O, O = Obj.cells #[.int .i64 x.kind, .int .i64 x.num, .string x.text, .slice a1 x.list.length c1, .slice a2 x.fields.length c2, .int .i64 y.kind, .int .i64 y.num, .string y.text, .slice a3 y.list.length c3, .slice a4 y.fields.length c4] 28 := ⟨_, rfl⟩
  obtain ⟨O4, hO4⟩ : ∃ O, O = Obj.cells #[.int .i64 4, .int .i64 0, .string { data := #[] }, .slice (some ⟨w3.heap.size + 1 + 1, 0, none⟩) 2 2, .slice none 0 0] 28 := ⟨_, rfl⟩
  obtain ⟨O5, hO5⟩ : ∃ O, O = Obj.cells #[.string { data := #[97, 98] }, .int .i64 x.kind, .int .i64 x.num, .string x.text, .slice a1 x.list.length c1, .slice a2 x.fields.length c2] 35 := ⟨_, rfl⟩
  obtain ⟨O6, hO6⟩ : ∃ O, O = Obj.cells #[.int .i64 5, .int .i64 0, .string { data := #[] }, .slice none 0 0, .slice (some ⟨w3.heap.size + 1 + 1 + 1 + 1, 0, none⟩) 1 1] 28 := ⟨_, rfl⟩
  obtain ⟨O7, hO7⟩ : ∃ O, O = Obj.cells #[.int .i64 3, .int .i64 0, .string { data := #[97, 98, 99] }, .slice none 0 0, .slice none 0 0] 28 := ⟨_, rfl⟩
  obtain ⟨W, hW⟩ : ∃ W, W = ((((((w3.alloc O1).alloc O2).alloc O3).alloc O4).alloc O5).alloc O6).alloc O7 := ⟨_, rfl⟩
  have r1 : W.heap[w3.heap.size]? = some O1 := by rw [hW]; exact heap_more (heap_more (heap_more (heap_more (heap_more (heap_more (heap_alloc_new w3 O1))))))
  have r2 : W.heap[w3.heap.size + 1]? = some O2 := by rw [hW]; exact heap_more (heap_more (heap_more (heap_more (heap_more (by simpa using heap_alloc_new (w3.alloc O1) O2)))))
  have r3 : W.heap[w3.heap.size + 1 + 1]? = some O3 := by rw [hW]; exact heap_more (heap_more (heap_more (heap_more (by simpa using heap_alloc_new ((w3.alloc O1).alloc O2) O3))))
  have r4 : W.heap[w3.heap.size + 1 + 1 + 1]? = some O4 := by rw [hW]; exact heap_more (heap_more (heap_more (by simpa using heap_alloc_new (((w3.alloc O1).alloc O2).alloc O3) O4)))
  have r5 : W.heap[w3.heap.size + 1 + 1 + 1 + 1]? = some O5 := by rw [hW]; exact heap_more (heap_more (by simpa using heap_alloc_new ((((w3.alloc O1).alloc O2).alloc O3).alloc O4) O5))
  have r6 : W.heap[w3.heap.size + 1 + 1 + 1 + 1 + 1]? = some O6 := by rw [hW]; exact heap_more (by simpa using heap_alloc_new (((((w3.alloc O1).alloc O2).alloc O3).alloc O4).alloc O5) O6)
  have r7 : W.heap[w3.heap.size + 1 + 1 + 1 + 1 + 1 + 1]? = some O7 := by rw [hW]; simpa using heap_alloc_new ((((((w3.alloc O1).alloc O2).alloc O3).alloc O4).alloc O5).alloc O6) O7
  have hb34 : Below w3.heap.size w3 W := by
    rw [hW]
    exact (((((((Below.refl _ _).alloc (Nat.le_refl _) _).alloc (by simp) _).alloc (by simp; omega) _).alloc (by simp; omega) _).alloc (by simp; omega) _).alloc (by simp; omega) _).alloc (by simp; omega) _
  have lx4 : Lies 3 W x _ _ := ((Rep.lies hrx).below hb3).below hb34
  have ly4 : Lies 3 W y _ _ := (Rep.lies hry).below hb34
  have hB4 : Below w.heap.size w W := hB3.trans (hb34.mono hB3.size)
  clear hb34 hrx hry hb3 hB3 hB2 hB1 hb2 hb0 hb1 hE
  go_wp2_with fail
  rw [← hO1, ← hO2, ← hO3, ← hO4, ← hO5, ← hO6, ← hO7, ← hW]
  rw [hO1] at r1
  rw [hO2] at r2
  rw [hO3] at r3
  rw [hO4] at r4
  rw [hO5] at r5
  rw [hO6] at r6
  rw [hO7] at r7
  clear hO1 hO2 hO3 hO4 hO5 hO6 hO7 hW
  have lL : Lies 4 W ⟨4, 0, { data := #[] }, [x, y], []⟩ _ _ := lies_two r3 lx4 ly4
  have lO : Lies 4 W ⟨5, 0, { data := #[] }, [], [({ data := #[97, 98] }, x)]⟩ _ _ := lies_one r5 lx4
  obtain ⟨p0, p1, p2, p3, p4, _⟩ := row5 r1
  obtain ⟨q0, q1, q2, q3, q4, _⟩ := row5 r2
  obtain ⟨s0, s1, s2, s3, s4, _⟩ := row5 r4
  obtain ⟨t0, t1, t2, t3, t4, _⟩ := row5 r6
  obtain ⟨u0, u1, u2, u3, u4, _⟩ := row5 r7
  have P0 := below_regrown_cell p0
  have P1 := below_regrown_cell p1
  have P2 := below_regrown_cell p2
  have P3 := below_regrown_cell p3
  have P4 := below_regrown_cell p4
  have Q0 := below_regrown_cell q0
  have Q1 := below_regrown_cell q1
  have Q2 := below_regrown_cell q2
  have Q3 := below_regrown_cell q3
  have Q4 := below_regrown_cell q4
  have S0 := below_regrown_cell s0
  have S1 := below_regrown_cell s1
  have S2 := below_regrown_cell s2
  have S3 := below_regrown_cell s3
  have S4 := below_regrown_cell s4
  have T0 := below_regrown_cell t0
  have T1 := below_regrown_cell t1
  have T2 := below_regrown_cell t2
  have T3 := below_regrown_cell t3
  have T4 := below_regrown_cell t4
  have U0 := below_regrown_cell u0
  have U1 := below_regrown_cell u1
  have U2 := below_regrown_cell u2
  have U3 := below_regrown_cell u3
  have U4 := below_regrown_cell u4
  obtain ⟨dx, hdx⟩ : ∃ a, depthV (3 + 1) x = a := ⟨_, rfl⟩
  obtain ⟨dy, hdy⟩ : ∃ a, depthV (3 + 1) y = a := ⟨_, rfl⟩
  obtain ⟨sx, hsx⟩ : ∃ a, sizeV (3 + 1) x = a := ⟨_, rfl⟩
  obtain ⟨sy, hsy⟩ : ∃ a, sizeV (3 + 1) y = a := ⟨_, rfl⟩
  have bx : 1 ≤ dx ∧ dx ≤ 5 := by rw [← hdx]; exact depthV_bound 4 x
  have bdy : 1 ≤ dy ∧ dy ≤ 5 := by rw [← hdy]; exact depthV_bound 4 y
  have bsx : 1 ≤ sx ∧ sx ≤ 2000 := by rw [← hsx]; exact nice_size3 hnx
  have bsy : 1 ≤ sy ∧ sy ≤ 2000 := by rw [← hsy]; exact nice_size3 hny
  have eL : depthV (4 + 1) ⟨4, 0, { data := #[] }, [x, y], []⟩ = 1 + max dx dy := depth_two hdx hdy bx.1
  have fL : sizeV (4 + 1) ⟨4, 0, { data := #[] }, [x, y], []⟩ = 1 + sx + sy := size_two hsx hsy
  have eO : depthV (4 + 1) ⟨5, 0, { data := #[] }, [], [({ data := #[97, 98] }, x)]⟩ = 1 + dx := depth_one hdx bx.1
  have fO : sizeV (4 + 1) ⟨5, 0, { data := #[] }, [], [({ data := #[97, 98] }, x)]⟩ = 3 + sx := size_one hsx rfl
  have eT : depthV (0 + 1) ⟨3, 0, { data := #[97, 98, 99] }, [], []⟩ = 1 := depth_text
  have fT : sizeV (0 + 1) ⟨3, 0, { data := #[97, 98, 99] }, [], []⟩ = 4 := size_text rfl
  have fZ : sizeV (0 + 1) ⟨0, 0, { data := #[] }, [], []⟩ = 1 := size_zero
  have cDx := fun d os => Calls.regrown_of (Depth_is (by omega) hdx (lx4.below (below_regrown W d os)))
  have cDy := fun d os => Calls.regrown_of (Depth_is (by omega) hdy (ly4.below (below_regrown W d os)))
  have cDL := fun d os => Calls.regrown_of (Depth_is (by omega) eL (lL.below (below_regrown W d os)))
  have cDO := fun d os => Calls.regrown_of (Depth_is (by omega) eO (lO.below (below_regrown W d os)))
  have cSx := fun d os => Calls.regrown_of (Size_is hsx (by omega) (lx4.below (below_regrown W d os)))
  have cSy := fun d os => Calls.regrown_of (Size_is hsy (by omega) (ly4.below (below_regrown W d os)))
  have cSL := fun d os => Calls.regrown_of (Size_is fL (by omega) (lL.below (below_regrown W d os)))
  have cSO := fun d os => Calls.regrown_of (Size_is fO (by omega) (lO.below (below_regrown W d os)))
  have cDT := fun d os => Calls.regrown_of (Depth_is (w := Go.Sort.grow (redrawn W d) os) (by omega) eT lies_none)
  have cST := fun d os => Calls.regrown_of (Size_is (w := Go.Sort.grow (redrawn W d) os) fT (by omega) lies_none)
  have cSZ := fun d os => Calls.regrown_of (Size_is (w := Go.Sort.grow (redrawn W d) os) fZ (by omega) lies_none)
  simp only at cDL cDO cSL cSO cDT cST cSZ
  clear hdx hdy hsx hsy eL fL eO fO eT fT fZ lL lO lx4 ly4 r1 r2 r3 r4 r5 r6 r7 p0 p1 p2 p3 p4 q0 q1 q2 q3 q4 s0 s1 s2 s3 s4 t0 t1 t2 t3 t4 u0 u1 u2 u3 u4 hnx hny
  refine wp_region_quiet_below mixed (by kernel_rfl) ?_
  go_big_quiet_step (fail)
  go_big_quiet_step (exact cDL _ _)
  go_big_quiet_step (fail)
  go_big_quiet_step (exact cDx _ _)
  go_big_quiet_step (fail)
  go_big_quiet_step (exact cDy _ _)
  go_big_quiet_step (fail)
  go_big_quiet_step (fail)
  go_big_quiet_step (fail)
  go_big_quiet_step (fail)
  go_big_quiet_step (fail)
  go_big_quiet_step (exact cSL _ _)
  go_big_quiet_step (fail)
  go_big_quiet_step (exact cSx _ _)
  go_big_quiet_step (fail)
  go_big_quiet_step (fail)
  go_big_quiet_step (exact cSy _ _)
  go_big_quiet_step (fail)
  go_big_quiet_step (fail)
  go_big_quiet_step (fail)
  go_big_quiet_step (fail)
  go_big_quiet_step (fail)
  go_big_quiet_step (exact cDO _ _)
  go_big_quiet_step (fail)
  go_big_quiet_step (exact cDx _ _)
  go_big_quiet_step (fail)
  go_big_quiet_step (fail)
  go_big_quiet_step (fail)
  go_big_quiet_step (fail)
  go_big_quiet_step (fail)
  go_big_quiet_step (exact cSO _ _)
  go_big_quiet_step (fail)
  go_big_quiet_step (exact cSx _ _)
  go_big_quiet_step (fail)
  go_big_quiet_step (fail)
  go_big_quiet_step (fail)
  go_big_quiet_step (fail)
  go_big_quiet_step (fail)
  go_big_quiet_step (exact cST _ _)
  go_big_quiet_step (fail)
  go_big_quiet_step (fail)
  go_big_quiet_step (fail)
  go_big_quiet_step (fail)
  go_big_quiet_step (exact cDT _ _)
  go_big_quiet_step (fail)
  go_big_quiet_step (fail)
  go_big_quiet_step (fail)
  go_big_quiet_step (fail)
  go_big_quiet_step (exact cSZ _ _)
  go_big_quiet_step (fail)
  go_big_quiet_step (fail)
  go_big_quiet_step (fail)
  refine wpQuiet_nil ?_
  intro w5 hw5
  obtain ⟨⟨dq, osq⟩, hw5'⟩ := hw5
  have hb5 : Below W.heap.size W w5 := by rw [hw5']; exact below_regrown W dq osq
  clear hw5' cDx cDy cDL cDO cSx cSy cSL cSO cDT cST cSZ
  go_wp2_with fail
  go_ret
  exact ⟨rfl, hB4.trans (hb5.mono hB4.size)⟩
end Go.Proofs.YtheijncppmndoaaDoor
