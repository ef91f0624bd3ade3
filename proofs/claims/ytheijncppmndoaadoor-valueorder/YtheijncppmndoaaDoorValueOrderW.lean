/-
  ValueOrder's walk. No conditions beyond those stated.
-/
import Derived.Test.YtheijncppmndoaaDoorVQ
namespace Go.Proofs.YtheijncppmndoaaDoor
open Go.RowKit

set_option maxRecDepth 100000 in
set_option maxHeartbeats 1000000 in
theorem ValueOrder_walk (v0 v1 v2 : Value) (bs0 bs1 bs2 : List UInt8) (w : World) (hb0 : BytesAt w v0 bs0) (hb1 : BytesAt w v1 bs1) (hbz : BytesAt w v2 bs2) (hE : Env w) :
    Calls Tryd.prog 4 #[v0, v1, v2] w fun e w' => e = .returned (.bool true) ∧ Below w.heap.size w w' := by
  go_enter Tryd.func4, Tryd.ntmps4
  go_wp2_with fail
  refine (awake_true _ hE.u8).mono ?_
  rintro e w1 ⟨rfl, hB1⟩
  go_wp2_with fail
  refine (Of_any v0 bs0 _ (hb0.below hB1) (hE.below hB1).tabs).mono ?_
  rintro e w2 ⟨x, lx, fx, rfl, hnx, hrx, hb2⟩
  obtain ⟨a1, c1, a2, c2, rfl, rfl⟩ := hrx.slices
  have hB2 := hB1.trans (hb2.mono hB1.size)
  go_wp2_with fail
  refine (Of_any v1 bs1 _ (hb1.below hB2) (hE.below hB2).tabs).mono ?_
  rintro e w3 ⟨y, ly, fy, rfl, hny, hry, hb3⟩
  obtain ⟨a3, c3, a4, c4, rfl, rfl⟩ := hry.slices
  have hB3 := hB2.trans (hb3.mono hB2.size)
  go_wp2_with fail
  refine (Of_any v2 bs2 _ (hbz.below hB3) (hE.below hB3).tabs).mono ?_
  rintro e w4 ⟨z, lz, fz, rfl, hnz, hrz, hb4⟩
  obtain ⟨a5, c5, a6, c6, rfl, rfl⟩ := hrz.slices
  have hB4' := hB3.trans (hb4.mono hB3.size)
  obtain ⟨O1, hO1⟩ : ∃ O, O = Obj.cells #[.int .i64 x.kind, .int .i64 x.num, .string x.text, .slice a1 x.list.length c1, .slice a2 x.fields.length c2] 28 := ⟨_, rfl⟩
  obtain ⟨O2, hO2⟩ : ∃ O, O = Obj.cells #[.int .i64 y.kind, .int .i64 y.num, .string y.text, .slice a3 y.list.length c3, .slice a4 y.fields.length c4] 28 := ⟨_, rfl⟩
  obtain ⟨O3, hO3⟩ : ∃ O, O = Obj.cells #[.int .i64 z.kind, .int .i64 z.num, .string z.text, .slice a5 z.list.length c5, .slice a6 z.fields.length c6] 28 := ⟨_, rfl⟩
  obtain ⟨W, hW⟩ : ∃ W, W = ((w4.alloc O1).alloc O2).alloc O3 := ⟨_, rfl⟩
  have hb45 : Below w4.heap.size w4 W := by rw [hW]; exact (((Below.refl _ _).alloc (Nat.le_refl _) _).alloc (by simp) _).alloc (by simp; omega) _
  have hb24 : Below w2.heap.size w2 w4 := hb3.trans (hb4.mono hb3.size)
  have lx4 : Lies 3 W x _ _ := ((Rep.lies hrx).below hb24).below hb45
  have ly4 : Lies 3 W y _ _ := ((Rep.lies hry).below hb4).below hb45
  have lz4 : Lies 3 W z _ _ := (Rep.lies hrz).below hb45
  have hB4 : Below w.heap.size w W := hB4'.trans (hb45.mono hB4'.size)
  have r1 : W.heap[w4.heap.size]? = some O1 := by rw [hW]; exact heap_alloc3_0
  have r2 : W.heap[w4.heap.size + 1]? = some O2 := by rw [hW]; exact heap_alloc3_1
  have r3 : W.heap[w4.heap.size + 1 + 1]? = some O3 := by rw [hW]; exact heap_alloc3_2
  rw [hO1] at r1
  rw [hO2] at r2
  rw [hO3] at r3
  clear hrx hry hrz hb45 hb24 hb4 hb3 hb2 hB1 hB2 hB3 hB4' hb0 hb1 hbz hE hnx hny hnz
  go_wp2_with fail
  rw [← hO1, ← hO2, ← hO3, ← hW]
  clear hO1 hO2 hO3 hW
  obtain ⟨p0, p1, p2, p3, p4, pf⟩ := row5 r1
  obtain ⟨q0, q1, q2, q3, q4, qf⟩ := row5 r2
  obtain ⟨s0, s1, s2, s3, s4, sf⟩ := row5 r3
  have P0 := below_regrown_cell p0
  have P1 := below_regrown_cell p1
  have P2 := below_regrown_cell p2
  have P3 := below_regrown_cell p3
  have P4 := below_regrown_cell p4
  have Q0 := below_regrown_cell q0
  have Q1 := below_regrown_cell q1
  have Q2 := below_regrown_cell q2
  have Q3 := below_regrown_cell q3
  have Q4 := below_regrown_cell q4
  have S0 := below_regrown_cell s0
  have S1 := below_regrown_cell s1
  have S2 := below_regrown_cell s2
  have S3 := below_regrown_cell s3
  have S4 := below_regrown_cell s4
  have g := good_cmpV 4
  obtain ⟨a, ha⟩ : ∃ a, cmpV (3 + 1) x y = a := ⟨_, rfl⟩
  obtain ⟨a', ha'⟩ : ∃ a', cmpV (3 + 1) y x = a' := ⟨_, rfl⟩
  obtain ⟨b, hbb⟩ : ∃ b, cmpV (3 + 1) y z = b := ⟨_, rfl⟩
  obtain ⟨c, hcc⟩ : ∃ c, cmpV (3 + 1) x z = c := ⟨_, rfl⟩
  have cxy := fun d os => Calls.regrown_of (VCmp_is ha (lx4.below (below_regrown W d os)) (ly4.below (below_regrown W d os)))
  have cyx := fun d os => Calls.regrown_of (VCmp_is ha' (ly4.below (below_regrown W d os)) (lx4.below (below_regrown W d os)))
  have cxx := fun d os => Calls.regrown_of (VCmp_is (show cmpV (3 + 1) x x = 0 from g.refl x) (lx4.below (below_regrown W d os)) (lx4.below (below_regrown W d os)))
  have czz := fun d os => Calls.regrown_of (Same_is (show cmpV (3 + 1) z z = 0 from g.refl z) (lz4.below (below_regrown W d os)) (lz4.below (below_regrown W d os)))
  have cyz := fun W' (hW : Below W.heap.size W W') => VCmp_is hbb (ly4.below hW) (lz4.below hW)
  have cxz := fun W' (hW : Below W.heap.size W W') => VCmp_is hcc (lx4.below hW) (lz4.below hW)
  have cxy2 := fun W' (hW : Below W.heap.size W W') => VCmp_is ha (lx4.below hW) (ly4.below hW)
  have hrange : -1 ≤ a' ∧ a' ≤ 1 := by rw [← ha']; exact cmpV_range 4 y x
  have htr : a ≤ 0 → b ≤ 0 → c ≤ 0 := by rw [← ha, ← hbb, ← hcc]; exact g.trans x y z
  have e1 : - a' = a := by rw [← ha', ← ha]; have h : cmpV (3 + 1) y x = - cmpV (3 + 1) x y := g.anti y x; rw [h]; omega
  have hw1 : wrap64 a = a := by unfold wrap64; omega
  obtain ⟨ra1, ra2⟩ := hrange
  have HT := (show Hid _ from htr)
  have RR := (show Hid _ from And.intro r1 (And.intro r2 r3))
  clear htr lx4 ly4 lz4 r1 r2 r3 p0 p1 p2 p3 p4 pf q0 q1 q2 q3 q4 qf s0 s1 s2 s3 s4 sf g ra1 ra2 ha ha' hbb hcc
  refine wp_region_quiet_below mixed (by kernel_rfl) ?_
  go_big_quiet_step (fail)
  go_big_quiet_step (fail)
  go_big_quiet_step (exact cxy _ _)
  go_big_quiet_step (fail)
  go_big_quiet_step (fail)
  go_big_quiet_step (exact cyx _ _)
  go_big_quiet_step (fail)
  go_big_quiet_step (fail)
  go_big_quiet_step (fail)
  go_big_quiet_step (fail)
  go_big_quiet_step (fail)
  go_big_quiet_step (exact cxx _ _)
  go_big_quiet_step (fail)
  go_big_quiet_step (fail)
  go_big_quiet_step (fail)
  go_big_quiet_step (fail)
  go_big_quiet_step (fail)
  go_big_quiet_step (exact czz _ _)
  go_big_quiet_step (fail)
  go_big_quiet_step (fail)
  refine wpQuiet_nil ?_
  intro w5 hw5
  obtain ⟨⟨dq, osq⟩, hw5'⟩ := hw5
  have hb5 : Below W.heap.size W w5 := by rw [hw5']; exact below_regrown W dq osq
  clear hw5' cxy cyx cxx czz P0 P1 P2 P3 P4 Q0 Q1 Q2 Q3 Q4 S0 S1 S2 S3 S4 e1 hw1
  obtain ⟨p0, p1, p2, p3, p4, _⟩ := row5 ((hb5.block _ (lt_of_heap RR.out.1)).trans RR.out.1)
  obtain ⟨q0, q1, q2, q3, q4, _⟩ := row5 ((hb5.block _ (lt_of_heap RR.out.2.1)).trans RR.out.2.1)
  obtain ⟨s0, s1, s2, s3, s4, _⟩ := row5 ((hb5.block _ (lt_of_heap RR.out.2.2)).trans RR.out.2.2)
  by_cases h1 : 0 < a
  · go_wp2_with fail
    refine (cxy2 _ hb5).mono ?_
    rintro e w6 ⟨rfl, hc6⟩
    have hb6 := hb5.trans (hc6.mono hb5.size)
    clear p0 p1 p2 p3 p4 q0 q1 q2 q3 q4 s0 s1 s2 s3 s4
    go_wp2_with fail
    go_ret
    exact ⟨rfl, hB4.trans (hb6.mono hB4.size)⟩
  · go_wp2_with fail
    refine (cxy2 _ hb5).mono ?_
    rintro e w6 ⟨rfl, hc6⟩
    have hb6 := hb5.trans (hc6.mono hb5.size)
    clear p0 p1 p2 p3 p4 q0 q1 q2 q3 q4 s0 s1 s2 s3 s4
    obtain ⟨p0, p1, p2, p3, p4, _⟩ := row5 ((hb6.block _ (lt_of_heap RR.out.1)).trans RR.out.1)
    obtain ⟨q0, q1, q2, q3, q4, _⟩ := row5 ((hb6.block _ (lt_of_heap RR.out.2.1)).trans RR.out.2.1)
    obtain ⟨s0, s1, s2, s3, s4, _⟩ := row5 ((hb6.block _ (lt_of_heap RR.out.2.2)).trans RR.out.2.2)
    by_cases h2 : 0 < b
    · go_wp2_with fail
      refine (cyz _ hb6).mono ?_
      rintro e w7 ⟨rfl, hc7⟩
      have hb7 := hb6.trans (hc7.mono hb6.size)
      clear p0 p1 p2 p3 p4 q0 q1 q2 q3 q4 s0 s1 s2 s3 s4
      go_wp2_with fail
      go_ret
      exact ⟨rfl, hB4.trans (hb7.mono hB4.size)⟩
    · have h3 : c ≤ 0 := HT.out (by omega) (by omega)
      go_wp2_with fail
      refine (cyz _ hb6).mono ?_
      rintro e w7 ⟨rfl, hc7⟩
      have hb7 := hb6.trans (hc7.mono hb6.size)
      clear p0 p1 p2 p3 p4 q0 q1 q2 q3 q4 s0 s1 s2 s3 s4
      obtain ⟨p0, p1, p2, p3, p4, _⟩ := row5 ((hb7.block _ (lt_of_heap RR.out.1)).trans RR.out.1)
      obtain ⟨q0, q1, q2, q3, q4, _⟩ := row5 ((hb7.block _ (lt_of_heap RR.out.2.1)).trans RR.out.2.1)
      obtain ⟨s0, s1, s2, s3, s4, _⟩ := row5 ((hb7.block _ (lt_of_heap RR.out.2.2)).trans RR.out.2.2)
      go_wp2_with fail
      refine (cxz _ hb7).mono ?_
      rintro e w8 ⟨rfl, hc8⟩
      have hb8 := hb7.trans (hc8.mono hb7.size)
      clear p0 p1 p2 p3 p4 q0 q1 q2 q3 q4 s0 s1 s2 s3 s4
      go_wp2_with fail
      go_ret
      exact ⟨rfl, hB4.trans (hb8.mono hB4.size)⟩
end Go.Proofs.YtheijncppmndoaaDoor
