/-
  KeyOrder's walk: keys stand in the order of their values. Conditions: as stated.
-/
import Derived.Test.YtehjdamdlokoaaaDoorKP3
import Derived.Test.YtehjdamdlokoaaaDoorKP
import Derived.Test.YtehjdamdlokoaaaDoorKAw
import Derived.Test.YtehjdamdlokoaaaDoorKRow
import Derived.Test.YtehjdamdlokoaaaDoorVLCmp3
namespace Go.Proofs.YtehjdamdlokoaaaDoor
open Go.RowKit

theorem Texts_is {a b : ByteArray} {w : World} {r : Int} (h : cmpT a b = r) : Calls Tryd.prog 13 #[.string a, .string b] w fun e w' => e = .returned (.int .i64 r) ∧ Below w.heap.size w w' := by
  rw [← h]
  exact (Texts_any a b w).mono fun e w' ⟨h1, h2⟩ => ⟨h1, by rw [h2]; exact Below.refl _ _⟩
theorem LCmp_is {n : Nat} {a b : V} {la fa lb fb : Value} {w : World} {r : Int} (hr : cmpV (n + 1) a b = r) (ha : Lies n w a la fa) (hb : Lies n w b lb fb) :
    Calls Tryd.prog 14 #[.agg #[.int .i64 a.kind, .int .i64 a.num, .string a.text, la, fa], .agg #[.int .i64 b.kind, .int .i64 b.num, .string b.text, lb, fb]] w fun e w' => e = .returned (.int .i64 r) ∧ Below w.heap.size w w' := by
  rw [← hr]; exact LCmp_any n a b la fa lb fb w ha hb
set_option maxRecDepth 100000 in
set_option maxHeartbeats 4000000 in
theorem KeyOrder_walk (v0 v1 : Value) (bs0 bs1 : List UInt8) (w : World) (hb0 : BytesAt w v0 bs0) (hb1 : BytesAt w v1 bs1) (hE : Env w) :
    Calls Tryd.prog 4 #[v0, v1] w fun e w' => e = .returned (.bool true) ∧ Below w.heap.size w w' := by
  go_enter Tryd.func4, Tryd.ntmps4
  go_wp2_with fail
  refine (awake_true _ hE.u8).mono ?_
  rintro e w1 ⟨rfl, hB1⟩
  go_wp2_with fail
  refine (Of_any v0 bs0 _ (hb0.below hB1) (hE.below hB1).tabs).mono ?_
  rintro e w2 ⟨x, lx, fx, rfl, hnx, hrx, hb2⟩
  obtain ⟨a1, c1, a2, c2, rfl, rfl⟩ := hrx.slices
  have hB2 := hB1.trans (hb2.mono hB1.size)
  go_wp2_with fail
  refine (Of_any v1 bs1 _ (hb1.below hB2) (hE.below hB2).tabs).mono ?_
  rintro e w3 ⟨y, ly, fy, rfl, hny, hry, hb3⟩
  obtain ⟨a3, c3, a4, c4, rfl, rfl⟩ := hry.slices
  have hB3 := hB2.trans (hb3.mono hB2.size)
  obtain ⟨O1, hO1⟩ : ∃ O, O = Obj.cells #[.int .i64 x.kind, .int .i64 x.num, .string x.text, .slice a1 x.list.length c1, .slice a2 x.fields.length c2] 28 := ⟨_, rfl⟩
  obtain ⟨O2, hO2⟩ : ∃ O, O = Obj.cells #[.int .i64 y.kind, .int .i64 y.num, .string y.text, .slice a3 y.list.length c3, .slice a4 y.fields.length c4] 28 := ⟨_, rfl⟩
  obtain ⟨W, hW⟩ : ∃ W, W = (w3.alloc O1).alloc O2 := ⟨_, rfl⟩
  have hb34 : Below w3.heap.size w3 W := by rw [hW]; exact ((Below.refl _ _).alloc (Nat.le_refl _) _).alloc (by simp) _
  have lx4 : Lies 3 W x _ _ := ((Rep.lies hrx).below hb3).below hb34
  have ly4 : Lies 3 W y _ _ := (Rep.lies hry).below hb34
  have hB4 : Below w.heap.size w W := hB3.trans (hb34.mono hB3.size)
  have r1 : W.heap[w3.heap.size]? = some O1 := by rw [hW]; exact heap_alloc2_old
  have r2 : W.heap[w3.heap.size + 1]? = some O2 := by rw [hW]; exact heap_alloc2_new
  rw [hO1] at r1
  rw [hO2] at r2
  have HN := (show Hid _ from And.intro hnx hny)
  clear hrx hry hb34 hb3 hb2 hB1 hB2 hB3 hb0 hb1 hE hnx hny
  go_wp2_with fail
  rw [← hO1, ← hO2, ← hW]
  clear hO1 hO2 hW
  obtain ⟨p0, p1, p2, p3, p4, pf⟩ := row5 r1
  obtain ⟨q0, q1, q2, q3, q4, qf⟩ := row5 r2
  have P0 := below_regrown_cell p0
  have P1 := below_regrown_cell p1
  have P2 := below_regrown_cell p2
  have P3 := below_regrown_cell p3
  have P4 := below_regrown_cell p4
  have Q0 := below_regrown_cell q0
  have Q1 := below_regrown_cell q1
  have Q2 := below_regrown_cell q2
  have Q3 := below_regrown_cell q3
  have Q4 := below_regrown_cell q4
  obtain ⟨A, hA⟩ : ∃ A : ByteArray, (⟨(putV (3 + 1) x).toArray⟩ : ByteArray) = A := ⟨_, rfl⟩
  obtain ⟨B, hB⟩ : ∃ B : ByteArray, (⟨(putV (3 + 1) y).toArray⟩ : ByteArray) = B := ⟨_, rfl⟩
  have cx := fun d os => Calls.regrown_of (KPut_any 3 x _ _ _ (lx4.below (below_regrown W d os)) (nice_kfit 3 x HN.out.1) (Nat.le_trans (put_len 3 x HN.out.1) (by decide)) hA)
  have cy := fun d os => Calls.regrown_of (KPut_any 3 y _ _ _ (ly4.below (below_regrown W d os)) (nice_kfit 3 y HN.out.2) (Nat.le_trans (put_len 3 y HN.out.2) (by decide)) hB)
  have RR := (show Hid _ from And.intro r1 (And.intro r2 (And.intro lx4 (And.intro ly4 (And.intro hA hB)))))
  clear lx4 ly4 r1 r2 p0 p1 p2 p3 p4 pf q0 q1 q2 q3 q4 qf hA hB
  refine wp_region_quiet_below mixed (by kernel_rfl) ?_
  go_big_quiet_step (fail)
  go_big_quiet_step (exact cx _ _)
  go_big_quiet_step (fail)
  go_big_quiet_step (exact cy _ _)
  go_big_quiet_step (fail)
  go_big_quiet_step (fail)
  refine wpQuiet_nil ?_
  intro w5 hw5
  obtain ⟨⟨dq, osq⟩, hw5'⟩ := hw5
  have hb5 : Below W.heap.size W w5 := by rw [hw5']; exact below_regrown W dq osq
  clear hw5' cx cy P0 P1 P2 P3 P4 Q0 Q1 Q2 Q3 Q4
  obtain ⟨r1, r2, lx4, ly4, hA, hB⟩ := RR.out
  have lx5 := lx4.below hb5
  have ly5 := ly4.below hb5
  obtain ⟨p0, p1, p2, p3, p4, _⟩ := row5 ((hb5.block _ (lt_of_heap r1)).trans r1)
  obtain ⟨q0, q1, q2, q3, q4, _⟩ := row5 ((hb5.block _ (lt_of_heap r2)).trans r2)
  have P0 := below_regrown_cell p0
  have P1 := below_regrown_cell p1
  have P2 := below_regrown_cell p2
  have P3 := below_regrown_cell p3
  have P4 := below_regrown_cell p4
  have Q0 := below_regrown_cell q0
  have Q1 := below_regrown_cell q1
  have Q2 := below_regrown_cell q2
  have Q3 := below_regrown_cell q3
  have Q4 := below_regrown_cell q4
  obtain ⟨r, hr⟩ : ∃ r, cmpV (3 + 1) x y = r := ⟨_, rfl⟩
  have hT : cmpT A B = r := by
    unfold cmpT
    rw [Lib.toList_data, Lib.toList_data, ← hA, ← hB, ← hr]
    exact put_cmp' 3 x y HN.out.1 HN.out.2
  have ct := fun d os => Calls.regrown_of (Texts_is (w := Go.Sort.grow (redrawn w5 d) os) hT)
  have cc := fun d os => Calls.regrown_of (LCmp_is hr (lx5.below (below_regrown w5 d os)) (ly5.below (below_regrown w5 d os)))
  have HB5 := (show Hid _ from And.intro hB4 hb5)
  clear r1 r2 lx4 ly4 hA hB lx5 ly5 p0 p1 p2 p3 p4 q0 q1 q2 q3 q4 hr hT hB4 hb5 RR HN
  go_wp2_with fail
  refine wp_region_quiet_below mixed (by kernel_rfl) ?_
  go_big_quiet_step (fail)
  go_big_quiet_step (fail)
  go_big_quiet_step (exact ct _ _)
  go_big_quiet_step (fail)
  go_big_quiet_step (fail)
  go_big_quiet_step (exact cc _ _)
  go_big_quiet_step (fail)
  go_big_quiet_step (fail)
  refine wpQuiet_nil ?_
  intro w6 hw6
  obtain ⟨⟨dq, osq⟩, hw6'⟩ := hw6
  have hb6 : Below w5.heap.size w5 w6 := by rw [hw6']; exact below_regrown w5 dq osq
  clear hw6' ct cc P0 P1 P2 P3 P4 Q0 Q1 Q2 Q3 Q4
  go_wp2_with fail
  go_ret
  obtain ⟨hB4, hb5⟩ := HB5.out
  have hB5 := hB4.trans (hb5.mono hB4.size)
  exact ⟨rfl, hB5.trans (hb6.mono hB5.size)⟩
end Go.Proofs.YtehjdamdlokoaaaDoor
