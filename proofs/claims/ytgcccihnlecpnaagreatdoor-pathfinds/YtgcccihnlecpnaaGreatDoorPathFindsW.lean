/-
  PathFinds' walk. No conditions beyond those stated.
-/
import Derived.Test.YtgcccihnlecpnaaGreatDoorU15
namespace Go.Proofs.YtgcccihnlecpnaaGreatDoor
open Go.RowKit

set_option maxRecDepth 100000 in
set_option maxHeartbeats 4000000 in
theorem PathFinds_walk (v0 v1 : Value) (bs0 bs1 : List UInt8) (w : World) (hb0 : BytesAt w v0 bs0) (hb1 : BytesAt w v1 bs1) (hE : PEnv w ∧ Tabs w) :
    Calls Tryz.prog 3 #[v0, v1] w fun e w' => e = .returned (.bool true) ∧ Below w.heap.size w w' := by
  obtain ⟨hE, hT⟩ := hE
  have HH := (show Hid _ from And.intro hb0 (And.intro hb1 (And.intro hE hT)))
  have haw := awake_true w hE
  clear hb0 hb1 hE hT
  go_enter Tryz.func3, Tryz.ntmps3
  go_wp2_with fail
  refine haw.mono ?_
  rintro e w1 ⟨rfl, hB1⟩
  obtain ⟨hb0, hb1, hE, hT⟩ := HH.out
  have hof := Of_any v0 bs0 w1 (hb0.below hB1) (hT.below hB1)
  clear hb0 hb1 hE hT haw
  go_wp2_with fail
  refine hof.mono ?_
  rintro e w2 ⟨x, lx, fx, rfl, hnx, hrx, hb2⟩
  obtain ⟨a1, c1, a2, c2, rfl, rfl⟩ := hrx.slices
  have hB2 := hB1.trans (hb2.mono hB1.size)
  obtain ⟨hb0, hb1, hE, hT⟩ := HH.out
  have hway := Way_any v1 bs1 w2 (hb1.below hB2)
  have H2 := (show Hid _ from And.intro hnx (And.intro hrx hB2))
  clear hb0 hb1 hE hT hof hnx hrx hb2 hB1 hB2
  go_wp2_with fail
  refine hway.mono ?_
  rintro e w3 ⟨s, rfl, hst, hb3⟩
  obtain ⟨hnx, hrx, hB2⟩ := H2.out
  obtain ⟨hb0, hb1, hE, hT⟩ := HH.out
  obtain ⟨W3, hW3⟩ : ∃ W, w3.alloc (.cells #[.int .i64 x.kind, .int .i64 x.num, .string x.text, .slice a1 x.list.length c1, .slice a2 x.fields.length c2] 28) = W := ⟨_, rfl⟩
  obtain ⟨hbox3, q3⟩ := boxed hW3
  have hb23 := hb3.trans (hbox3.mono hb3.size)
  have hB3 := hB2.trans (hb23.mono hB2.size)
  have hl3 : Lies 3 W3 x _ _ := (Rep.lies hrx).below hb23
  have hf := Find6_any 3 (wayOf bs1) s x _ _ W3 (hE.below hB3) (way_size bs1) (hst.below hbox3) hl3
  obtain ⟨x0, x1, x2, x3, x4, xf⟩ := row5 q3
  have H3 := (show Hid _ from And.intro hB3 (And.intro q3 (And.intro hl3 (And.intro (hst.below hbox3) (And.intro hnx (nice_ten 3 x hnx))))))
  obtain ⟨sa, sc, rfl, -⟩ := hst
  clear hb0 hb1 hE hT hway hnx hrx hb3 hB2 hbox3 q3 hb23 hB3 hl3
  go_wp2_with fail
  refine hf.mono ?_
  rintro e w4 ⟨l4, f4, m4, rfl, hl4, hb4⟩
  obtain ⟨y, hy⟩ : ∃ y, (findP x (wayOf bs1)).getD zeroV = y := ⟨_, rfl⟩
  obtain ⟨bb, hbb⟩ : ∃ b, (findP x (wayOf bs1)).isSome = b := ⟨_, rfl⟩
  rw [hy] at hl4 ⊢
  rw [hbb]
  obtain ⟨a5, c5, a6, c6, rfl, rfl⟩ := Rep.slices hl4
  obtain ⟨hB3, q3, hl3, hst3, hnx, hten⟩ := H3.out
  obtain ⟨W4, hW4⟩ : ∃ W, w4.alloc (.cells #[.int .i64 y.kind, .int .i64 y.num, .string y.text, .slice a5 y.list.length c5, .slice a6 y.fields.length c6] 28) = W := ⟨_, rfl⟩
  obtain ⟨hbox4, q4⟩ := boxed hW4
  have hb34 := hb4.trans (hbox4.mono hb4.size)
  have hB4 := hB3.trans (hb34.mono hB3.size)
  have q34 := (hb34.block _ (lt_of_heap q3)).trans q3
  obtain ⟨k0, k1, k2, k3, k4, kf⟩ := row5 q34
  have hlf := LFind_any 3 (wayOf bs1) _ x _ _ W4 (hst3.below hb34) (hl3.below hb34) (hten.le (by have := way_len bs1; omega))
  have H4 := (show Hid _ from And.intro hB4 (And.intro q4 (And.intro (hl4.below hbox4) (And.intro hy hbb))))
  clear hB3 q3 hl3 hst3 hnx hten hbox4 q4 hb34 hB4 q34 hf hl4 hb4 hy hbb x0 x1 x2 x3 x4 xf
  go_wp2_with fail
  refine hlf.mono ?_
  rintro e w5 ⟨l5, f5, m5, rfl, hl5, hb5⟩
  obtain ⟨hB4, q4, hl4, hy, hbb⟩ := H4.out
  rw [hy] at hl5 ⊢
  rw [hbb]
  obtain ⟨a7, c7, a8, c8, rfl, rfl⟩ := Rep.slices hl5
  obtain ⟨W5, hW5⟩ : ∃ W, w5.alloc (.cells #[.int .i64 y.kind, .int .i64 y.num, .string y.text, .slice a7 y.list.length c7, .slice a8 y.fields.length c8] 28) = W := ⟨_, rfl⟩
  obtain ⟨hbox5, q5⟩ := boxed hW5
  have hb45 := hb5.trans (hbox5.mono hb5.size)
  have hB5 := hB4.trans (hb45.mono hB4.size)
  have q45 := (hb45.block _ (lt_of_heap q4)).trans q4
  obtain ⟨k0, k1, k2, k3, k4, kf⟩ := row5 q45
  obtain ⟨z0, z1, z2, z3, z4, zf⟩ := row5 q5
  have hsame := same_any (hl4.below hb45) (hl5.below hb45)
  have H5 := (show Hid _ from hB5)
  clear hB4 q4 hl4 hy hbb hl5 hbox5 q5 hb45 hB5 q45 hlf hb5
  go_wp2_with fail
  refine hsame.mono ?_
  rintro e w6 ⟨rfl, hb6⟩
  go_wp2_with fail
  go_ret
  exact ⟨rfl, H5.out.trans (hb6.mono H5.out.size)⟩
end Go.Proofs.YtgcccihnlecpnaaGreatDoor
