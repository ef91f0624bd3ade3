/-
  IndexKeys's walk. No conditions beyond those stated.
-/
import Derived.Test.YtfpkkobclkdniaaGreatDoorU24
import Derived.Test.YtfpkkobclkdniaaGreatDoorU12
namespace Go.Proofs.YtfpkkobclkdniaaGreatDoor
open Go.RowKit

set_option maxRecDepth 100000 in
set_option maxHeartbeats 8000000 in
theorem IndexKeys_walk (n : Int) (h0 : 0 ≤ n) (u : Bool) (v2 : Value) (bs : List UInt8) (w : World) (hb : BytesAt w v2 bs) (hE : PEnv w ∧ Tabs w) :
    Calls Tryz.prog 4 #[.int .u8 n, .bool u, v2] w fun e w' => e = .returned (.bool true) ∧ Below w.heap.size w w' := by
  obtain ⟨hE, hT⟩ := hE
  obtain ⟨nm, path, uu, ps, S⟩ := specK n h0 u
  have haw := iawake_true w hE
  have HH := (show Hid _ from And.intro hb (And.intro hE (And.intro hT S)))
  clear hb hE hT S
  go_enter Tryz.func4, Tryz.ntmps4
  go_wp2_with fail
  refine haw.mono ?_
  rintro e w1 ⟨rfl, hb1⟩
  have hsp := HH.out.2.2.2.spec w1
  have H1 := (show Hid _ from hb1)
  clear haw hb1
  go_wp2_with fail
  refine hsp.mono ?_
  rintro e w2 ⟨rfl, hb2⟩
  obtain ⟨W3, hW3⟩ : ∃ W, w2.alloc (.cells #[.string nm, .string path, .bool uu] 23) = W := ⟨_, rfl⟩
  obtain ⟨hb3, r3⟩ := box3 hW3
  obtain ⟨hb, hE, hT, -⟩ := HH.out
  have hB3 := (H1.out.trans (hb2.mono H1.out.size)).trans (hb3.mono (Nat.le_trans H1.out.size hb2.size))
  have hof := Of_any v2 bs W3 (hb.below hB3) (hT.below hB3)
  have H3 := (show Hid _ from And.intro hB3 (And.intro r3 (hE.below hB3)))
  clear hsp hb2 hb3 r3 hb hE hT hB3 H1
  go_wp2_with fail
  clear hW3
  refine hof.mono ?_
  rintro e w4 ⟨x, lx, fx, rfl, hnx, hrx, hb4⟩
  obtain ⟨a1, c1, a2, c2, rfl, rfl⟩ := hrx.slices
  obtain ⟨W5, hW5⟩ : ∃ W, w4.alloc (.cells #[.int .i64 x.kind, .int .i64 x.num, .string x.text, .slice a1 x.list.length c1, .slice a2 x.fields.length c2] 40) = W := ⟨_, rfl⟩
  obtain ⟨hb5, r5⟩ := box5 hW5
  obtain ⟨hB3, r3, hE3⟩ := H3.out
  have hb45 := hb4.trans (hb5.mono hb4.size)
  have hB5 := hB3.trans (hb45.mono hB3.size)
  have hl5 : Lies 3 W5 x _ _ := (Rep.lies hrx).below hb5
  have s5 := (hb45.block _ (lt_of_heap r3)).trans r3
  obtain ⟨a0, aa1, aa2, af⟩ := row3 s5
  obtain ⟨x0, x1, x2, x3, x4, xf⟩ := row5 r5
  obtain ⟨K, hK⟩ : ∃ K, (keyP ps x).getD ⟨#[]⟩ = K := ⟨_, rfl⟩
  obtain ⟨b, hb⟩ : ∃ b, (keyP ps x).isSome = b := ⟨_, rfl⟩
  have hk := key_lit (HH.out.2.2.2.key 3 x _ _ W5 (hE3.below hb45) hl5 hnx) hK hb
  have H5 := (show Hid _ from And.intro hB5 (And.intro s5 (And.intro r5 (And.intro hl5 (And.intro hnx (And.intro hK (And.intro hb (hE3.below hb45))))))))
  clear hof hnx hrx hb4 hb5 r5 hB3 r3 hE3 hb45 hB5 hl5 s5 hK hb H3
  go_wp2_with fail
  clear hW5
  refine hk.mono ?_
  rintro e w6 ⟨rfl, hb6⟩
  clear hk a0 aa1 aa2 af x0 x1 x2 x3 x4 xf
  obtain ⟨hB5, s5, r5, hl5, hnx, hK, hb, hE5⟩ := H5.out
  have s6 := (hb6.block _ (lt_of_heap s5)).trans s5
  have r6 := (hb6.block _ (lt_of_heap r5)).trans r5
  obtain ⟨a0, aa1, aa2, af⟩ := row3 s6
  obtain ⟨x0, x1, x2, x3, x4, xf⟩ := row5 r6
  have hk := key_lit (HH.out.2.2.2.lkey 3 x _ _ w6 (hl5.below hb6) hnx) hK hb
  have H6 := (show Hid _ from And.intro (hB5.trans (hb6.mono hB5.size)) (And.intro s6 (hE5.below hb6)))
  clear hB5 s5 r5 hl5 hnx hK hb hE5 s6 r6 hb6 H5
  go_wp2_with fail
  refine hk.mono ?_
  rintro e w7 ⟨rfl, hb7⟩
  clear hk a0 aa1 aa2 af x0 x1 x2 x3 x4 xf
  obtain ⟨hB6, s6, hE6⟩ := H6.out
  have s7 := (hb7.block _ (lt_of_heap s6)).trans s6
  obtain ⟨a0, aa1, aa2, af⟩ := row3 s7
  have hck := HH.out.2.2.2.check w7 (hE6.below hb7)
  have H7 := (show Hid _ from hB6.trans (hb7.mono hB6.size))
  clear hB6 s6 hE6 s7 hb7 H6
  go_wp2_with fail
  refine hck.mono ?_
  rintro e w8 ⟨rfl, hb8⟩
  have H8 := (show Hid _ from hb8)
  clear hck hb8 a0 aa1 aa2 af
  go_wp2_with fail
  go_ret
  exact ⟨rfl, H7.out.trans (H8.out.mono H7.out.size)⟩
end Go.Proofs.YtfpkkobclkdniaaGreatDoor
