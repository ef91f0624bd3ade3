/-
  The law's awake: the document's examples. No conditions beyond those stated.
-/
import Derived.Test.YtehjdamdlokoaaaDoorKG
import Derived.Test.YtehjdamdlokoaaaDoorKB
namespace Go.Proofs.YtehjdamdlokoaaaDoor
open Go.RowKit

def oneV : V := ⟨2, 1, ⟨#[]⟩, [], []⟩
def oneP : ByteArray := ⟨#[3, 128, 0, 0, 0, 0, 0, 0, 1]⟩
theorem put_one : (⟨(putV (0 + 1) oneV).toArray⟩ : ByteArray) = oneP := by kernel_rfl
theorem get_one : valueK 16 oneP.data.toList = some (oneV, []) := by kernel_rfl
theorem one_at (W : World) : Lies 0 W oneV (.slice none 0 0) (.slice none 0 0) := rep_bare 2 1 ⟨#[]⟩ 0
theorem one_fit : KFit 0 oneV := by
  exact ⟨by decide, by decide, ⟨by decide, by decide⟩, fun h => absurd h (by decide), by decide⟩

set_option maxRecDepth 100000 in
set_option maxHeartbeats 4000000 in
theorem awake_true (w : World) (hU : U8 w) : Calls Tryd.prog 9 #[] w fun e w' => e = .returned (.bool true) ∧ Below w.heap.size w w' := by
  obtain ⟨O1, hO1⟩ : ∃ O, O = Obj.cells #[.int .i64 2, .int .i64 1, .string ⟨#[]⟩, .slice none 0 0, .slice none 0 0] 28 := ⟨_, rfl⟩
  have hB1 : Below w.heap.size w (w.alloc O1) := (Below.refl _ _).alloc (Nat.le_refl _) _
  have hput := fun W => KPut_any 0 oneV (.slice none 0 0) (.slice none 0 0) W (one_at W) one_fit (by decide) put_one
  simp only [oneV] at hput
  have hput1 := hput (w.alloc O1)
  rw [hO1] at hput1
  have r1 := heap_alloc_new w O1
  have HE := (show Hid _ from And.intro hU (And.intro hB1 (And.intro hO1 r1)))
  clear hU hB1 hO1 r1
  go_enter Tryd.func9, Tryd.ntmps9
  go_wp2_with fail
  refine hput1.mono ?_
  rintro e w1 ⟨rfl, hb1⟩
  obtain ⟨hU, hB1, hO1, r1⟩ := HE.out
  rw [← hO1] at hb1
  have hB2 := hB1.trans (hb1.mono hB1.size)
  have hg := Get_some oneP w1 (by decide) oneV true get_one (hU.later hB2) fun l f W h hU => Valid_any 16 oneV l f W h (.inr (.inr (.inl ⟨1, rfl⟩))) hU
  have r2 := (hb1.block _ (lt_of_heap r1)).trans r1
  have H1 := (show Hid _ from And.intro hB2 r2)
  clear hput1 hU hB1 hO1 r1 hb1 hB2 r2
  go_wp2_with fail
  refine hg.mono ?_
  rintro e w2 ⟨hb2, l, f, rfl, hrep⟩
  obtain ⟨al, cl, af, cf, rfl, rfl⟩ := hrep.slices
  obtain ⟨v0, hv0⟩ : ∃ v, v = oneV := ⟨_, rfl⟩
  rw [← hv0] at hrep ⊢
  obtain ⟨hU, hB1, hO1, r1⟩ := HE.out
  obtain ⟨hB2, r2⟩ := H1.out
  have hB3 := hB2.trans (hb2.mono hB2.size)
  obtain ⟨O2, hO2⟩ : ∃ O, O = Obj.cells #[.int .i64 v0.kind, .int .i64 v0.num, .string v0.text, .slice al v0.list.length cl, .slice af v0.fields.length cf] 28 := ⟨_, rfl⟩
  have hB3' : Below w.heap.size w (w2.alloc O2) := hB3.alloc hB3.size _
  have hn := Get_none ⟨#[]⟩ (w2.alloc O2) (by decide) (fun v h => by cases h)
  have r3 := (hb2.block _ (lt_of_heap r2)).trans r2
  have r3' := (Below.heap_alloc w2 O2 _ (lt_of_heap r3)).trans r3
  have q3 := heap_alloc_new w2 O2
  have hl3 : Lies 16 (w2.alloc O2) v0 (.slice al v0.list.length cl) (.slice af v0.fields.length cf) := hrep.al.lies
  rw [hO2] at hn
  have H2 := (show Hid _ from And.intro hB3' (And.intro hO2 (And.intro r3' (And.intro q3 (And.intro hl3 hv0)))))
  clear hg hU hB1 hO1 r1 hB2 r2 hb2 hB3 hO2 hB3' r3 r3' q3 hl3 hrep hv0
  go_wp2_with fail
  refine hn.mono ?_
  rintro e w3 ⟨hb3, rfl⟩
  obtain ⟨hB3', hO2, r3', q3, hl3, hv0⟩ := H2.out
  rw [← hO2] at hb3
  have hB4 := hB3'.trans (hb3.mono hB3'.size)
  obtain ⟨O3, hO3⟩ : ∃ O, O = Obj.cells #[.int .i64 0, .int .i64 0, .string ⟨#[]⟩, .slice none 0 0, .slice none 0 0] 28 := ⟨_, rfl⟩
  have hA : Below w3.heap.size w3 (w3.alloc O3) := (Below.refl _ _).alloc (Nat.le_refl _) _
  have hB4' := hB4.trans (hA.mono hB4.size)
  have hb4' := hb3.trans (hA.mono hb3.size)
  have r4 := (hb4'.block _ (lt_of_heap r3')).trans r3'
  have q4 := (hb4'.block _ (lt_of_heap q3)).trans q3
  have hl4 := hl3.below hb4'
  have hput3 := hput (w3.alloc O3)
  have hO1 := HE.out.2.2.1
  have r4w := (hb3.block _ (lt_of_heap r3')).trans r3'
  rw [hO1] at r4 r4w
  obtain ⟨j0, j1, j2, j3, j4, jf⟩ := row5 r4w
  have hlt := lt_of_heap r4w
  rw [hO3] at hput3
  have H3 := (show Hid _ from And.intro hB4' (And.intro hO3 (And.intro r4 (And.intro q4 hl4))))
  clear hn hput hB3' hO2 r3' q3 hl3 hb3 hB4 hA hB4' hb4' r4 q4 hl4 hO3 hO1 r4w hv0
  go_wp2_with fail
  refine hput3.mono ?_
  rintro e w4 ⟨rfl, hb4⟩
  obtain ⟨hB4', hO3, r4, q4, hl4⟩ := H3.out
  obtain ⟨hB3', hO2, r3', q3, hl3, hv0⟩ := H2.out
  rw [← hO3] at hb4
  have hB5 := hB4'.trans (hb4.mono hB4'.size)
  have r5 := (hb4.block _ (lt_of_heap r4)).trans r4
  have q5 := (hb4.block _ (lt_of_heap q4)).trans q4
  rw [hO2] at q5
  obtain ⟨j0, j1, j2, j3, j4, jf⟩ := row5 r5
  obtain ⟨i0, i1, i2, i3, i4, hif⟩ := row5 q5
  have hlt5 := lt_of_heap r5
  have hlt6 := lt_of_heap q5
  have hsm := Same_is (n := 16) (show cmpV (16 + 1) v0 oneV = 0 by rw [hv0]; exact (good_cmpV _).refl _) (hl4.below hb4) ((one_at w4).le (by decide))
  simp only [oneV] at hsm
  have hop : oneP = ⟨#[3, 128, 0, 0, 0, 0, 0, 0, 1]⟩ := rfl
  have H4 := (show Hid _ from hB5)
  clear hput3 hB4' hO3 r4 q4 hl4 hB3' hO2 r3' q3 hl3 hv0 hb4 hB5 r5 q5
  go_wp2_with fail
  refine hsm.mono ?_
  rintro e w5 ⟨rfl, hb5⟩
  have hbh := Behind_any ⟨#[97]⟩ w5 (by decide)
  have H5 := (show Hid _ from hb5)
  clear hsm hb5
  go_wp2_with fail
  refine hbh.mono ?_
  rintro e w6 ⟨rfl, rfl⟩
  go_wp2_with fail
  go_ret
  exact ⟨rfl, H4.out.trans (H5.out.mono H4.out.size)⟩
end Go.Proofs.YtehjdamdlokoaaaDoor
