/-
  JsonPrints' walk: a value is printed as the document says. Conditions: as stated.
-/
import Derived.Test.YtnkoblhdbccbeaaGreatDoorJLP2
import Derived.Test.YtnkoblhdbccbeaaGreatDoorU17
import Derived.Test.YtnkoblhdbccbeaaGreatDoorU18
import Derived.Test.YtnkoblhdbccbeaaGreatDoorU8
namespace Go.Proofs.YtnkoblhdbccbeaaGreatDoor
open Go.RowKit Go.Extern.Stop Go.Stop Go.Extern

set_option maxRecDepth 100000 in
set_option maxHeartbeats 8000000 in
theorem JsonPrints_walk (s : Value) (bs : List UInt8) (W : World) (hb : BytesAt W s bs) (hE : JEnv W ∧ Tabs W) :
    Calls Tryz.prog 4 #[s] W fun e w' => e = .returned (.bool true) ∧ Below W.heap.size W w' := by
  obtain ⟨hE, hT⟩ := hE
  have haw := awake_true W hE
  have hof := fun W' (hW : Below W.heap.size W W') => Of_any s bs W' (hb.below hW) (hT.below hW)
  obtain ⟨sa, sn, sc, rfl⟩ : ∃ a n c, s = .slice a n c := by
    obtain ⟨a, c, e, _⟩ := hb
    exact ⟨_, _, _, e⟩
  have HE := (show Hid _ from hE)
  clear hE hT hb
  go_enter Tryz.func4, Tryz.ntmps4
  go_wp2_with fail
  refine haw.mono ?_
  rintro e w1 ⟨rfl, hb1⟩
  have hof1 := hof w1 hb1
  have H1 := (show Hid _ from hb1)
  clear haw hof hb1
  go_wp2_with fail
  refine hof1.mono ?_
  rintro e w2 ⟨v, l, f, rfl, hnv, hrv, hb2⟩
  obtain ⟨al, cl, af, cf, rfl, rfl⟩ := hrv.slices
  have hB2 := H1.out.trans (hb2.mono H1.out.size)
  obtain ⟨O2, hO2⟩ : ∃ O, O = Obj.cells #[.int .i64 v.kind, .int .i64 v.num, .string v.text, .slice al v.list.length cl, .slice af v.fields.length cf] 31 := ⟨_, rfl⟩
  have hA2 : Below w2.heap.size w2 (w2.alloc O2) := (Below.refl _ _).alloc (Nat.le_refl _) _
  have hB2' := hB2.trans (hA2.mono hB2.size)
  have hlen := print_len 3 v hnv
  obtain ⟨P, hP⟩ : ∃ P : ByteArray, (⟨(printV 4 v).toArray⟩ : ByteArray) = P := ⟨_, rfl⟩
  have hpr := fun d os => Calls.regrown_of (w := w2.alloc O2) (d := d) (os := os) ((Print_any 3 v _ _ (Go.Sort.grow (redrawn (w2.alloc O2) d) os) (HE.out.below (hB2'.trans ((below_regrown _ d os).mono hB2'.size))) ((hrv.below hA2).below (below_regrown _ d os)).lies (nice_fit 3 v hnv) (Nat.le_trans hlen (by decide))).mono fun e w' h => (show e = .returned (.string P) ∧ _ from ⟨by rw [h.1, ← hP], h.2⟩))
  have hpu := fun d os => Calls.regrown_of (w := w2.alloc O2) (d := d) (os := os) ((lput_any 3 v hnv _ _ (Go.Sort.grow (redrawn (w2.alloc O2) d) os) ((hrv.below hA2).below (below_regrown _ d os)).lies (Nat.le_trans hlen (by decide))).mono fun e w' h => (show e = .returned (.string P) ∧ _ from ⟨by rw [h.1, ← hP], h.2⟩))
  have r2 : (w2.alloc O2).heap[w2.heap.size]? = some (.cells #[.int .i64 v.kind, .int .i64 v.num, .string v.text, .slice al v.list.length cl, .slice af v.fields.length cf] 31 (0, 0)) := by rw [heap_alloc_new, hO2]
  obtain ⟨g0, g1, g2, g3, g4, gf⟩ := row5 r2
  have G0 := fun d os => below_regrown_cell g0 d os
  have G1 := fun d os => below_regrown_cell g1 d os
  have G2 := fun d os => below_regrown_cell g2 d os
  have G3 := fun d os => below_regrown_cell g3 d os
  have G4 := fun d os => below_regrown_cell g4 d os
  rw [hO2] at hpr hpu G0 G1 G2 G3 G4
  have H2 := (show Hid _ from And.intro hB2' hO2)
  clear hof1 hnv hrv hb2 hB2 hA2 hB2' hO2 hP hlen r2 g0 g1 g2 g3 g4 gf
  go_wp2_with fail
  refine wp_region_quiet_below mixed (by kernel_rfl) ?_
  go_big_quiet_step (fail)
  go_big_quiet_step (exact hpr _ _)
  go_big_quiet_step (fail)
  go_big_quiet_step (exact hpu _ _)
  go_big_quiet_step (fail)
  go_big_quiet_step (fail)
  refine wpQuiet_nil ?_
  rintro w5 ⟨⟨dq, osq⟩, hw5⟩
  have H8 := (show Hid _ from And.intro hw5 hw5)
  clear hw5 G0 G1 G2 G3 G4 hpr hpu
  go_wp2_with fail
  go_ret
  obtain ⟨hB2', hO2⟩ := H2.out
  have hw5 := H8.out.1
  rw [← hO2] at hw5
  have hb5 : Below (w2.alloc O2).heap.size (w2.alloc O2) w5 := by rw [hw5]; exact below_regrown _ dq osq
  exact ⟨by simp, hB2'.trans (hb5.mono hB2'.size)⟩
end Go.Proofs.YtnkoblhdbccbeaaGreatDoor
