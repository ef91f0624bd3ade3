/-
  KeyPuts' walk: a value's key is what the law's Put tells. Conditions: as stated.
-/
import Derived.Test.YtehjdamdlokoaaaDoorKL4
import Derived.Test.YtehjdamdlokoaaaDoorKAw
import Derived.Test.YtehjdamdlokoaaaDoorKRow
namespace Go.Proofs.YtehjdamdlokoaaaDoor
open Go.RowKit

set_option maxRecDepth 100000 in
set_option maxHeartbeats 8000000 in
theorem KeyPuts_walk (s : Value) (bs : List UInt8) (W : World) (hb : BytesAt W s bs) (hE : Env W) :
    Calls Tryd.prog 3 #[s] W fun e w' => e = .returned (.bool true) ∧ Below W.heap.size W w' := by
  have haw := awake_true W hE.u8
  have hof := fun W' (hW : Below W.heap.size W W') => Of_any s bs W' (hb.below hW) (hE.below hW).tabs
  obtain ⟨sa, sn, sc, rfl⟩ : ∃ a n c, s = .slice a n c := by
    obtain ⟨a, c, e, _⟩ := hb
    exact ⟨_, _, _, e⟩
  have HE := (show Hid _ from hE)
  clear hE hb
  go_enter Tryd.func3, Tryd.ntmps3
  go_wp2_with fail
  refine haw.mono ?_
  rintro e w1 ⟨rfl, hb1⟩
  have hof1 := hof w1 hb1
  have H1 := (show Hid _ from hb1)
  clear haw hof hb1
  go_wp2_with fail
  refine hof1.mono ?_
  rintro e w2 ⟨v, l, f, rfl, hnv, hrv, hb2⟩
  obtain ⟨al, cl, af, cf, rfl, rfl⟩ := hrv.slices
  have hB2 := H1.out.trans (hb2.mono H1.out.size)
  obtain ⟨O2, hO2⟩ : ∃ O, O = Obj.cells #[.int .i64 v.kind, .int .i64 v.num, .string v.text, .slice al v.list.length cl, .slice af v.fields.length cf] 28 := ⟨_, rfl⟩
  have hA2 : Below w2.heap.size w2 (w2.alloc O2) := (Below.refl _ _).alloc (Nat.le_refl _) _
  have hB2' := hB2.trans (hA2.mono hB2.size)
  obtain ⟨P, hP⟩ : ∃ P : ByteArray, (⟨(putV (3 + 1) v).toArray⟩ : ByteArray) = P := ⟨_, rfl⟩
  have hlv := hrv.below hA2
  have hlen : (putV (3 + 1) v).length ≤ 100000 := Nat.le_trans (put_len 3 v hnv) (by decide)
  have hpr := fun d os => Calls.regrown_of (w := w2.alloc O2) (d := d) (os := os) (KPut_any 3 v _ _ (Go.Sort.grow (redrawn (w2.alloc O2) d) os) (hlv.below (below_regrown _ d os)).lies (nice_kfit 3 v hnv) (by omega) hP)
  have hlp := fun d os => Calls.regrown_of (w := w2.alloc O2) (d := d) (os := os) ((lput_any 3 v hnv _ _ (Go.Sort.grow (redrawn (w2.alloc O2) d) os) (hlv.below (below_regrown _ d os)).lies hlen).mono fun e w' h => (show e = .returned (.string P) ∧ _ from ⟨by rw [h.1, ← hP], h.2⟩))
  have r2 : (w2.alloc O2).heap[w2.heap.size]? = some (.cells #[.int .i64 v.kind, .int .i64 v.num, .string v.text, .slice al v.list.length cl, .slice af v.fields.length cf] 28 (0, 0)) := by rw [heap_alloc_new, hO2]
  obtain ⟨g0, g1, g2, g3, g4, gf⟩ := row5 r2
  have G0 := fun d os => below_regrown_cell g0 d os
  have G1 := fun d os => below_regrown_cell g1 d os
  have G2 := fun d os => below_regrown_cell g2 d os
  have G3 := fun d os => below_regrown_cell g3 d os
  have G4 := fun d os => below_regrown_cell g4 d os
  rw [hO2] at hpr hlp G0 G1 G2 G3 G4
  have H2 := (show Hid _ from And.intro hB2' hO2)
  clear hof1 hnv hrv hb2 hB2 hA2 hB2' hO2 hP r2 hlv hlen g0 g1 g2 g3 g4 gf
  go_wp2_with fail
  refine wp_region_quiet_below mixed (by kernel_rfl) ?_
  go_big_quiet_step (fail)
  go_big_quiet_step (exact hpr _ _)
  go_big_quiet_step (fail)
  go_big_quiet_step (exact hlp _ _)
  go_big_quiet_step (fail)
  go_big_quiet_step (fail)
  refine wpQuiet_nil ?_
  rintro w5 ⟨⟨dq, osq⟩, hw5⟩
  have H8 := (show Hid _ from And.intro hw5 hw5)
  clear hw5 G0 G1 G2 G3 G4 hpr hlp
  go_wp2_with fail
  go_ret
  obtain ⟨hB2', hO2⟩ := H2.out
  have hw5 := H8.out.1
  rw [← hO2] at hw5
  have hb5 : Below (w2.alloc O2).heap.size (w2.alloc O2) w5 := by rw [hw5]; exact below_regrown _ dq osq
  exact ⟨rfl, hB2'.trans (hb5.mono hB2'.size)⟩
end Go.Proofs.YtehjdamdlokoaaaDoor
