/-
  JsonBack's walk: what is printed is read as it was, and printed again the same. Conditions: as stated.
-/
import Derived.Test.YtnkoblhdbccbeaaGreatDoorU16
import Derived.Test.YtnkoblhdbccbeaaGreatDoorU17
import Derived.Test.YtnkoblhdbccbeaaGreatDoorU18
import Derived.Test.YtnkoblhdbccbeaaGreatDoorU8
namespace Go.Proofs.YtnkoblhdbccbeaaGreatDoor
open Go.RowKit Go.Extern.Stop Go.Stop Go.Extern

set_option maxRecDepth 100000 in
set_option maxHeartbeats 8000000 in
theorem JsonBack_walk (s : Value) (bs : List UInt8) (W : World) (hb : BytesAt W s bs) (hE : JEnv W ∧ Tabs W) :
    Calls Tryz.prog 5 #[s] W fun e w' => e = .returned (.bool true) ∧ Below W.heap.size W w' := by
  obtain ⟨hE, hT⟩ := hE
  have haw := awake_true W hE
  have hof := fun W' (hW : Below W.heap.size W W') => Of_any s bs W' (hb.below hW) (hT.below hW)
  obtain ⟨sa, sn, sc, rfl⟩ : ∃ a n c, s = .slice a n c := by
    obtain ⟨a, c, e, _⟩ := hb
    exact ⟨_, _, _, e⟩
  have HE := (show Hid _ from hE)
  clear hE hT hb
  go_enter Tryz.func5, Tryz.ntmps5
  go_wp2_with fail
  refine haw.mono ?_
  rintro e w1 ⟨rfl, hb1⟩
  have hof1 := hof w1 hb1
  have H1 := (show Hid _ from hb1)
  clear haw hof hb1
  go_wp2_with fail
  refine hof1.mono ?_
  rintro e w2 ⟨v, l, f, rfl, hnv, hrv, hb2⟩
  obtain ⟨al, cl, af, cf, rfl, rfl⟩ := hrv.slices
  have hB2 := H1.out.trans (hb2.mono H1.out.size)
  obtain ⟨O2, hO2⟩ : ∃ O, O = Obj.cells #[.int .i64 v.kind, .int .i64 v.num, .string v.text, .slice al v.list.length cl, .slice af v.fields.length cf] 31 := ⟨_, rfl⟩
  have hA2 : Below w2.heap.size w2 (w2.alloc O2) := (Below.refl _ _).alloc (Nat.le_refl _) _
  have hB2' := hB2.trans (hA2.mono hB2.size)
  have hlen := print_len 3 v hnv
  have hpr := Print_any 3 v _ _ (w2.alloc O2) (HE.out.below hB2') (hrv.below hA2).lies (nice_fit 3 v hnv) (Nat.le_trans hlen (by decide))
  obtain ⟨P, hP⟩ : ∃ P : ByteArray, (⟨(printV 4 v).toArray⟩ : ByteArray) = P := ⟨_, rfl⟩
  rw [show (⟨(printV (3 + 1) v).toArray⟩ : ByteArray) = P from hP, hO2] at hpr
  have r2 : (w2.alloc O2).heap[w2.heap.size]? = some (.cells #[.int .i64 v.kind, .int .i64 v.num, .string v.text, .slice al v.list.length cl, .slice af v.fields.length cf] 31 (0, 0)) := by rw [heap_alloc_new, hO2]
  have H2 := (show Hid _ from And.intro hnv (And.intro hrv (And.intro hA2 (And.intro hB2' (And.intro hO2 (And.intro hP r2))))))
  clear hof1 hnv hrv hb2 hB2 hA2 hB2' hO2 hP hlen r2
  go_wp2_with fail
  refine hpr.mono ?_
  rintro e w3 ⟨rfl, hb3⟩
  obtain ⟨hnv, hrv, hA2, hB2', hO2, hP, r2⟩ := H2.out
  rw [← hO2] at hb3
  have hB3 := hB2'.trans (hb3.mono hB2'.size)
  have hps := Parse_any P w3 (HE.out.below hB3)
  rw [show P.data.toList = printV 4 v by rw [← hP], parse_print v hnv] at hps
  have r3 := (hb3.block _ (lt_of_heap r2)).trans r2
  have H3 := (show Hid _ from And.intro hb3 (And.intro hB3 r3))
  obtain ⟨u, hu⟩ : ∃ u, canV 4 v = u := ⟨_, rfl⟩
  rw [hu] at hps
  have HU := (show Hid _ from hu)
  clear hpr hnv hrv hA2 hB2' hO2 hP r2 hb3 hB3 r3 hu
  go_wp2_with fail
  refine hps.mono ?_
  intro e w4 h4
  obtain ⟨a1, c1, a2, c2, rfl, hr4, hb4⟩ := h4.value
  obtain ⟨hnv, hrv, hA2, hB2', hO2, hP, r2⟩ := H2.out
  obtain ⟨hb3, hB3, r3⟩ := H3.out
  have hu := HU.out
  have hB4 := hB3.trans (hb4.mono hB3.size)
  obtain ⟨O4, hO4⟩ : ∃ O, O = Obj.cells #[.int .i64 u.kind, .int .i64 u.num, .string u.text, .slice a1 u.list.length c1, .slice a2 u.fields.length c2] 31 := ⟨_, rfl⟩
  have hA4 : Below w4.heap.size w4 (w4.alloc O4) := (Below.refl _ _).alloc (Nat.le_refl _) _
  have hB4' := hB4.trans (hA4.mono hB4.size)
  have hfine := can_fine 3 v hnv 16 (by decide)
  rw [show canV (3 + 1) v = u from hu] at hfine
  have hl24 : Below w2.heap.size w2 w4 := (hA2.trans (hb3.mono hA2.size)).trans (hb4.mono (Nat.le_trans hA2.size hb3.size))
  have hlv : Lies 16 (w4.alloc O4) v (.slice al v.list.length cl) (.slice af v.fields.length cf) := (((hrv.le (by decide : 3 ≤ 16)).below hl24).below hA4).lies
  have hlu : Lies 16 (w4.alloc O4) u (.slice a1 u.list.length c1) (.slice a2 u.fields.length c2) := (hr4.below hA4).lies
  have hsm := fun W' (hW : Below (w4.alloc O4).heap.size (w4.alloc O4) W') => Same_is (n := 16) (show cmpV (16 + 1) v u = 0 by rw [← hu]; exact can_same 17 3 v hnv) (hlv.below hW) (hlu.below hW)
  have hvd := fun W' (hW : Below (w4.alloc O4).heap.size (w4.alloc O4) W') => Valid_any 16 u _ _ W' (hlu.below hW) hfine.2.1 (HE.out.below (hB4'.trans (hW.mono hB4'.size))).text.tabs
  have hp2 := fun W' (hW : Below (w4.alloc O4).heap.size (w4.alloc O4) W') => Print_any 16 u _ _ W' (HE.out.below (hB4'.trans (hW.mono hB4'.size))) (hlu.below hW) hfine.1 (by rw [hfine.2.2]; exact Nat.le_trans (print_len 3 v hnv) (by decide))
  simp only [show (⟨(printV (16 + 1) u).toArray⟩ : ByteArray) = P by rw [hfine.2.2, ← hP]] at hp2
  have r4 := (hb4.block _ (lt_of_heap r3)).trans r3
  obtain ⟨j0, j1, j2, j3, j4, jf⟩ := row5 r4
  have hlt4 := lt_of_heap r4
  have hsm0 := hsm _ (Below.refl _ _)
  rw [hO4] at hsm0 hvd hp2
  have ru : (w4.alloc O4).heap[w4.heap.size]? = some (.cells #[.int .i64 u.kind, .int .i64 u.num, .string u.text, .slice a1 u.list.length c1, .slice a2 u.fields.length c2] 31 (0, 0)) := by rw [heap_alloc_new, hO4]
  have H4 := (show Hid _ from And.intro hB4' (And.intro hO4 ru))
  clear hps h4 hr4 hb4 hnv hrv hA2 hB2' hO2 hP r2 hb3 hB3 r3 hu hB4 hO4 hA4 hB4' hfine hl24 hlv hlu hsm r4 ru
  go_wp2_with fail
  refine hsm0.mono ?_
  rintro e w5 ⟨rfl, hb5⟩
  obtain ⟨hB4', hO4, ru⟩ := H4.out
  have hvd5 := hvd w5 hb5
  rw [← hO4] at hb5
  have r5 := (hb5.block _ (lt_of_heap ru)).trans ru
  obtain ⟨m0, m1, m2, m3, m4, mf⟩ := row5 r5
  have hlt5 := lt_of_heap r5
  have H5 := (show Hid _ from And.intro hb5 r5)
  clear hsm0 hvd hB4' hO4 ru hb5 r5 j0 j1 j2 j3 j4 jf
  go_wp2_with fail
  refine hvd5.mono ?_
  rintro e w6 ⟨rfl, hb6⟩
  obtain ⟨hB4', hO4, ru⟩ := H4.out
  obtain ⟨hb5, r5⟩ := H5.out
  have hb46 := hb5.trans (hb6.mono hb5.size)
  have r6 := (hb6.block _ (lt_of_heap r5)).trans r5
  obtain ⟨n0, n1, n2, n3, n4, nf⟩ := row5 r6
  have hlt6 := lt_of_heap r6
  have hp26 := hp2 w6 (by rw [← hO4]; exact hb46)
  have H6 := (show Hid _ from And.intro hb46 hB4')
  clear hvd5 hp2 hB4' hO4 ru hb5 r5 hb46 r6 hb6 m0 m1 m2 m3 m4 mf
  go_wp2_with fail
  refine hp26.mono ?_
  rintro e w7 ⟨rfl, hb7⟩
  go_wp2_with fail
  go_ret
  obtain ⟨hb46, hB4'⟩ := H6.out
  have hB6 := hB4'.trans (hb46.mono hB4'.size)
  exact ⟨rfl, hB6.trans (hb7.mono hB6.size)⟩
end Go.Proofs.YtnkoblhdbccbeaaGreatDoor
