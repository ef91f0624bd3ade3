/-
  KeyBack's walk: a key is read as the value that it is of. Conditions: as stated.
-/
import Derived.Test.YtehjdamdlokoaaaDoorKP
import Derived.Test.YtehjdamdlokoaaaDoorKAw
import Derived.Test.YtehjdamdlokoaaaDoorKRow
namespace Go.Proofs.YtehjdamdlokoaaaDoor
open Go.RowKit

set_option maxRecDepth 100000 in
set_option maxHeartbeats 8000000 in
theorem KeyBack_walk (s : Value) (bs : List UInt8) (W : World) (hb : BytesAt W s bs) (hE : Env W) :
    Calls Tryd.prog 5 #[s] W fun e w' => e = .returned (.bool true) ∧ Below W.heap.size W w' := by
  have haw := awake_true W hE.u8
  have hof := fun W' (hW : Below W.heap.size W W') => Of_any s bs W' (hb.below hW) (hE.below hW).tabs
  obtain ⟨sa, sn, sc, rfl⟩ : ∃ a n c, s = .slice a n c := by
    obtain ⟨a, c, e, _⟩ := hb
    exact ⟨_, _, _, e⟩
  have HE := (show Hid _ from hE)
  clear hE hb
  go_enter Tryd.func5, Tryd.ntmps5
  go_wp2_with fail
  refine haw.mono ?_
  rintro e w1 ⟨rfl, hb1⟩
  have hof1 := hof w1 hb1
  have H1 := (show Hid _ from hb1)
  clear haw hof hb1
  go_wp2_with fail
  refine hof1.mono ?_
  rintro e w2 ⟨v, l, f, rfl, hnv, hrv, hb2⟩
  obtain ⟨al, cl, af, cf, rfl, rfl⟩ := hrv.slices
  have hB2 := H1.out.trans (hb2.mono H1.out.size)
  obtain ⟨O2, hO2⟩ : ∃ O, O = Obj.cells #[.int .i64 v.kind, .int .i64 v.num, .string v.text, .slice al v.list.length cl, .slice af v.fields.length cf] 28 := ⟨_, rfl⟩
  have hA2 : Below w2.heap.size w2 (w2.alloc O2) := (Below.refl _ _).alloc (Nat.le_refl _) _
  have hB2' := hB2.trans (hA2.mono hB2.size)
  obtain ⟨P, hP⟩ : ∃ P : ByteArray, (⟨(putV (3 + 1) v).toArray⟩ : ByteArray) = P := ⟨_, rfl⟩
  have hpr := KPut_any 3 v _ _ (w2.alloc O2) (hrv.below hA2).lies (nice_kfit 3 v hnv) (Nat.le_trans (put_len 3 v hnv) (by decide)) hP
  rw [hO2] at hpr
  have r2 : (w2.alloc O2).heap[w2.heap.size]? = some (.cells #[.int .i64 v.kind, .int .i64 v.num, .string v.text, .slice al v.list.length cl, .slice af v.fields.length cf] 28 (0, 0)) := by rw [heap_alloc_new, hO2]
  have H2 := (show Hid _ from And.intro hnv (And.intro hrv (And.intro hA2 (And.intro hB2' (And.intro hO2 (And.intro hP r2))))))
  clear hof1 hnv hrv hb2 hB2 hA2 hB2' hO2 hP r2
  go_wp2_with fail
  refine hpr.mono ?_
  rintro e w3 ⟨rfl, hb3⟩
  obtain ⟨hnv, hrv, hA2, hB2', hO2, hP, r2⟩ := H2.out
  rw [← hO2] at hb3
  have hB3 := hB2'.trans (hb3.mono hB2'.size)
  obtain ⟨u, hu⟩ : ∃ u, canK (3 + 1) v = u := ⟨_, rfl⟩
  have hok : VOk 16 u := by rw [← hu]; exact canK_ok 3 v hnv 16 (by decide)
  have hgk : valueK 16 P.data.toList = some (u, []) := by
    have := value_back 3 v hnv 16 (by decide) []
    rw [← hP, ← hu]; simpa using this
  have hps := Get_some P w3 (Nat.le_trans (put_size hnv hP) (by decide)) u true hgk (HE.out.below hB3).u8 fun l f W' hl hU => Valid_any 16 u l f W' hl hok hU
  have r3 := (hb3.block _ (lt_of_heap r2)).trans r2
  have H3 := (show Hid _ from And.intro hb3 (And.intro hB3 (And.intro r3 (And.intro hu hok))))
  clear hpr hnv hrv hA2 hB2' hO2 hP r2 hb3 hB3 r3 hu hok hgk
  go_wp2_with fail
  refine hps.mono ?_
  rintro e w4 ⟨hb4, ul, uf, rfl, hr4⟩
  obtain ⟨a1, c1, a2, c2, rfl, rfl⟩ := hr4.slices
  obtain ⟨hnv, hrv, hA2, hB2', hO2, hP, r2⟩ := H2.out
  obtain ⟨hb3, hB3, r3, hu, hok⟩ := H3.out
  have hB4 := hB3.trans (hb4.mono hB3.size)
  obtain ⟨O4, hO4⟩ : ∃ O, O = Obj.cells #[.int .i64 u.kind, .int .i64 u.num, .string u.text, .slice a1 u.list.length c1, .slice a2 u.fields.length c2] 28 := ⟨_, rfl⟩
  have hA4 : Below w4.heap.size w4 (w4.alloc O4) := (Below.refl _ _).alloc (Nat.le_refl _) _
  have hB4' := hB4.trans (hA4.mono hB4.size)
  have hl24 : Below w2.heap.size w2 w4 := (hA2.trans (hb3.mono hA2.size)).trans (hb4.mono (Nat.le_trans hA2.size hb3.size))
  have hlv : Lies 16 (w4.alloc O4) v (.slice al v.list.length cl) (.slice af v.fields.length cf) := (((hrv.le (by decide : 3 ≤ 16)).below hl24).below hA4).lies
  have hlu : Lies 16 (w4.alloc O4) u (.slice a1 u.list.length c1) (.slice a2 u.fields.length c2) := (hr4.below hA4).lies
  have hsm0 := Same_is (n := 16) (show cmpV (16 + 1) v u = 0 by rw [← hu]; exact canK_same 17 3 v hnv) hlv hlu
  have hvd := fun W' (hW : Below (w4.alloc O4).heap.size (w4.alloc O4) W') => Valid_any 16 u _ _ W' (hlu.below hW) hok (HE.out.below (hB4'.trans (hW.mono hB4'.size))).u8
  have r4 := (hb4.block _ (lt_of_heap r3)).trans r3
  obtain ⟨j0, j1, j2, j3, j4, jf⟩ := row5 r4
  have hlt4 := lt_of_heap r4
  rw [hO4] at hsm0 hvd
  have ru : (w4.alloc O4).heap[w4.heap.size]? = some (.cells #[.int .i64 u.kind, .int .i64 u.num, .string u.text, .slice a1 u.list.length c1, .slice a2 u.fields.length c2] 28 (0, 0)) := by rw [heap_alloc_new, hO4]
  have H4 := (show Hid _ from And.intro hB4' (And.intro hO4 ru))
  clear hps hr4 hb4 hnv hrv hA2 hB2' hO2 hP r2 hb3 hB3 r3 hu hok hB4 hO4 hA4 hB4' hl24 hlv hlu r4 ru
  go_wp2_with fail
  refine hsm0.mono ?_
  rintro e w5 ⟨rfl, hb5⟩
  obtain ⟨hB4', hO4, ru⟩ := H4.out
  have hvd5 := hvd w5 hb5
  rw [← hO4] at hb5
  have r5 := (hb5.block _ (lt_of_heap ru)).trans ru
  obtain ⟨m0, m1, m2, m3, m4, mf⟩ := row5 r5
  have hlt5 := lt_of_heap r5
  have H5 := (show Hid _ from And.intro hb5 r5)
  clear hsm0 hvd hB4' hO4 ru hb5 r5 j0 j1 j2 j3 j4 jf
  go_wp2_with fail
  refine hvd5.mono ?_
  rintro e w6 ⟨rfl, hb6⟩
  go_wp2_with fail
  go_ret
  obtain ⟨hB4', hO4, ru⟩ := H4.out
  have hB5 := hB4'.trans (H5.out.1.mono hB4'.size)
  exact ⟨rfl, hB5.trans (hb6.mono hB5.size)⟩
end Go.Proofs.YtehjdamdlokoaaaDoor
