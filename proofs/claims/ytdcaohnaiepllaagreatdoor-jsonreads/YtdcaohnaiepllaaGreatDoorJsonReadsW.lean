/-
  JsonReads' walk: what any text is, or what is wrong with it, is what the law's own reader says. Conditions: as stated.
-/
import Derived.Test.YtdcaohnaiepllaaGreatDoorJQ9
import Derived.Test.YtdcaohnaiepllaaGreatDoorJLP2
import Derived.Test.YtdcaohnaiepllaaGreatDoorU16
import Derived.Test.YtdcaohnaiepllaaGreatDoorU8
namespace Go.Proofs.YtdcaohnaiepllaaGreatDoor
open Go.RowKit Go.Extern.Stop Go.Stop Go.Extern

set_option maxRecDepth 100000 in
set_option maxHeartbeats 16000000 in
theorem JsonReads_walk (s : ByteArray) (_hs : s.size ≤ maxLen) (how : Int) (hhow : (Lit.int .u8 how).wf = true) (v2 : Value) (bs2 : List UInt8) (v3 : Value) (bs3 : List UInt8) (a : Int) (ha : (Lit.int .u16 a).wf = true) (b : Int) (_hbb : (Lit.int .u8 b).wf = true) (W : World) (hb2 : BytesAt W v2 bs2) (hb3 : BytesAt W v3 bs3) (hE : JEnv W ∧ Tabs W) :
    Calls Tryz.prog 3 #[.string s, .int .u8 how, v2, v3, .int .u16 a, .int .u8 b] W fun e w' => e = .returned (.bool true) ∧ Below W.heap.size W w' := by
  obtain ⟨hE, hT⟩ := hE
  have ha0 : 0 ≤ a ∧ a < 65536 := by
    have h1 : IntKind.u16.min = 0 := rfl
    have h2 : IntKind.u16.max = 65535 := rfl
    simp only [Lit.wf, Bool.and_eq_true, decide_eq_true_eq] at ha
    omega
  have hh0 : 0 ≤ how ∧ how ≤ 255 := by
    have h1 : IntKind.u8.min = 0 := rfl
    have h2 : IntKind.u8.max = 255 := rfl
    simp only [Lit.wf, Bool.and_eq_true, decide_eq_true_eq] at hhow
    omega
  have haw := awake_true W hE
  obtain ⟨sa, sn, sc, e2⟩ : ∃ a n c, v2 = .slice a n c := by
    obtain ⟨a, c, e, _⟩ := id hb2
    exact ⟨_, _, _, e⟩
  obtain ⟨ta, tn, tc, e3⟩ : ∃ a n c, v3 = .slice a n c := by
    obtain ⟨a, c, e, _⟩ := id hb3
    exact ⟨_, _, _, e⟩
  subst e2 e3
  have hm4 : how.tmod 4 = 0 ∨ how.tmod 4 = 1 ∨ how.tmod 4 = 2 ∨ how.tmod 4 = 3 := by
    rw [Int.tmod_eq_emod_of_nonneg hh0.1]
    omega
  have HE := (show Hid _ from And.intro hE (And.intro hT (And.intro hb2 (And.intro hb3 (And.intro ha0 hh0)))))
  clear hE hT hb2 hb3 ha ha0 hhow _hbb hh0
  go_enter Tryz.func3, Tryz.ntmps3
  go_wp2_with fail
  refine haw.mono ?_
  rintro e w1 ⟨rfl, hb1⟩
  have H1 := (show Hid _ from hb1)
  clear haw hb1
  rcases hm4 with hm4 | hm4 | hm4 | hm4
  · obtain ⟨S, hS⟩ : ∃ S, S = s := ⟨_, rfl⟩
    obtain ⟨w4, hw4⟩ : ∃ W, W = w1 := ⟨_, rfl⟩
    rw [← hS, ← hw4]
    have H4 : Hid (Below W.heap.size W w4) := by rw [hw4]; exact H1.out
    clear hS hw4 H1 _hs
    have m0 : 0 ≤ min (S.size : Int) 600 := by omega
    have m1 : min (S.size : Int) 600 ≤ (S.size : Int) := by omega
    obtain ⟨T, hTe⟩ : ∃ T, S.extract 0 (min (S.size : Int) 600).toNat = T := ⟨_, rfl⟩
    have hz : T.size ≤ 4096 := by rw [← hTe]; simp; omega
    have hps := Parse_any T w4 (HE.out.1.below H4.out)
    obtain ⟨res, hres⟩ : ∃ r, parseP T.data.toList = r := ⟨_, rfl⟩
    have hresW : parseW T.data.toList = res := by rw [← parse_near]; exact hres
    rw [hres] at hps
    have HT := (show Hid _ from And.intro hTe hresW)
    clear hTe hres hresW
    go_wp2_with fail
    rw [HT.out.1]
    refine hps.mono ?_
    intro e w5 h5
    clear hps
    cases res with
    | error c =>
      obtain ⟨u, z, rfl, hf5, hb5⟩ := h5.fault
      simp only [zeroA]
      have hB5 := H4.out.trans (hb5.mono H4.out.size)
      obtain ⟨Z, hZ⟩ : ∃ O, O = Obj.cells #[.int .i64 0, .int .i64 0, .string ⟨#[]⟩, .slice none 0 0, .slice none 0 0] 31 := ⟨_, rfl⟩
      have hA5 : Below w5.heap.size w5 (w5.alloc Z) := (Below.refl _ _).alloc (Nat.le_refl _) _
      have hrd := lRead_any T hz (w5.alloc Z)
      rw [HT.out.2] at hrd
      have r5 : (w5.alloc Z).heap[w5.heap.size]? = some (.cells #[.int .i64 0, .int .i64 0, .string ⟨#[]⟩, .slice none 0 0, .slice none 0 0] 31) := by rw [heap_alloc_new, hZ]
      have H5 := (show Hid _ from And.intro hB5 (And.intro hA5 (And.intro hf5 (And.intro hZ r5))))
      rw [hZ] at hrd
      clear h5 hf5 hb5 hB5 hA5 hZ r5
      go_wp2_with fail
      refine hrd.mono ?_
      rintro e w6 ⟨y, al, nl, cl, af, nf, cf, d, rfl, hb6, hr6⟩
      obtain ⟨rfl, hd0⟩ := hr6
      obtain ⟨hB5, hA5, hf5, hZ, r5⟩ := H5.out
      rw [← hZ] at hb6
      have hb56 := hA5.trans (hb6.mono hA5.size)
      have hB6 := hB5.trans (hb56.mono hB5.size)
      have r6 := (hb6.block _ (lt_of_heap r5)).trans r5
      obtain ⟨O6, hO6⟩ : ∃ O, O = Obj.cells #[.int .i64 y.kind, .int .i64 y.num, .string y.text, .slice al nl cl, .slice af nf cf] 31 := ⟨_, rfl⟩
      have hA6 : Below w6.heap.size w6 (w6.alloc O6) := (Below.refl _ _).alloc (Nat.le_refl _) _
      have hB6' := hB6.trans (hA6.mono hB6.size)
      have hcode := (hf5.below (hb56.trans (hA6.mono hb56.size))).code (HE.out.1.below hB6')
      have r6' := (hA6.block _ (lt_of_heap r6)).trans r6
      have ed : (d != 0) = true := by simpa using hd0
      have H6 := (show Hid _ from And.intro hB6' (And.intro hO6 r6'))
      rw [hO6] at hcode
      clear hrd hd0 hB5 hA5 hf5 hZ r5 hb6 hb56 hB6 r6 hO6 hA6 hB6' r6'
      go_wp2_with fail
      refine hcode.mono ?_
      rintro e w7 ⟨rfl, hb7⟩
      obtain ⟨hB6', hO6, r6'⟩ := H6.out
      rw [← hO6] at hb7
      have r7 := (hb7.block _ (lt_of_heap r6')).trans r6'
      obtain ⟨j0, j1, j2, j3, j4, jf⟩ := row5 r7
      have hl7 := lt_of_heap r7
      have hB7 := hB6'.trans (hb7.mono hB6'.size)
      have hsm := Same_is (n := 0) ((good_cmpV (0 + 1)).refl nulV) (show Lies 0 w7 nulV (.slice none 0 0) (.slice none 0 0) from ⟨rfl, rfl, rfl, rfl⟩) (show Lies 0 w7 nulV (.slice none 0 0) (.slice none 0 0) from ⟨rfl, rfl, rfl, rfl⟩)
      simp only [nulV] at hsm
      have H7 := (show Hid _ from hB7)
      clear hcode hB6' hO6 r6' hb7 r7 hB7
      go_wp2_with fail
      refine hsm.mono ?_
      rintro e w8 ⟨rfl, hb8⟩
      have H8 := (show Hid _ from hb8)
      clear hsm hb8
      go_wp2_with fail
      go_ret
      exact ⟨rfl, H7.out.trans (H8.out.mono H7.out.size)⟩
    | ok v =>
      obtain ⟨a1, c1, a2, c2, rfl, hr5, hb5⟩ := h5.value
      have hB5 := H4.out.trans (hb5.mono H4.out.size)
      obtain ⟨O5, hO5⟩ : ∃ O, O = Obj.cells #[.int .i64 v.kind, .int .i64 v.num, .string v.text, .slice a1 v.list.length c1, .slice a2 v.fields.length c2] 31 := ⟨_, rfl⟩
      have hA5 : Below w5.heap.size w5 (w5.alloc O5) := (Below.refl _ _).alloc (Nat.le_refl _) _
      have hrd := lRead_any T hz (w5.alloc O5)
      rw [HT.out.2] at hrd
      have r5 : (w5.alloc O5).heap[w5.heap.size]? = some (.cells #[.int .i64 v.kind, .int .i64 v.num, .string v.text, .slice a1 v.list.length c1, .slice a2 v.fields.length c2] 31) := by rw [heap_alloc_new, hO5]
      have H5 := (show Hid _ from And.intro hB5 (And.intro hA5 (And.intro hr5 (And.intro hO5 r5))))
      rw [hO5] at hrd
      clear h5 hr5 hb5 hB5 hA5 hO5 r5
      go_wp2_with fail
      refine hrd.mono ?_
      rintro e w6 ⟨y, al, nl, cl, af, nf, cf, d, rfl, hb6, hr6⟩
      obtain ⟨rfl, rfl, hry⟩ := hr6
      obtain ⟨p1, d1, p2, d2, e1, e2⟩ := hry.slices
      simp only [Value.slice.injEq] at e1 e2
      obtain ⟨rfl, rfl, rfl⟩ := e1
      obtain ⟨rfl, rfl, rfl⟩ := e2
      obtain ⟨hB5, hA5, hr5, hO5, r5⟩ := H5.out
      rw [← hO5] at hb6
      have hb56 := hA5.trans (hb6.mono hA5.size)
      have hB6 := hB5.trans (hb56.mono hB5.size)
      have r6 := (hb6.block _ (lt_of_heap r5)).trans r5
      obtain ⟨O6, hO6⟩ : ∃ O, O = Obj.cells #[.int .i64 y.kind, .int .i64 y.num, .string y.text, .slice al y.list.length cl, .slice af y.fields.length cf] 31 := ⟨_, rfl⟩
      have hA6 : Below w6.heap.size w6 (w6.alloc O6) := (Below.refl _ _).alloc (Nat.le_refl _) _
      have hB6' := hB6.trans (hA6.mono hB6.size)
      have hlv : Lies 16 (w6.alloc O6) y (.slice a1 y.list.length c1) (.slice a2 y.fields.length c2) := (hr5.below (hb56.trans (hA6.mono hb56.size))).lies
      have hly : Lies 16 (w6.alloc O6) y (.slice al y.list.length cl) (.slice af y.fields.length cf) := (hry.below hA6).lies
      have hsm := Same_is (n := 16) ((good_cmpV (16 + 1)).refl y) hlv hly
      have r6' := (hA6.block _ (lt_of_heap r6)).trans r6
      obtain ⟨j0, j1, j2, j3, j4, jf⟩ := row5 r6'
      have hl6 := lt_of_heap r6
      have H6 := (show Hid _ from And.intro hB6' hO6)
      rw [hO6] at hsm j0 j1 j2 j3 j4
      clear hrd hry hB5 hA5 hr5 hO5 r5 hb6 hb56 hB6 r6 hO6 hA6 hB6' hlv hly r6'
      go_wp2_with fail
      refine hsm.mono ?_
      rintro e w7 ⟨rfl, hb7⟩
      have H7 := (show Hid _ from hb7)
      clear hsm hb7
      go_wp2_with fail
      go_ret
      obtain ⟨hB6', hO6⟩ := H6.out
      have hb7 := H7.out
      rw [← hO6] at hb7
      exact ⟨rfl, hB6'.trans (hb7.mono hB6'.size)⟩
  · have hpt := parts_any _ bs2 w1 (HE.out.2.2.1.below H1.out)
    go_wp2_with fail
    refine hpt.mono ?_
    rintro e w4 ⟨S, rfl, hSz, hb4⟩
    have hB4 := H1.out.trans (hb4.mono H1.out.size)
    have H4 := (show Hid _ from hB4)
    clear hpt hb4 hB4 H1 _hs hSz
    have m0 : 0 ≤ min (S.size : Int) 600 := by omega
    have m1 : min (S.size : Int) 600 ≤ (S.size : Int) := by omega
    obtain ⟨T, hTe⟩ : ∃ T, S.extract 0 (min (S.size : Int) 600).toNat = T := ⟨_, rfl⟩
    have hz : T.size ≤ 4096 := by rw [← hTe]; simp; omega
    have hps := Parse_any T w4 (HE.out.1.below H4.out)
    obtain ⟨res, hres⟩ : ∃ r, parseP T.data.toList = r := ⟨_, rfl⟩
    have hresW : parseW T.data.toList = res := by rw [← parse_near]; exact hres
    rw [hres] at hps
    have HT := (show Hid _ from And.intro hTe hresW)
    clear hTe hres hresW
    go_wp2_with fail
    rw [HT.out.1]
    refine hps.mono ?_
    intro e w5 h5
    clear hps
    cases res with
    | error c =>
      obtain ⟨u, z, rfl, hf5, hb5⟩ := h5.fault
      simp only [zeroA]
      have hB5 := H4.out.trans (hb5.mono H4.out.size)
      obtain ⟨Z, hZ⟩ : ∃ O, O = Obj.cells #[.int .i64 0, .int .i64 0, .string ⟨#[]⟩, .slice none 0 0, .slice none 0 0] 31 := ⟨_, rfl⟩
      have hA5 : Below w5.heap.size w5 (w5.alloc Z) := (Below.refl _ _).alloc (Nat.le_refl _) _
      have hrd := lRead_any T hz (w5.alloc Z)
      rw [HT.out.2] at hrd
      have r5 : (w5.alloc Z).heap[w5.heap.size]? = some (.cells #[.int .i64 0, .int .i64 0, .string ⟨#[]⟩, .slice none 0 0, .slice none 0 0] 31) := by rw [heap_alloc_new, hZ]
      have H5 := (show Hid _ from And.intro hB5 (And.intro hA5 (And.intro hf5 (And.intro hZ r5))))
      rw [hZ] at hrd
      clear h5 hf5 hb5 hB5 hA5 hZ r5
      go_wp2_with fail
      refine hrd.mono ?_
      rintro e w6 ⟨y, al, nl, cl, af, nf, cf, d, rfl, hb6, hr6⟩
      obtain ⟨rfl, hd0⟩ := hr6
      obtain ⟨hB5, hA5, hf5, hZ, r5⟩ := H5.out
      rw [← hZ] at hb6
      have hb56 := hA5.trans (hb6.mono hA5.size)
      have hB6 := hB5.trans (hb56.mono hB5.size)
      have r6 := (hb6.block _ (lt_of_heap r5)).trans r5
      obtain ⟨O6, hO6⟩ : ∃ O, O = Obj.cells #[.int .i64 y.kind, .int .i64 y.num, .string y.text, .slice al nl cl, .slice af nf cf] 31 := ⟨_, rfl⟩
      have hA6 : Below w6.heap.size w6 (w6.alloc O6) := (Below.refl _ _).alloc (Nat.le_refl _) _
      have hB6' := hB6.trans (hA6.mono hB6.size)
      have hcode := (hf5.below (hb56.trans (hA6.mono hb56.size))).code (HE.out.1.below hB6')
      have r6' := (hA6.block _ (lt_of_heap r6)).trans r6
      have ed : (d != 0) = true := by simpa using hd0
      have H6 := (show Hid _ from And.intro hB6' (And.intro hO6 r6'))
      rw [hO6] at hcode
      clear hrd hd0 hB5 hA5 hf5 hZ r5 hb6 hb56 hB6 r6 hO6 hA6 hB6' r6'
      go_wp2_with fail
      refine hcode.mono ?_
      rintro e w7 ⟨rfl, hb7⟩
      obtain ⟨hB6', hO6, r6'⟩ := H6.out
      rw [← hO6] at hb7
      have r7 := (hb7.block _ (lt_of_heap r6')).trans r6'
      obtain ⟨j0, j1, j2, j3, j4, jf⟩ := row5 r7
      have hl7 := lt_of_heap r7
      have hB7 := hB6'.trans (hb7.mono hB6'.size)
      have hsm := Same_is (n := 0) ((good_cmpV (0 + 1)).refl nulV) (show Lies 0 w7 nulV (.slice none 0 0) (.slice none 0 0) from ⟨rfl, rfl, rfl, rfl⟩) (show Lies 0 w7 nulV (.slice none 0 0) (.slice none 0 0) from ⟨rfl, rfl, rfl, rfl⟩)
      simp only [nulV] at hsm
      have H7 := (show Hid _ from hB7)
      clear hcode hB6' hO6 r6' hb7 r7 hB7
      go_wp2_with fail
      refine hsm.mono ?_
      rintro e w8 ⟨rfl, hb8⟩
      have H8 := (show Hid _ from hb8)
      clear hsm hb8
      go_wp2_with fail
      go_ret
      exact ⟨rfl, H7.out.trans (H8.out.mono H7.out.size)⟩
    | ok v =>
      obtain ⟨a1, c1, a2, c2, rfl, hr5, hb5⟩ := h5.value
      have hB5 := H4.out.trans (hb5.mono H4.out.size)
      obtain ⟨O5, hO5⟩ : ∃ O, O = Obj.cells #[.int .i64 v.kind, .int .i64 v.num, .string v.text, .slice a1 v.list.length c1, .slice a2 v.fields.length c2] 31 := ⟨_, rfl⟩
      have hA5 : Below w5.heap.size w5 (w5.alloc O5) := (Below.refl _ _).alloc (Nat.le_refl _) _
      have hrd := lRead_any T hz (w5.alloc O5)
      rw [HT.out.2] at hrd
      have r5 : (w5.alloc O5).heap[w5.heap.size]? = some (.cells #[.int .i64 v.kind, .int .i64 v.num, .string v.text, .slice a1 v.list.length c1, .slice a2 v.fields.length c2] 31) := by rw [heap_alloc_new, hO5]
      have H5 := (show Hid _ from And.intro hB5 (And.intro hA5 (And.intro hr5 (And.intro hO5 r5))))
      rw [hO5] at hrd
      clear h5 hr5 hb5 hB5 hA5 hO5 r5
      go_wp2_with fail
      refine hrd.mono ?_
      rintro e w6 ⟨y, al, nl, cl, af, nf, cf, d, rfl, hb6, hr6⟩
      obtain ⟨rfl, rfl, hry⟩ := hr6
      obtain ⟨p1, d1, p2, d2, e1, e2⟩ := hry.slices
      simp only [Value.slice.injEq] at e1 e2
      obtain ⟨rfl, rfl, rfl⟩ := e1
      obtain ⟨rfl, rfl, rfl⟩ := e2
      obtain ⟨hB5, hA5, hr5, hO5, r5⟩ := H5.out
      rw [← hO5] at hb6
      have hb56 := hA5.trans (hb6.mono hA5.size)
      have hB6 := hB5.trans (hb56.mono hB5.size)
      have r6 := (hb6.block _ (lt_of_heap r5)).trans r5
      obtain ⟨O6, hO6⟩ : ∃ O, O = Obj.cells #[.int .i64 y.kind, .int .i64 y.num, .string y.text, .slice al y.list.length cl, .slice af y.fields.length cf] 31 := ⟨_, rfl⟩
      have hA6 : Below w6.heap.size w6 (w6.alloc O6) := (Below.refl _ _).alloc (Nat.le_refl _) _
      have hB6' := hB6.trans (hA6.mono hB6.size)
      have hlv : Lies 16 (w6.alloc O6) y (.slice a1 y.list.length c1) (.slice a2 y.fields.length c2) := (hr5.below (hb56.trans (hA6.mono hb56.size))).lies
      have hly : Lies 16 (w6.alloc O6) y (.slice al y.list.length cl) (.slice af y.fields.length cf) := (hry.below hA6).lies
      have hsm := Same_is (n := 16) ((good_cmpV (16 + 1)).refl y) hlv hly
      have r6' := (hA6.block _ (lt_of_heap r6)).trans r6
      obtain ⟨j0, j1, j2, j3, j4, jf⟩ := row5 r6'
      have hl6 := lt_of_heap r6
      have H6 := (show Hid _ from And.intro hB6' hO6)
      rw [hO6] at hsm j0 j1 j2 j3 j4
      clear hrd hry hB5 hA5 hr5 hO5 r5 hb6 hb56 hB6 r6 hO6 hA6 hB6' hlv hly r6'
      go_wp2_with fail
      refine hsm.mono ?_
      rintro e w7 ⟨rfl, hb7⟩
      have H7 := (show Hid _ from hb7)
      clear hsm hb7
      go_wp2_with fail
      go_ret
      obtain ⟨hB6', hO6⟩ := H6.out
      have hb7 := H7.out
      rw [← hO6] at hb7
      exact ⟨rfl, hB6'.trans (hb7.mono hB6'.size)⟩
  · have hof := Of_any _ bs3 w1 (HE.out.2.2.2.1.below H1.out) (HE.out.2.1.below H1.out)
    go_wp2_with fail
    refine hof.mono ?_
    rintro e w2 ⟨v, l, f, rfl, hnv, hrv, hb2⟩
    obtain ⟨al, cl, af, cf, rfl, rfl⟩ := hrv.slices
    have hB2 := H1.out.trans (hb2.mono H1.out.size)
    have hlen := print_len 3 v hnv
    have hpr := lput_any 3 v hnv _ _ w2 hrv.lies (Nat.le_trans hlen (by decide))
    obtain ⟨P, hP⟩ : ∃ P : ByteArray, (⟨(printV (3 + 1) v).toArray⟩ : ByteArray) = P := ⟨_, rfl⟩
    rw [hP] at hpr
    have hPz : (P.size : Int) ≤ 10000 := by
      have e : P.size = (printV (3 + 1) v).length := size_list (by rw [← hP])
      have := Nat.le_trans hlen (show _ ≤ 10000 by decide)
      omega
    have H2 := (show Hid _ from hB2)
    clear hof hnv hrv hb2 hB2 hlen hP
    go_wp2_with fail
    refine hpr.mono ?_
    rintro e w4 ⟨rfl, hb4⟩
    obtain ⟨S, hS⟩ : ∃ S, S = P := ⟨_, rfl⟩
    rw [← hS]
    have hB4 := H2.out.trans (hb4.mono H2.out.size)
    have H4 := (show Hid _ from hB4)
    clear hpr hb4 hB4 H1 H2 _hs hS hPz
    have m0 : 0 ≤ min (S.size : Int) 600 := by omega
    have m1 : min (S.size : Int) 600 ≤ (S.size : Int) := by omega
    obtain ⟨T, hTe⟩ : ∃ T, S.extract 0 (min (S.size : Int) 600).toNat = T := ⟨_, rfl⟩
    have hz : T.size ≤ 4096 := by rw [← hTe]; simp; omega
    have hps := Parse_any T w4 (HE.out.1.below H4.out)
    obtain ⟨res, hres⟩ : ∃ r, parseP T.data.toList = r := ⟨_, rfl⟩
    have hresW : parseW T.data.toList = res := by rw [← parse_near]; exact hres
    rw [hres] at hps
    have HT := (show Hid _ from And.intro hTe hresW)
    clear hTe hres hresW
    go_wp2_with fail
    rw [HT.out.1]
    refine hps.mono ?_
    intro e w5 h5
    clear hps
    cases res with
    | error c =>
      obtain ⟨u, z, rfl, hf5, hb5⟩ := h5.fault
      simp only [zeroA]
      have hB5 := H4.out.trans (hb5.mono H4.out.size)
      obtain ⟨Z, hZ⟩ : ∃ O, O = Obj.cells #[.int .i64 0, .int .i64 0, .string ⟨#[]⟩, .slice none 0 0, .slice none 0 0] 31 := ⟨_, rfl⟩
      have hA5 : Below w5.heap.size w5 (w5.alloc Z) := (Below.refl _ _).alloc (Nat.le_refl _) _
      have hrd := lRead_any T hz (w5.alloc Z)
      rw [HT.out.2] at hrd
      have r5 : (w5.alloc Z).heap[w5.heap.size]? = some (.cells #[.int .i64 0, .int .i64 0, .string ⟨#[]⟩, .slice none 0 0, .slice none 0 0] 31) := by rw [heap_alloc_new, hZ]
      have H5 := (show Hid _ from And.intro hB5 (And.intro hA5 (And.intro hf5 (And.intro hZ r5))))
      rw [hZ] at hrd
      clear h5 hf5 hb5 hB5 hA5 hZ r5
      go_wp2_with fail
      refine hrd.mono ?_
      rintro e w6 ⟨y, al, nl, cl, af, nf, cf, d, rfl, hb6, hr6⟩
      obtain ⟨rfl, hd0⟩ := hr6
      obtain ⟨hB5, hA5, hf5, hZ, r5⟩ := H5.out
      rw [← hZ] at hb6
      have hb56 := hA5.trans (hb6.mono hA5.size)
      have hB6 := hB5.trans (hb56.mono hB5.size)
      have r6 := (hb6.block _ (lt_of_heap r5)).trans r5
      obtain ⟨O6, hO6⟩ : ∃ O, O = Obj.cells #[.int .i64 y.kind, .int .i64 y.num, .string y.text, .slice al nl cl, .slice af nf cf] 31 := ⟨_, rfl⟩
      have hA6 : Below w6.heap.size w6 (w6.alloc O6) := (Below.refl _ _).alloc (Nat.le_refl _) _
      have hB6' := hB6.trans (hA6.mono hB6.size)
      have hcode := (hf5.below (hb56.trans (hA6.mono hb56.size))).code (HE.out.1.below hB6')
      have r6' := (hA6.block _ (lt_of_heap r6)).trans r6
      have ed : (d != 0) = true := by simpa using hd0
      have H6 := (show Hid _ from And.intro hB6' (And.intro hO6 r6'))
      rw [hO6] at hcode
      clear hrd hd0 hB5 hA5 hf5 hZ r5 hb6 hb56 hB6 r6 hO6 hA6 hB6' r6'
      go_wp2_with fail
      refine hcode.mono ?_
      rintro e w7 ⟨rfl, hb7⟩
      obtain ⟨hB6', hO6, r6'⟩ := H6.out
      rw [← hO6] at hb7
      have r7 := (hb7.block _ (lt_of_heap r6')).trans r6'
      obtain ⟨j0, j1, j2, j3, j4, jf⟩ := row5 r7
      have hl7 := lt_of_heap r7
      have hB7 := hB6'.trans (hb7.mono hB6'.size)
      have hsm := Same_is (n := 0) ((good_cmpV (0 + 1)).refl nulV) (show Lies 0 w7 nulV (.slice none 0 0) (.slice none 0 0) from ⟨rfl, rfl, rfl, rfl⟩) (show Lies 0 w7 nulV (.slice none 0 0) (.slice none 0 0) from ⟨rfl, rfl, rfl, rfl⟩)
      simp only [nulV] at hsm
      have H7 := (show Hid _ from hB7)
      clear hcode hB6' hO6 r6' hb7 r7 hB7
      go_wp2_with fail
      refine hsm.mono ?_
      rintro e w8 ⟨rfl, hb8⟩
      have H8 := (show Hid _ from hb8)
      clear hsm hb8
      go_wp2_with fail
      go_ret
      exact ⟨rfl, H7.out.trans (H8.out.mono H7.out.size)⟩
    | ok v =>
      obtain ⟨a1, c1, a2, c2, rfl, hr5, hb5⟩ := h5.value
      have hB5 := H4.out.trans (hb5.mono H4.out.size)
      obtain ⟨O5, hO5⟩ : ∃ O, O = Obj.cells #[.int .i64 v.kind, .int .i64 v.num, .string v.text, .slice a1 v.list.length c1, .slice a2 v.fields.length c2] 31 := ⟨_, rfl⟩
      have hA5 : Below w5.heap.size w5 (w5.alloc O5) := (Below.refl _ _).alloc (Nat.le_refl _) _
      have hrd := lRead_any T hz (w5.alloc O5)
      rw [HT.out.2] at hrd
      have r5 : (w5.alloc O5).heap[w5.heap.size]? = some (.cells #[.int .i64 v.kind, .int .i64 v.num, .string v.text, .slice a1 v.list.length c1, .slice a2 v.fields.length c2] 31) := by rw [heap_alloc_new, hO5]
      have H5 := (show Hid _ from And.intro hB5 (And.intro hA5 (And.intro hr5 (And.intro hO5 r5))))
      rw [hO5] at hrd
      clear h5 hr5 hb5 hB5 hA5 hO5 r5
      go_wp2_with fail
      refine hrd.mono ?_
      rintro e w6 ⟨y, al, nl, cl, af, nf, cf, d, rfl, hb6, hr6⟩
      obtain ⟨rfl, rfl, hry⟩ := hr6
      obtain ⟨p1, d1, p2, d2, e1, e2⟩ := hry.slices
      simp only [Value.slice.injEq] at e1 e2
      obtain ⟨rfl, rfl, rfl⟩ := e1
      obtain ⟨rfl, rfl, rfl⟩ := e2
      obtain ⟨hB5, hA5, hr5, hO5, r5⟩ := H5.out
      rw [← hO5] at hb6
      have hb56 := hA5.trans (hb6.mono hA5.size)
      have hB6 := hB5.trans (hb56.mono hB5.size)
      have r6 := (hb6.block _ (lt_of_heap r5)).trans r5
      obtain ⟨O6, hO6⟩ : ∃ O, O = Obj.cells #[.int .i64 y.kind, .int .i64 y.num, .string y.text, .slice al y.list.length cl, .slice af y.fields.length cf] 31 := ⟨_, rfl⟩
      have hA6 : Below w6.heap.size w6 (w6.alloc O6) := (Below.refl _ _).alloc (Nat.le_refl _) _
      have hB6' := hB6.trans (hA6.mono hB6.size)
      have hlv : Lies 16 (w6.alloc O6) y (.slice a1 y.list.length c1) (.slice a2 y.fields.length c2) := (hr5.below (hb56.trans (hA6.mono hb56.size))).lies
      have hly : Lies 16 (w6.alloc O6) y (.slice al y.list.length cl) (.slice af y.fields.length cf) := (hry.below hA6).lies
      have hsm := Same_is (n := 16) ((good_cmpV (16 + 1)).refl y) hlv hly
      have r6' := (hA6.block _ (lt_of_heap r6)).trans r6
      obtain ⟨j0, j1, j2, j3, j4, jf⟩ := row5 r6'
      have hl6 := lt_of_heap r6
      have H6 := (show Hid _ from And.intro hB6' hO6)
      rw [hO6] at hsm j0 j1 j2 j3 j4
      clear hrd hry hB5 hA5 hr5 hO5 r5 hb6 hb56 hB6 r6 hO6 hA6 hB6' hlv hly r6'
      go_wp2_with fail
      refine hsm.mono ?_
      rintro e w7 ⟨rfl, hb7⟩
      have H7 := (show Hid _ from hb7)
      clear hsm hb7
      go_wp2_with fail
      go_ret
      obtain ⟨hB6', hO6⟩ := H6.out
      have hb7 := H7.out
      rw [← hO6] at hb7
      exact ⟨rfl, hB6'.trans (hb7.mono hB6'.size)⟩
  · have hof := Of_any _ bs3 w1 (HE.out.2.2.2.1.below H1.out) (HE.out.2.1.below H1.out)
    go_wp2_with fail
    refine hof.mono ?_
    rintro e w2 ⟨v, l, f, rfl, hnv, hrv, hb2⟩
    obtain ⟨al, cl, af, cf, rfl, rfl⟩ := hrv.slices
    have hB2 := H1.out.trans (hb2.mono H1.out.size)
    have hlen := print_len 3 v hnv
    have hpr := lput_any 3 v hnv _ _ w2 hrv.lies (Nat.le_trans hlen (by decide))
    obtain ⟨P, hP⟩ : ∃ P : ByteArray, (⟨(printV (3 + 1) v).toArray⟩ : ByteArray) = P := ⟨_, rfl⟩
    rw [hP] at hpr
    have hPz : (P.size : Int) ≤ 10000 := by
      have e : P.size = (printV (3 + 1) v).length := size_list (by rw [← hP])
      have := Nat.le_trans hlen (show _ ≤ 10000 by decide)
      omega
    have H2 := (show Hid _ from hB2)
    clear hof hnv hrv hb2 hB2 hlen hP
    go_wp2_with fail
    refine hpr.mono ?_
    rintro e w3 ⟨rfl, hb3⟩
    have hB3 := H2.out.trans (hb3.mono H2.out.size)
    have hbe : Calls Tryz.prog 9 #[.string P, .int .u16 a, .int .u8 b] w3 fun e w' => (∃ t : ByteArray, e = .returned (.string t) ∧ t.size = P.size) ∧ Below w3.heap.size w3 w' := by
      by_cases h : P.size = 0
      · exact Bend_none P h a b w3
      · exact Bend_some P hPz (by omega) a b HE.out.2.2.2.2.1.1 HE.out.2.2.2.2.1.2 w3
    have H3 := (show Hid _ from hB3)
    clear hpr hb3 hB3 H2 hPz
    go_wp2_with fail
    refine hbe.mono ?_
    rintro e w4 ⟨⟨S, rfl, hSz⟩, hb4⟩
    have hB4 := H3.out.trans (hb4.mono H3.out.size)
    have H4 := (show Hid _ from hB4)
    clear hbe hb4 hB4 H1 H3 _hs hSz
    have m0 : 0 ≤ min (S.size : Int) 600 := by omega
    have m1 : min (S.size : Int) 600 ≤ (S.size : Int) := by omega
    obtain ⟨T, hTe⟩ : ∃ T, S.extract 0 (min (S.size : Int) 600).toNat = T := ⟨_, rfl⟩
    have hz : T.size ≤ 4096 := by rw [← hTe]; simp; omega
    have hps := Parse_any T w4 (HE.out.1.below H4.out)
    obtain ⟨res, hres⟩ : ∃ r, parseP T.data.toList = r := ⟨_, rfl⟩
    have hresW : parseW T.data.toList = res := by rw [← parse_near]; exact hres
    rw [hres] at hps
    have HT := (show Hid _ from And.intro hTe hresW)
    clear hTe hres hresW
    go_wp2_with fail
    rw [HT.out.1]
    refine hps.mono ?_
    intro e w5 h5
    clear hps
    cases res with
    | error c =>
      obtain ⟨u, z, rfl, hf5, hb5⟩ := h5.fault
      simp only [zeroA]
      have hB5 := H4.out.trans (hb5.mono H4.out.size)
      obtain ⟨Z, hZ⟩ : ∃ O, O = Obj.cells #[.int .i64 0, .int .i64 0, .string ⟨#[]⟩, .slice none 0 0, .slice none 0 0] 31 := ⟨_, rfl⟩
      have hA5 : Below w5.heap.size w5 (w5.alloc Z) := (Below.refl _ _).alloc (Nat.le_refl _) _
      have hrd := lRead_any T hz (w5.alloc Z)
      rw [HT.out.2] at hrd
      have r5 : (w5.alloc Z).heap[w5.heap.size]? = some (.cells #[.int .i64 0, .int .i64 0, .string ⟨#[]⟩, .slice none 0 0, .slice none 0 0] 31) := by rw [heap_alloc_new, hZ]
      have H5 := (show Hid _ from And.intro hB5 (And.intro hA5 (And.intro hf5 (And.intro hZ r5))))
      rw [hZ] at hrd
      clear h5 hf5 hb5 hB5 hA5 hZ r5
      go_wp2_with fail
      refine hrd.mono ?_
      rintro e w6 ⟨y, al, nl, cl, af, nf, cf, d, rfl, hb6, hr6⟩
      obtain ⟨rfl, hd0⟩ := hr6
      obtain ⟨hB5, hA5, hf5, hZ, r5⟩ := H5.out
      rw [← hZ] at hb6
      have hb56 := hA5.trans (hb6.mono hA5.size)
      have hB6 := hB5.trans (hb56.mono hB5.size)
      have r6 := (hb6.block _ (lt_of_heap r5)).trans r5
      obtain ⟨O6, hO6⟩ : ∃ O, O = Obj.cells #[.int .i64 y.kind, .int .i64 y.num, .string y.text, .slice al nl cl, .slice af nf cf] 31 := ⟨_, rfl⟩
      have hA6 : Below w6.heap.size w6 (w6.alloc O6) := (Below.refl _ _).alloc (Nat.le_refl _) _
      have hB6' := hB6.trans (hA6.mono hB6.size)
      have hcode := (hf5.below (hb56.trans (hA6.mono hb56.size))).code (HE.out.1.below hB6')
      have r6' := (hA6.block _ (lt_of_heap r6)).trans r6
      have ed : (d != 0) = true := by simpa using hd0
      have H6 := (show Hid _ from And.intro hB6' (And.intro hO6 r6'))
      rw [hO6] at hcode
      clear hrd hd0 hB5 hA5 hf5 hZ r5 hb6 hb56 hB6 r6 hO6 hA6 hB6' r6'
      go_wp2_with fail
      refine hcode.mono ?_
      rintro e w7 ⟨rfl, hb7⟩
      obtain ⟨hB6', hO6, r6'⟩ := H6.out
      rw [← hO6] at hb7
      have r7 := (hb7.block _ (lt_of_heap r6')).trans r6'
      obtain ⟨j0, j1, j2, j3, j4, jf⟩ := row5 r7
      have hl7 := lt_of_heap r7
      have hB7 := hB6'.trans (hb7.mono hB6'.size)
      have hsm := Same_is (n := 0) ((good_cmpV (0 + 1)).refl nulV) (show Lies 0 w7 nulV (.slice none 0 0) (.slice none 0 0) from ⟨rfl, rfl, rfl, rfl⟩) (show Lies 0 w7 nulV (.slice none 0 0) (.slice none 0 0) from ⟨rfl, rfl, rfl, rfl⟩)
      simp only [nulV] at hsm
      have H7 := (show Hid _ from hB7)
      clear hcode hB6' hO6 r6' hb7 r7 hB7
      go_wp2_with fail
      refine hsm.mono ?_
      rintro e w8 ⟨rfl, hb8⟩
      have H8 := (show Hid _ from hb8)
      clear hsm hb8
      go_wp2_with fail
      go_ret
      exact ⟨rfl, H7.out.trans (H8.out.mono H7.out.size)⟩
    | ok v =>
      obtain ⟨a1, c1, a2, c2, rfl, hr5, hb5⟩ := h5.value
      have hB5 := H4.out.trans (hb5.mono H4.out.size)
      obtain ⟨O5, hO5⟩ : ∃ O, O = Obj.cells #[.int .i64 v.kind, .int .i64 v.num, .string v.text, .slice a1 v.list.length c1, .slice a2 v.fields.length c2] 31 := ⟨_, rfl⟩
      have hA5 : Below w5.heap.size w5 (w5.alloc O5) := (Below.refl _ _).alloc (Nat.le_refl _) _
      have hrd := lRead_any T hz (w5.alloc O5)
      rw [HT.out.2] at hrd
      have r5 : (w5.alloc O5).heap[w5.heap.size]? = some (.cells #[.int .i64 v.kind, .int .i64 v.num, .string v.text, .slice a1 v.list.length c1, .slice a2 v.fields.length c2] 31) := by rw [heap_alloc_new, hO5]
      have H5 := (show Hid _ from And.intro hB5 (And.intro hA5 (And.intro hr5 (And.intro hO5 r5))))
      rw [hO5] at hrd
      clear h5 hr5 hb5 hB5 hA5 hO5 r5
      go_wp2_with fail
      refine hrd.mono ?_
      rintro e w6 ⟨y, al, nl, cl, af, nf, cf, d, rfl, hb6, hr6⟩
      obtain ⟨rfl, rfl, hry⟩ := hr6
      obtain ⟨p1, d1, p2, d2, e1, e2⟩ := hry.slices
      simp only [Value.slice.injEq] at e1 e2
      obtain ⟨rfl, rfl, rfl⟩ := e1
      obtain ⟨rfl, rfl, rfl⟩ := e2
      obtain ⟨hB5, hA5, hr5, hO5, r5⟩ := H5.out
      rw [← hO5] at hb6
      have hb56 := hA5.trans (hb6.mono hA5.size)
      have hB6 := hB5.trans (hb56.mono hB5.size)
      have r6 := (hb6.block _ (lt_of_heap r5)).trans r5
      obtain ⟨O6, hO6⟩ : ∃ O, O = Obj.cells #[.int .i64 y.kind, .int .i64 y.num, .string y.text, .slice al y.list.length cl, .slice af y.fields.length cf] 31 := ⟨_, rfl⟩
      have hA6 : Below w6.heap.size w6 (w6.alloc O6) := (Below.refl _ _).alloc (Nat.le_refl _) _
      have hB6' := hB6.trans (hA6.mono hB6.size)
      have hlv : Lies 16 (w6.alloc O6) y (.slice a1 y.list.length c1) (.slice a2 y.fields.length c2) := (hr5.below (hb56.trans (hA6.mono hb56.size))).lies
      have hly : Lies 16 (w6.alloc O6) y (.slice al y.list.length cl) (.slice af y.fields.length cf) := (hry.below hA6).lies
      have hsm := Same_is (n := 16) ((good_cmpV (16 + 1)).refl y) hlv hly
      have r6' := (hA6.block _ (lt_of_heap r6)).trans r6
      obtain ⟨j0, j1, j2, j3, j4, jf⟩ := row5 r6'
      have hl6 := lt_of_heap r6
      have H6 := (show Hid _ from And.intro hB6' hO6)
      rw [hO6] at hsm j0 j1 j2 j3 j4
      clear hrd hry hB5 hA5 hr5 hO5 r5 hb6 hb56 hB6 r6 hO6 hA6 hB6' hlv hly r6'
      go_wp2_with fail
      refine hsm.mono ?_
      rintro e w7 ⟨rfl, hb7⟩
      have H7 := (show Hid _ from hb7)
      clear hsm hb7
      go_wp2_with fail
      go_ret
      obtain ⟨hB6', hO6⟩ := H6.out
      have hb7 := H7.out
      rw [← hO6] at hb7
      exact ⟨rfl, hB6'.trans (hb7.mono hB6'.size)⟩
end Go.Proofs.YtdcaohnaiepllaaGreatDoor
