/-
  ValueDel's walk. No conditions beyond those stated.
-/
import Derived.Test.YtheijncppmndoaaDoorVSD
namespace Go.Proofs.YtheijncppmndoaaDoor
open Go.RowKit

set_option maxRecDepth 100000 in
set_option maxHeartbeats 2000000 in
theorem ValueDel_walk (v0 v1 : Value) (bs0 bs1 : List UInt8) (nm : ByteArray) (_hs : nm.size ≤ 9223372036854775807) (w : World) (hb0 : BytesAt w v0 bs0) (hb1 : BytesAt w v1 bs1) (hE : Env w) :
    Calls Tryd.prog 7 #[v0, v1, .string nm] w fun e w' => e = .returned (.bool true) ∧ Below w.heap.size w w' := by
  go_enter Tryd.func7, Tryd.ntmps7
  go_wp2_with fail
  refine (awake_true _ hE.u8).mono ?_
  rintro e w1 ⟨rfl, hB1⟩
  go_wp2_with fail
  refine (Doc_any v0 bs0 _ (hb0.below hB1) (hE.below hB1).tabs).mono ?_
  rintro e w2 ⟨o, lo, fo, rfl, ⟨hno, hro, hb2⟩, hk⟩
  obtain ⟨a1, c1, a2, c2, rfl, rfl⟩ := hro.slices
  have HK := (show Hid _ from hk)
  clear hk
  have hB2 := hB1.trans (hb2.mono hB1.size)
  go_wp2_with fail
  refine (Of_any v1 bs1 _ (hb1.below hB2) (hE.below hB2).tabs).mono ?_
  rintro e w3 ⟨x, lx, fx, rfl, -, hrx, hb3⟩
  obtain ⟨a3, c3, a4, c4, rfl, rfl⟩ := hrx.slices
  have hB3 := hB2.trans (hb3.mono hB2.size)
  obtain ⟨O1, hO1⟩ : ∃ O, O = Obj.cells #[.int .i64 o.kind, .int .i64 o.num, .string o.text, .slice a1 o.list.length c1, .slice a2 o.fields.length c2] 28 := ⟨_, rfl⟩
  obtain ⟨O2, hO2⟩ : ∃ O, O = Obj.cells #[.int .i64 x.kind, .int .i64 x.num, .string x.text, .slice a3 x.list.length c3, .slice a4 x.fields.length c4] 28 := ⟨_, rfl⟩
  obtain ⟨W, hW⟩ : ∃ W, W = (w3.alloc O1).alloc O2 := ⟨_, rfl⟩
  have r1 : W.heap[w3.heap.size]? = some O1 := by rw [hW]; exact (Below.heap_alloc _ _ _ (by simp)).trans (heap_alloc_new w3 O1)
  have r2 : W.heap[w3.heap.size + 1]? = some O2 := by rw [hW]; simpa using heap_alloc_new (w3.alloc O1) O2
  have hb34 : Below w3.heap.size w3 W := by rw [hW]; exact ((Below.refl _ _).alloc (Nat.le_refl _) _).alloc (by simp) _
  have ho : Lies 3 W o _ _ := ((Rep.lies hro).below hb3).below hb34
  have hx : Lies 3 W x _ _ := (Rep.lies hrx).below hb34
  have hBW : Below w.heap.size w W := hB3.trans (hb34.mono hB3.size)
  have hk := HK.out
  have hr : Rises o.fields := hno.2.2.2.2.2.2.1
  have hl : o.fields.length ≤ 4 := hno.2.2.2.2.2.1
  obtain ⟨B, hB⟩ : ∃ B, (getF nm o.fields).isSome = B := ⟨_, rfl⟩
  obtain ⟨d, hd⟩ : ∃ d, d = delV nm o := ⟨_, rfl⟩
  obtain ⟨g, hg⟩ : ∃ g, (getF nm o.fields).getD zeroV = g := ⟨_, rfl⟩
  have hkd : d.kind = 5 := by rw [hd]; exact hk
  have hrd : Rises d.fields := by rw [hd]; exact rises_del nm hr
  have hnd : getF nm d.fields = none := by rw [hd]; exact get_del nm hr
  rw [hO1] at r1
  rw [hO2] at r2
  have hl' : d.fields.length ≤ 4 := by rw [hd]; exact Nat.le_trans (delV_len nm o) hl
  have hlen : B = true → (d.fields.length : Int) = (o.fields.length : Int) - 1 := fun hBt => by rw [hd]; exact delV_len_there (by rw [hB, hBt])
  have hsame : B = false → d = o := fun hBf => by rw [hd]; exact delV_same (by rw [← Option.not_isSome_iff_eq_none, hB, hBf]; simp)
  have F := (show Hid _ from And.intro hk (And.intro hr (And.intro hl (And.intro hB (And.intro hd (And.intro hg (And.intro hkd (And.intro hrd (And.intro hnd (And.intro hl' (And.intro hlen hsame)))))))))))
  clear hb34 hro hrx hb3 hB3 hB2 hB1 hb2 hb0 hb1 hE hno hk hr hl hB hd hg hkd hrd hnd hl' hlen hsame
  go_wp2_with fail
  rw [← hO1, ← hO2, ← hW]
  clear hO1 hO2 hW
  refine (Del_is F.out.2.2.2.2.1 F.out.2.2.2.1 F.out.1 ho).mono ?_
  rintro e w4 ⟨ad1, cd1, ad2, cd2, rfl, hd4, hb4⟩
  have r14 := (hb4.block _ (lt_of_heap r1)).trans r1
  have z4 := lt_of_heap r14
  have hb4a : ∀ o, Below W.heap.size W (w4.alloc o) := fun o => hb4.alloc hb4.size _
  go_wp2_with fail
  obtain ⟨z, hz⟩ : ∃ z, (getF nm d.fields).getD zeroV = z := ⟨_, rfl⟩
  refine (Get_is (B := false) F.out.2.2.2.2.2.2.1 hz (by rw [F.out.2.2.2.2.2.2.2.2.1]; rfl) (hd4.below ((Below.refl _ _).alloc (Nat.le_refl _) _))).mono ?_
  rintro e w5 ⟨az1, cz1, az2, cz2, rfl, -, hb5⟩
  have hB5 : Below W.heap.size W w5 := (hb4a _).trans (hb5.mono (hb4a _).size)
  have rd5 := (hb5.block w4.heap.size (by simp)).trans (heap_alloc_new w4 _)
  have r15 := (hB5.block _ (lt_of_heap r1)).trans r1
  have z5 := lt_of_heap r15
  have hd5 := hd4.below (((Below.refl _ _).alloc (Nat.le_refl _) _).trans (hb5.mono (by simp)))
  have hB5a : ∀ o, Below W.heap.size W (w5.alloc o) := fun o => hB5.alloc hB5.size _
  obtain ⟨p0, p1, p2, p3, p4, _⟩ := row5 r15
  clear hb5 hd4 hb4 r14 z4 hb4a hz
  go_wp2_with fail
  refine (Get_is F.out.1 F.out.2.2.2.2.2.1 F.out.2.2.2.1 (ho.below (hB5a _))).mono ?_
  rintro e w6 ⟨ag1, cg1, ag2, cg2, rfl, -, hb6⟩
  have hB56 : Below w5.heap.size w5 w6 := ((Below.refl _ _).alloc (Nat.le_refl _) _).trans (hb6.mono (by simp))
  have hB6 : Below W.heap.size W w6 := hB5.trans (hB56.mono hB5.size)
  have rd6 := (hB56.block _ (lt_of_heap rd5)).trans rd5
  have hd6 := hd5.below hB56
  clear hb6 p0 p1 p2 p3 p4 r15 z5 rd5 hd5 hB5a
  obtain ⟨O6, hO6⟩ : ∃ O, O = Obj.cells #[.int .i64 g.kind, .int .i64 g.num, .string g.text, .slice ag1 g.list.length cg1, .slice ag2 g.fields.length cg2] 28 := ⟨_, rfl⟩
  obtain ⟨W6, hW6⟩ : ∃ W, W = w6.alloc O6 := ⟨_, rfl⟩
  have hB67 : Below w6.heap.size w6 W6 := by rw [hW6]; exact (Below.refl _ _).alloc (Nat.le_refl _) _
  have hBW6 : Below W.heap.size W W6 := hB6.trans (hB67.mono hB6.size)
  have rd := (hB67.block _ (lt_of_heap rd6)).trans rd6
  have ro := (hBW6.block _ (lt_of_heap r1)).trans r1
  have rx := (hBW6.block _ (lt_of_heap r2)).trans r2
  have hdl := hd6.below hB67
  have hol := ho.below hBW6
  have hxl := hx.below hBW6
  have hBf : Below w.heap.size w W6 := hBW.trans (hBW6.mono hBW.size)
  have zd := lt_of_heap rd
  have zo := lt_of_heap ro
  have zx := lt_of_heap rx
  have ro6 := (hB6.block _ (lt_of_heap r1)).trans r1
  have rx6 := (hB6.block _ (lt_of_heap r2)).trans r2
  have zd6 := lt_of_heap rd6
  have zo6 := lt_of_heap ro6
  have zx6 := lt_of_heap rx6
  obtain ⟨p0, p1, p2, p3, p4, _⟩ := row5 rd6
  obtain ⟨o0, o1, o2, o3, o4, _⟩ := row5 ro6
  obtain ⟨x0, x1, x2, x3, x4, _⟩ := row5 rx6
  clear hB6 hB56 hB67 hB5 hBW hBW6 rd6 ro6 rx6 hd6 ho hx r1 r2
  cases B with
  | false =>
    have hsm := (show Hid _ from F.out.2.2.2.2.2.2.2.2.2.2.2 rfl)
    go_wp2_with fail
    rw [← hO6, ← hW6]
    clear hO6 hW6 p0 p1 p2 p3 p4 o0 o1 o2 o3 o4 x0 x1 x2 x3 x4 zd6 zo6 zx6
    refine (Same_is (by rw [hsm.out]; exact (good_cmpV _).refl _) hdl (Rep.up hol)).mono ?_
    rintro e w7 ⟨rfl, hb7⟩
    have rd7 := (hb7.block _ (lt_of_heap rd)).trans rd
    have rx7 := (hb7.block _ (lt_of_heap rx)).trans rx
    have zd7 := lt_of_heap rd7
    have zx7 := lt_of_heap rx7
    have hB7 : Below w.heap.size w w7 := hBf.trans (hb7.mono hBf.size)
    have hd7 := hdl.below hb7
    have hx7 := hxl.below hb7
    obtain ⟨p0, p1, p2, p3, p4, _⟩ := row5 rd7
    obtain ⟨x0, x1, x2, x3, x4, _⟩ := row5 rx7
    clear hb7
    go_wp2_with fail
    clear p0 p1 p2 p3 p4 x0 x1 x2 x3 x4
    refine (Set_is rfl F.out.2.2.2.2.2.2.1 F.out.2.2.2.2.2.2.2.1 (by have := F.out.2.2.2.2.2.2.2.2.2.1; omega) hd7 (Rep.up hx7)).mono ?_
    rintro e w8 ⟨as1, cs1, as2, cs2, rfl, hs8, hb8⟩
    have rd8 := (hb8.block _ (lt_of_heap rd7)).trans rd7
    have z8 := lt_of_heap rd8
    have hd8 := hd7.below hb8
    obtain ⟨s, hs⟩ : ∃ s, s = setV nm x d := ⟨_, rfl⟩
    rw [← hs] at hs8 ⊢
    have hsk : s.kind = 5 := by rw [hs]; exact F.out.2.2.2.2.2.2.1
    have hse : delV nm s = d := by rw [hs]; exact delV_setV F.out.2.2.2.2.2.2.2.2.1
    have hsb : (getF nm s.fields).isSome = true := by rw [hs]; show (getF nm (setF nm x d.fields)).isSome = true; rw [get_set_same]; rfl
    have F2 := (show Hid _ from And.intro hsk (And.intro hse hsb))
    clear hs hsk hse hsb
    go_wp2_with fail
    refine (Del_is F2.out.2.1.symm F2.out.2.2 F2.out.1 hs8).mono ?_
    rintro e w9 ⟨ae1, ce1, ae2, ce2, rfl, he9, hb9⟩
    have rd9 := (hb9.block _ (lt_of_heap rd8)).trans rd8
    obtain ⟨p0, p1, p2, p3, p4, _⟩ := row5 rd9
    have z9 := lt_of_heap rd9
    have hd9 := hd8.below hb9
    have hB9 : Below w.heap.size w w9 := (hB7.trans (hb8.mono hB7.size)).trans (hb9.mono (hB7.trans (hb8.mono hB7.size)).size)
    have hB9a : ∀ o, Below w.heap.size w (w9.alloc o) := fun o => hB9.alloc hB9.size _
    have hn : ∀ o, Below w9.heap.size w9 (w9.alloc o) := fun o => (Below.refl _ _).alloc (Nat.le_refl _) _
    go_wp2_with fail
    refine (same_refl (he9.below (hn _)) (Rep.le (hd9.below (hn _)) (by omega))).mono ?_
    rintro e w10 ⟨rfl, hb10⟩
    go_wp2_with fail
    go_ret
    exact ⟨rfl, (hB9a _).trans (hb10.mono (hB9a _).size)⟩
  | true =>
    have hlen := F.out.2.2.2.2.2.2.2.2.2.2.1 rfl
    have hl1 : (o.fields.length : Int) ≤ 4 := by have := F.out.2.2.1; omega
    go_wp2_with fail
    rw [← hO6, ← hW6]
    clear hO6 hW6 p0 p1 p2 p3 p4 o0 o1 o2 o3 o4 x0 x1 x2 x3 x4 zd6 zo6 zx6 hlen hl1
    refine (Set_is rfl F.out.2.2.2.2.2.2.1 F.out.2.2.2.2.2.2.2.1 (by have := F.out.2.2.2.2.2.2.2.2.2.1; omega) hdl (Rep.up hxl)).mono ?_
    rintro e w8 ⟨as1, cs1, as2, cs2, rfl, hs8, hb8⟩
    have rd8 := (hb8.block _ (lt_of_heap rd)).trans rd
    have z8 := lt_of_heap rd8
    have hd8 := hdl.below hb8
    obtain ⟨s, hs⟩ : ∃ s, s = setV nm x d := ⟨_, rfl⟩
    rw [← hs] at hs8 ⊢
    have hsk : s.kind = 5 := by rw [hs]; exact F.out.2.2.2.2.2.2.1
    have hse : delV nm s = d := by rw [hs]; exact delV_setV F.out.2.2.2.2.2.2.2.2.1
    have hsb : (getF nm s.fields).isSome = true := by rw [hs]; show (getF nm (setF nm x d.fields)).isSome = true; rw [get_set_same]; rfl
    have F2 := (show Hid _ from And.intro hsk (And.intro hse hsb))
    clear hs hsk hse hsb
    go_wp2_with fail
    refine (Del_is F2.out.2.1.symm F2.out.2.2 F2.out.1 hs8).mono ?_
    rintro e w9 ⟨ae1, ce1, ae2, ce2, rfl, he9, hb9⟩
    have rd9 := (hb9.block _ (lt_of_heap rd8)).trans rd8
    obtain ⟨p0, p1, p2, p3, p4, _⟩ := row5 rd9
    have z9 := lt_of_heap rd9
    have hd9 := hd8.below hb9
    have hB9 : Below w.heap.size w w9 := (hBf.trans (hb8.mono hBf.size)).trans (hb9.mono (hBf.trans (hb8.mono hBf.size)).size)
    have hB9a : ∀ o, Below w.heap.size w (w9.alloc o) := fun o => hB9.alloc hB9.size _
    have hn : ∀ o, Below w9.heap.size w9 (w9.alloc o) := fun o => (Below.refl _ _).alloc (Nat.le_refl _) _
    go_wp2_with fail
    refine (same_refl (he9.below (hn _)) (Rep.le (hd9.below (hn _)) (by omega))).mono ?_
    rintro e w10 ⟨rfl, hb10⟩
    go_wp2_with fail
    go_ret
    exact ⟨rfl, (hB9a _).trans (hb10.mono (hB9a _).size)⟩
end Go.Proofs.YtheijncppmndoaaDoor
