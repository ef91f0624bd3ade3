/-
  ValueSet's walk. No conditions beyond those stated.
-/
import Derived.Test.YtheijncppmndoaaDoorVSD
namespace Go.Proofs.YtheijncppmndoaaDoor
open Go.RowKit

theorem rises_lt : ∀ {fs : List (ByteArray × V)} {f p : ByteArray × V}, Rises (f :: fs) → p ∈ fs → cmpT f.1 p.1 < 0
  | [], _, _, _, h => by cases h
  | a :: fs, f, p, hr, h => by
    have h1 : cmpT f.1 a.1 < 0 := hr.1
    rcases List.mem_cons.1 h with rfl | h
    · exact h1
    · exact good_cmpT.lt_left h1 (by have := rises_lt hr.2 h; omega)
theorem rises_adj : ∀ {fs : List (ByteArray × V)} (m : Nat) {p q : ByteArray × V}, Rises fs → fs[m]? = some p → fs[m + 1]? = some q → cmpT p.1 q.1 < 0
  | [], _, _, _, _, h, _ => by simp at h
  | f :: fs, 0, p, q, hr, h, hq => by
    simp at h hq
    subst h
    exact rises_lt hr (List.mem_of_getElem? (i := 0) hq)
  | f :: fs, m + 1, p, q, hr, h, hq => rises_adj m hr.tail (by simpa using h) (by simpa using hq)
theorem get_at : ∀ {fs : List (ByteArray × V)} {k : Nat} {q : ByteArray} {y : V}, Rises fs → fs[k]? = some (q, y) → getF q fs = some y
  | [], _, _, _, _, h => by simp at h
  | f :: fs, 0, q, y, _, h => by
    simp at h
    subst h
    rw [getF_cons, if_pos (good_cmpT.refl q)]
  | f :: fs, k + 1, q, y, hr, h => by
    have h' : fs[k]? = some (q, y) := by simpa using h
    have := rises_lt hr (List.mem_of_getElem? h')
    simp only at this
    rw [getF_cons, if_neg (by omega)]
    exact get_at hr.tail h'

set_option maxRecDepth 100000 in
set_option maxHeartbeats 4000000 in
theorem ValueSet_walk (v0 v1 : Value) (bs0 bs1 : List UInt8) (nm : ByteArray) (_hs : nm.size ≤ 9223372036854775807) (w : World) (hb0 : BytesAt w v0 bs0) (hb1 : BytesAt w v1 bs1) (hE : Env w) :
    Calls Tryd.prog 6 #[v0, v1, .string nm] w fun e w' => e = .returned (.bool true) ∧ Below w.heap.size w w' := by
  go_enter Tryd.func6, Tryd.ntmps6
  go_wp2_with fail
  refine (awake_true _ hE.u8).mono ?_
  rintro e w1 ⟨rfl, hB1⟩
  go_wp2_with fail
  refine (Doc_any v0 bs0 _ (hb0.below hB1) (hE.below hB1).tabs).mono ?_
  rintro e w2 ⟨o, lo, fo, rfl, ⟨hno, hro, hb2⟩, hk⟩
  obtain ⟨a1, c1, a2, c2, rfl, rfl⟩ := hro.slices
  have HK := (show Hid _ from hk)
  clear hk
  have hB2 := hB1.trans (hb2.mono hB1.size)
  go_wp2_with fail
  refine (Of_any v1 bs1 _ (hb1.below hB2) (hE.below hB2).tabs).mono ?_
  rintro e w3 ⟨x, lx, fx, rfl, -, hrx, hb3⟩
  obtain ⟨a3, c3, a4, c4, rfl, rfl⟩ := hrx.slices
  have hB3 := hB2.trans (hb3.mono hB2.size)
  obtain ⟨O1, hO1⟩ : ∃ O, O = Obj.cells #[.int .i64 o.kind, .int .i64 o.num, .string o.text, .slice a1 o.list.length c1, .slice a2 o.fields.length c2] 28 := ⟨_, rfl⟩
  obtain ⟨O2, hO2⟩ : ∃ O, O = Obj.cells #[.int .i64 x.kind, .int .i64 x.num, .string x.text, .slice a3 x.list.length c3, .slice a4 x.fields.length c4] 28 := ⟨_, rfl⟩
  obtain ⟨W, hW⟩ : ∃ W, W = (w3.alloc O1).alloc O2 := ⟨_, rfl⟩
  have r1 : W.heap[w3.heap.size]? = some O1 := by rw [hW]; exact (Below.heap_alloc _ _ _ (by simp)).trans (heap_alloc_new w3 O1)
  have r2 : W.heap[w3.heap.size + 1]? = some O2 := by rw [hW]; simpa using heap_alloc_new (w3.alloc O1) O2
  have hb34 : Below w3.heap.size w3 W := by rw [hW]; exact ((Below.refl _ _).alloc (Nat.le_refl _) _).alloc (by simp) _
  have ho : Lies 3 W o _ _ := ((Rep.lies hro).below hb3).below hb34
  have hx : Lies 3 W x _ _ := (Rep.lies hrx).below hb34
  have hBW : Below w.heap.size w W := hB3.trans (hb34.mono hB3.size)
  have hk := HK.out
  have hr : Rises o.fields := hno.2.2.2.2.2.2.1
  have hl : o.fields.length ≤ 4 := hno.2.2.2.2.2.1
  obtain ⟨B, hB⟩ : ∃ B, (getF nm o.fields).isSome = B := ⟨_, rfl⟩
  obtain ⟨s, hs⟩ : ∃ s, s = setV nm x o := ⟨_, rfl⟩
  obtain ⟨g, hg⟩ : ∃ g, (getF nm o.fields).getD zeroV = g := ⟨_, rfl⟩
  have hsk : s.kind = 5 := by rw [hs]; exact hk
  have hrs : Rises s.fields := by rw [hs]; exact rises_set nm x hr
  have hgs : getF nm s.fields = some x := by rw [hs]; exact get_set_same nm x _
  have hgo : ∀ m, ¬ cmpT m nm = 0 → getF m s.fields = getF m o.fields := fun m hm => by rw [hs]; exact get_set_other nm m x hm _
  have hls : s.fields.length = if B then o.fields.length else o.fields.length + 1 := by rw [hs, ← hB]; exact length_set nm x hr
  have hback : B = true → setV nm g s = o := fun hBt => by
    rw [hs]
    obtain ⟨y, hy⟩ := Option.isSome_iff_exists.1 (hB.trans hBt)
    rw [hy] at hg
    simp only [Option.getD_some] at hg
    subst hg
    exact setV_back hr hy
  rw [hO1] at r1
  rw [hO2] at r2
  have F := (show Hid _ from And.intro hk (And.intro hr (And.intro hl (And.intro hB (And.intro hs (And.intro hg (And.intro hsk (And.intro hrs (And.intro hgs (And.intro hgo (And.intro hls hback)))))))))))
  clear hb34 hro hrx hb3 hB3 hB2 hB1 hb2 hb0 hb1 hE hno hk hr hl hB hs hg hsk hrs hgs hgo hls hback
  go_wp2_with fail
  rw [← hO1, ← hO2, ← hW]
  clear hO1 hO2 hW
  refine (Set_is F.out.2.2.2.2.1 F.out.1 F.out.2.1 (by have := F.out.2.2.1; omega) ho hx).mono ?_
  rintro e w4 ⟨as1, cs1, as2, cs2, rfl, hs4, hb4⟩
  have hb4a : ∀ o, Below W.heap.size W (w4.alloc o) := fun o => hb4.alloc hb4.size _
  go_wp2_with fail
  refine (Get_is (g := x) (B := true) F.out.2.2.2.2.2.2.1 (by rw [F.out.2.2.2.2.2.2.2.2.1]; rfl) (by rw [F.out.2.2.2.2.2.2.2.2.1]; rfl) (hs4.below ((Below.refl _ _).alloc (Nat.le_refl _) _))).mono ?_
  rintro e w5 ⟨az1, cz1, az2, cz2, rfl, hx5, hb5⟩
  have hB5 : Below W.heap.size W w5 := (hb4a _).trans (hb5.mono (hb4a _).size)
  have rs5 := (hb5.block w4.heap.size (by simp)).trans (heap_alloc_new w4 _)
  have r15 := (hB5.block _ (lt_of_heap r1)).trans r1
  have r25 := (hB5.block _ (lt_of_heap r2)).trans r2
  have z15 := lt_of_heap r15
  have z25 := lt_of_heap r25
  have zs5 := lt_of_heap rs5
  have hs5 := hs4.below (((Below.refl _ _).alloc (Nat.le_refl _) _).trans (hb5.mono (by simp)))
  have hB5a : ∀ o, Below W.heap.size W (w5.alloc o) := fun o => hB5.alloc hB5.size _
  have hn5 : ∀ o, Below w5.heap.size w5 (w5.alloc o) := fun o => (Below.refl _ _).alloc (Nat.le_refl _) _
  obtain ⟨p0, p1, p2, p3, p4, _⟩ := row5 r25
  clear hb5 hs4 hb4 hb4a
  go_wp2_with fail
  refine (same_refl (hx5.below (hn5 _)) (Rep.le (hx.below (hB5a _)) (by omega))).mono ?_
  rintro e w6 ⟨rfl, hb6⟩
  have hB56 : Below w5.heap.size w5 w6 := (hn5 _).trans (hb6.mono (by simp))
  have hB6 : Below W.heap.size W w6 := hB5.trans (hB56.mono hB5.size)
  have rs6 := (hB56.block _ (lt_of_heap rs5)).trans rs5
  have ro6 := (hB6.block _ (lt_of_heap r1)).trans r1
  have hs6 := hs5.below hB56
  have zs6 := lt_of_heap rs6
  have zo6 := lt_of_heap ro6
  have hsk' : (s.kind != 5) = false := by rw [F.out.2.2.2.2.2.2.1]; rfl
  clear hb6 p0 p1 p2 p3 p4 r15 r25 z15 z25 zs5 rs5 hs5 hB5a hn5 hx5 hx
  obtain ⟨p0, p1, p2, p3, p4, _⟩ := row5 rs6
  obtain ⟨o0, o1, o2, o3, o4, _⟩ := row5 ro6
  go_wp2_with fail
  clear p0 p1 p2 p3 p4 o0 o1 o2 o3 o4 hsk'
  refine (Get_is F.out.1 F.out.2.2.2.2.2.1 F.out.2.2.2.1 (ho.below hB6)).mono ?_
  rintro e w7 ⟨ag1, cg1, ag2, cg2, rfl, hg7, hb7⟩
  have rs7 := (hb7.block _ (lt_of_heap rs6)).trans rs6
  have ro7 := (hb7.block _ (lt_of_heap ro6)).trans ro6
  have zs7 := lt_of_heap rs7
  have zo7 := lt_of_heap ro7
  obtain ⟨O7, hO7⟩ : ∃ O, O = Obj.cells #[.int .i64 g.kind, .int .i64 g.num, .string g.text, .slice ag1 g.list.length cg1, .slice ag2 g.fields.length cg2] 28 := ⟨_, rfl⟩
  obtain ⟨A, hA⟩ : ∃ W, W = w7.alloc O7 := ⟨_, rfl⟩
  have hbA : Below w7.heap.size w7 A := by rw [hA]; exact (Below.refl _ _).alloc (Nat.le_refl _) _
  have hB7 : Below W.heap.size W w7 := hB6.trans (hb7.mono hB6.size)
  have hBA : Below W.heap.size W A := hB7.trans (hbA.mono hB7.size)
  have rsA := (hbA.block _ (lt_of_heap rs7)).trans rs7
  have roA := (hbA.block _ (lt_of_heap ro7)).trans ro7
  have rgA : A.heap[w7.heap.size]? = some O7 := by rw [hA]; exact heap_alloc_new w7 O7
  rw [hO7] at rgA
  have hsA := (hs6.below hb7).below hbA
  have hoA := ho.below hBA
  have hgA := hg7.below hbA
  have hB : Below w.heap.size w A := hBW.trans (hBA.mono hBW.size)
  obtain ⟨p0, p1, p2, p3, p4, _⟩ := row5 rs7
  obtain ⟨o0, o1, o2, o3, o4, _⟩ := row5 ro7
  clear hb7 hbA hBA hB7 hB6 hB5 hBW hB56 rs6 ro6 zs6 zo6 hs6 hg7 ho r1 r2 rs7 ro7
  have hl1 : (o.fields.length : Int) ≤ 4 := by have := F.out.2.2.1; omega
  have hl2 : 0 < s.fields.length := by
    rcases hf : s.fields with _ | ⟨ff, fr⟩
    · have := F.out.2.2.2.2.2.2.2.2.1; rw [hf] at this; cases this
    · simp
  have hlsB : B = true → (s.fields.length : Int) = o.fields.length := fun h => by have := F.out.2.2.2.2.2.2.2.2.2.2.1; rw [h] at this; simp at this; omega
  have hlsF : B = false → (s.fields.length : Int) = o.fields.length + 1 := fun h => by have := F.out.2.2.2.2.2.2.2.2.2.2.1; rw [h] at this; simp at this; omega
  have hback := F.out.2.2.2.2.2.2.2.2.2.2.2
  obtain ⟨hsk, hrs, hgs, hgo⟩ : s.kind = 5 ∧ Rises s.fields ∧ getF nm s.fields = some x ∧ ∀ m, ¬ cmpT m nm = 0 → getF m s.fields = getF m o.fields := ⟨F.out.2.2.2.2.2.2.1, F.out.2.2.2.2.2.2.2.1, F.out.2.2.2.2.2.2.2.2.1, F.out.2.2.2.2.2.2.2.2.2.1⟩
  have hro := F.out.2.1
  have hsl : s.fields.length ≤ 5 := by cases hBB : B with
    | true => have := hlsB hBB; omega
    | false => have := hlsF hBB; omega
  obtain ⟨sfs, sf1, sf2, sf3⟩ := hsA.2
  have sfl : sfs.length = s.fields.length := by rw [← sf1, List.length_map]
  rw [sfl] at sf2
  obtain ⟨ofs, of1, of2, of3⟩ := hoA.2
  have ofl : ofs.length = o.fields.length := by rw [← of1, List.length_map]
  rw [ofl] at of2
  obtain ⟨bs, cs', e1, hbs, _, hcs1, hcs2, _⟩ := sf2.cells hl2
  simp only [Value.slice.injEq, true_and] at e1
  obtain ⟨rfl, rfl⟩ := e1
  have G := (show Hid _ from And.intro hsk (And.intro hrs (And.intro hgs (And.intro hgo (And.intro hro (And.intro hsl (And.intro sf1 (And.intro sf2 (And.intro sf3 (And.intro sfl (And.intro of1 (And.intro of2 (And.intro of3 (And.intro ofl (And.intro rsA (And.intro roA (And.intro rgA (And.intro hsA (And.intro hoA (And.intro hgA hB))))))))))))))))))))
  have zc : (s.fields.length : Int) ≤ cs2 := by omega
  have HK' : Hid (s.kind = 5) := hsk
  have HGS : Hid (getF nm s.fields = some x) := hgs
  have HRS : Hid (Rises s.fields) := hrs
  have H1 := (show Hid _ from And.intro hlsB (And.intro hlsF hback))
  clear hsk hrs hgs hgo hro sf1 sf2 sf3 sfl of1 of2 of3 ofl rsA roA rgA hsA hoA hgA hB F HK hlsB hlsF hback
  cases B with
  | true =>
    have HL : Hid ((s.fields.length : Int) = o.fields.length) := H1.out.1 rfl
    have HBK : Hid (setV nm g s = o) := H1.out.2.2 rfl
    clear H1
    go_wp2_with fail
    rw [← hO7, ← hA]
    clear hO7 hA p0 p1 p2 p3 p4 o0 o1 o2 o3 o4 zs7 zo7
    go_loopg [15, 16, 67] s.fields.length (fun gg _ _ i wr => ∃ k : Nat, k ≤ s.fields.length ∧ s.fields.length - k ≤ gg ∧ i = .int .i64 k ∧ Aside (Below A.heap.size A wr))
    case atStart => exact ⟨0, Nat.zero_le _, by omega, rfl, Below.refl _ _⟩
    case round =>
      obtain ⟨k, hk, hgg, rfl, BW⟩ := hrel
      by_cases hlt : k < s.fields.length
      · obtain ⟨hsk, hrs, hgs, hgo, hro, hsl', sf1, sf2, sf3, sfl, of1, of2, of3, ofl, rsA, roA, rgA, hsA, hoA, hgA, hB⟩ := G.out
        have hm : ∀ b, True → b < A.heap.size → True ∧ wr.heap[b]? = A.heap[b]? := fun b _ h => ⟨trivial, BW.out.block b h⟩
        obtain ⟨⟨qn, qv, ql, qf⟩, hq⟩ : ∃ e, sfs[k]? = some e := ⟨_, List.getElem?_eq_getElem (by omega)⟩
        obtain ⟨a0, a1, a2, a3, a4, a5⟩ := (sf2.move hm).fl hq
        simp only at a0 a1 a2 a3 a4 a5
        obtain ⟨al, cl, af, cf, rfl, rfl⟩ := (show Rep (fun _ => True) (3 + 1) A qv ql qf from sf3 _ (List.mem_of_getElem? hq)).slices
        have rs := (BW.out.block _ (lt_of_heap rsA)).trans rsA
        obtain ⟨_, _, _, _, s4, _⟩ := row5 rs
        have zs := lt_of_heap rs
        have zb := lt_of_cell a0
        simp only at zb
        have hq2 : s.fields[k]? = some (qn, qv) := by rw [← sf1, List.getElem?_map, hq]; rfl
        have hBx : ∀ o n, Below A.heap.size A ((wr.alloc o).drewN n) := fun o n => by
          have h : Below A.heap.size A (wr.alloc o) := BW.out.alloc BW.out.size _
          exact ⟨h.os, h.tape, h.output, h.size, h.block⟩
        have zk : (k : Int) < (s.fields.length : Int) := by omega
        by_cases hk0 : k = 0
        · subst hk0
          clear hsk hrs hgs hgo hro hsl' sf1 sf2 sf3 sfl of1 of2 of3 ofl rsA roA rgA hsA hoA hgA hB hm hq hq2 rs
          go_wp2_with fail
          go_quiet (fail)
          go_wp2_with fail
          go_roundg (s.fields.length - (0 + 1))
          case measure => omega
          case rel => exact ⟨0 + 1, by omega, by omega, by go_num, hBx _ _⟩
        · obtain ⟨m, rfl⟩ : ∃ m, k = m + 1 := ⟨k - 1, by omega⟩
          obtain ⟨⟨pn, pv, pl, pf⟩, hp⟩ : ∃ e, sfs[m]? = some e := ⟨_, List.getElem?_eq_getElem (by omega)⟩
          have b0 := ((sf2.move hm).fl hp).1
          simp only at b0
          have hp2 : s.fields[m]? = some (pn, pv) := by rw [← sf1, List.getElem?_map, hp]; rfl
          have hbl : Op.bytesLess pn.toList qn.toList = true := by
            have h1 := rises_adj m hrs hp2 hq2
            rw [bytesLess_eq]
            exact decide_eq_true h1
          have zm : (m : Int) < (s.fields.length : Int) := by omega
          clear hsk hrs hgs hgo hro hsl' sf1 sf2 sf3 sfl of1 of2 of3 ofl rsA roA rgA hsA hoA hgA hB hm hq hq2 rs hp hp2 hk0
          go_wp2_with fail
          go_quiet (fail)
          go_wp2_with fail
          go_roundg (s.fields.length - (m + 1 + 1))
          case measure => omega
          case rel => exact ⟨m + 1 + 1, by omega, by omega, by go_num, hBx _ _⟩
      · have hz : ¬ (k : Int) < (s.fields.length : Int) := by omega
        have roW := (BW.out.block _ (lt_of_heap G.out.2.2.2.2.2.2.2.2.2.2.2.2.2.2.2.1)).trans G.out.2.2.2.2.2.2.2.2.2.2.2.2.2.2.2.1
        obtain ⟨_, _, _, _, o4, _⟩ := row5 roW
        clear roW
        go_wp2_with fail
        clear o4 hz hlt hk hgg
        go_loopg [18, 19, 20, 90] o.fields.length (fun gg _ _ _ i wr => ∃ k : Nat, k ≤ o.fields.length ∧ o.fields.length - k ≤ gg ∧ i = .int .i64 k ∧ Aside (Below A.heap.size A wr))
        case atStart => exact ⟨0, Nat.zero_le _, by omega, rfl, BW.out⟩
        case round =>
          clear BW
          obtain ⟨j, hj, hgg, rfl, BW⟩ := hrel
          obtain ⟨hsk, hrs, hgs, hgo, hro, hsl', sf1, sf2, sf3, sfl, of1, of2, of3, ofl, rsA, roA, rgA, hsA, hoA, hgA, hB⟩ := G.out
          have rs := (BW.out.block _ (lt_of_heap rsA)).trans rsA
          obtain ⟨s0, s1, s2, s3, s4, _⟩ := row5 rs
          have zs := lt_of_heap rs
          by_cases hlt : j < o.fields.length
          · obtain ⟨bo, co, e1, hbo, _, hco1, hco2, _⟩ := of2.cells (by omega)
            simp only [Value.slice.injEq, true_and] at e1
            obtain ⟨rfl, rfl⟩ := e1
            have hm : ∀ b, True → b < A.heap.size → True ∧ wr.heap[b]? = A.heap[b]? := fun b _ h => ⟨trivial, BW.out.block b h⟩
            obtain ⟨⟨qn, qv, ql, qf⟩, hq⟩ : ∃ e, ofs[j]? = some e := ⟨_, List.getElem?_eq_getElem (by omega)⟩
            obtain ⟨a0, a1, a2, a3, a4, a5⟩ := (of2.move hm).fl hq
            simp only at a0 a1 a2 a3 a4 a5
            have hlq : Rep (fun _ => True) 2 A qv ql qf := of3 _ (List.mem_of_getElem? hq)
            obtain ⟨al, cl, af, cf, rfl, rfl⟩ := hlq.slices
            have zb := lt_of_cell a0
            simp only at zb
            have hq2 : o.fields[j]? = some (qn, qv) := by rw [← of1, List.getElem?_map, hq]; rfl
            have hgq := get_at hro hq2
            have zk : (j : Int) < (o.fields.length : Int) := by omega
            have zco : (o.fields.length : Int) ≤ c2 := by omega
            have hsW := hsA.below BW.out
            have hqW : Lies 2 wr qv _ _ := Rep.below BW.out hlq
            have hn : ∀ o, Below wr.heap.size wr (wr.alloc o) := fun o => (Below.refl _ _).alloc (Nat.le_refl _) _
            by_cases hqn : cmpT qn nm = 0
            · have e := cmpT_eq hqn
              subst e
              clear hsk hrs hgs hgo hro hsl' sf1 sf2 sf3 sfl of1 of2 of3 ofl rsA roA rgA hsA hoA hgA hB hm hq hlq hq2 hgq hqn hqW rs
              go_wp2_with fail
              refine (Get_is (g := x) (B := true) HK'.out (by rw [HGS.out]; rfl) (by rw [HGS.out]; rfl) (hsW.below (hn _))).mono ?_
              rintro e w8 ⟨au1, cu1, au2, cu2, rfl, -, hb8⟩
              have rf := (hb8.block wr.heap.size (by simp)).trans (heap_alloc_new wr _)
              obtain ⟨f0, f1, f2, f3, f4, f5, _⟩ := row6 rf
              have zf := lt_of_heap rf
              have hB8 : Below A.heap.size A w8 := BW.out.trans (((hn _).trans (hb8.mono (hn _).size)).mono BW.out.size)
              have HB8 := (show Hid (∀ o, Below A.heap.size A (w8.alloc o)) from fun o => hB8.alloc hB8.size _)
              clear rf hb8 hB8 s0 s1 s2 s3 s4 a0 a1 a2 a3 a4 a5
              go_wp2_with fail
              go_roundg (o.fields.length - (j + 1))
              case measure => omega
              case rel => exact ⟨j + 1, by omega, by omega, by go_num, HB8.out _⟩
            · have hne : (qn.toList == nm.toList) = false := by rw [beq_cmpT]; exact decide_eq_false hqn
              have hgq' : Hid (getF qn s.fields = some qv) := (hgo qn hqn).trans hgq
              clear hsk hrs hgs hgo hro hsl' sf1 sf2 sf3 sfl of1 of2 of3 ofl rsA roA rgA hsA hoA hgA hB hm hq hlq hq2 hgq hqn rs
              go_wp2_with fail
              refine (Get_is (g := qv) (B := true) HK'.out (by rw [hgq'.out]; rfl) (by rw [hgq'.out]; rfl) (hsW.below (hn _))).mono ?_
              rintro e w8 ⟨au1, cu1, au2, cu2, rfl, hu8, hb8⟩
              have rf := (hb8.block wr.heap.size (by simp)).trans (heap_alloc_new wr _)
              obtain ⟨f0, f1, f2, f3, f4, f5, _⟩ := row6 rf
              have zf := lt_of_heap rf
              have hn8 := (hn (.cells #[.string qn, .int .i64 qv.kind, .int .i64 qv.num, .string qv.text, .slice al qv.list.length cl, .slice af qv.fields.length cf] 35)).trans (hb8.mono (hn _).size)
              have hq8 := hqW.below hn8
              have hB8 : Below A.heap.size A w8 := BW.out.trans (hn8.mono BW.out.size)
              have hB8a : ∀ o, Below A.heap.size A (w8.alloc o) := fun o => hB8.alloc hB8.size _
              have hm8 : ∀ o, Below w8.heap.size w8 (w8.alloc o) := fun o => (Below.refl _ _).alloc (Nat.le_refl _) _
              clear rf hb8 hn8 hB8 hqW s0 s1 s2 s3 s4 a0 a1 a2 a3 a4 a5
              go_wp2_with fail
              refine (same_refl (hu8.below (hm8 _)) (Rep.le (hq8.below (hm8 _)) (by omega))).mono ?_
              rintro e w9 ⟨rfl, hb9⟩
              have HB9 := (show Hid _ from (hB8a _).trans (hb9.mono (hB8a _).size))
              clear hb9 hB8a hm8 hu8 hq8 f0 f1 f2 f3 f4 f5
              go_wp2_with fail
              go_roundg (o.fields.length - (j + 1))
              case measure => omega
              case rel => exact ⟨j + 1, by omega, by omega, by go_num, HB9.out⟩
          · have hz : ¬ (j : Int) < (o.fields.length : Int) := by omega
            have rg := (BW.out.block _ (lt_of_heap rgA)).trans rgA
            obtain ⟨g0, g1, g2, g3, g4, _⟩ := row5 rg
            have zg := lt_of_heap rg
            have hsW := hsA.below BW.out
            have hgW := hgA.below BW.out
            clear hsk hrs hgs hgo hro hsl' sf1 sf2 sf3 sfl of1 of2 of3 ofl rsA roA rgA hsA hoA hgA hB rg rs
            go_wp2_with fail
            obtain ⟨bk, hbk⟩ : ∃ bk, bk = setV nm g s := ⟨_, rfl⟩
            refine (Set_is hbk HK'.out HRS.out (by omega) hsW (Rep.le hgW (by omega))).mono ?_
            rintro e w9 ⟨ab1, cb1, ab2, cb2, rfl, hk9, hb9⟩
            have hB9 : Below A.heap.size A w9 := BW.out.trans (hb9.mono BW.out.size)
            obtain ⟨-, -, -, -, -, -, -, -, -, -, -, -, -, -, rsA, roA, -, -, hoA, -, hB⟩ := G.out
            have rs := (hB9.block _ (lt_of_heap rsA)).trans rsA
            have ro := (hB9.block _ (lt_of_heap roA)).trans roA
            clear s0 s1 s2 s3 s4 zs
            obtain ⟨s0, s1, s2, s3, s4, _⟩ := row5 rs
            obtain ⟨o0, o1, o2, o3, o4, _⟩ := row5 ro
            have zs := lt_of_heap rs
            have zo := lt_of_heap ro
            have ho9 := hoA.below hB9
            have hm9 : ∀ o, Below w9.heap.size w9 (w9.alloc o) := fun o => (Below.refl _ _).alloc (Nat.le_refl _) _
            have hBw : Below w.heap.size w w9 := hB.trans (hB9.mono hB.size)
            have hBwa : ∀ o, Below w.heap.size w (w9.alloc o) := fun o => hBw.alloc hBw.size _
            have HBK9 := (show Hid _ from hbk)
            clear hbk rsA roA hoA hB rs ro hsW hgW hb9 hB9 g0 g1 g2 g3 g4
            have hlen := HL.out
            go_wp2_with fail
            refine (Same_is (by rw [HBK9.out, HBK.out]; exact (good_cmpV _).refl _) (hk9.below (hm9 _)) (Rep.le (ho9.below (hm9 _)) (by omega))).mono ?_
            rintro e w10 ⟨rfl, hb10⟩
            go_wp2_with fail
            go_ret
            exact ⟨rfl, (hBwa _).trans (hb10.mono (hBwa _).size)⟩
  | false =>
    have HL : Hid ((s.fields.length : Int) = o.fields.length + 1) := H1.out.2.1 rfl
    clear H1
    go_wp2_with fail
    rw [← hO7, ← hA]
    clear hO7 hA p0 p1 p2 p3 p4 o0 o1 o2 o3 o4 zs7 zo7
    go_loopg [15, 16, 67] s.fields.length (fun gg _ _ i wr => ∃ k : Nat, k ≤ s.fields.length ∧ s.fields.length - k ≤ gg ∧ i = .int .i64 k ∧ Aside (Below A.heap.size A wr))
    case atStart => exact ⟨0, Nat.zero_le _, by omega, rfl, Below.refl _ _⟩
    case round =>
      obtain ⟨k, hk, hgg, rfl, BW⟩ := hrel
      by_cases hlt : k < s.fields.length
      · obtain ⟨hsk, hrs, hgs, hgo, hro, hsl', sf1, sf2, sf3, sfl, of1, of2, of3, ofl, rsA, roA, rgA, hsA, hoA, hgA, hB⟩ := G.out
        have hm : ∀ b, True → b < A.heap.size → True ∧ wr.heap[b]? = A.heap[b]? := fun b _ h => ⟨trivial, BW.out.block b h⟩
        obtain ⟨⟨qn, qv, ql, qf⟩, hq⟩ : ∃ e, sfs[k]? = some e := ⟨_, List.getElem?_eq_getElem (by omega)⟩
        obtain ⟨a0, a1, a2, a3, a4, a5⟩ := (sf2.move hm).fl hq
        simp only at a0 a1 a2 a3 a4 a5
        obtain ⟨al, cl, af, cf, rfl, rfl⟩ := (show Rep (fun _ => True) (3 + 1) A qv ql qf from sf3 _ (List.mem_of_getElem? hq)).slices
        have rs := (BW.out.block _ (lt_of_heap rsA)).trans rsA
        obtain ⟨_, _, _, _, s4, _⟩ := row5 rs
        have zs := lt_of_heap rs
        have zb := lt_of_cell a0
        simp only at zb
        have hq2 : s.fields[k]? = some (qn, qv) := by rw [← sf1, List.getElem?_map, hq]; rfl
        have hBx : ∀ o n, Below A.heap.size A ((wr.alloc o).drewN n) := fun o n => by
          have h : Below A.heap.size A (wr.alloc o) := BW.out.alloc BW.out.size _
          exact ⟨h.os, h.tape, h.output, h.size, h.block⟩
        have zk : (k : Int) < (s.fields.length : Int) := by omega
        by_cases hk0 : k = 0
        · subst hk0
          clear hsk hrs hgs hgo hro hsl' sf1 sf2 sf3 sfl of1 of2 of3 ofl rsA roA rgA hsA hoA hgA hB hm hq hq2 rs
          go_wp2_with fail
          go_quiet (fail)
          go_wp2_with fail
          go_roundg (s.fields.length - (0 + 1))
          case measure => omega
          case rel => exact ⟨0 + 1, by omega, by omega, by go_num, hBx _ _⟩
        · obtain ⟨m, rfl⟩ : ∃ m, k = m + 1 := ⟨k - 1, by omega⟩
          obtain ⟨⟨pn, pv, pl, pf⟩, hp⟩ : ∃ e, sfs[m]? = some e := ⟨_, List.getElem?_eq_getElem (by omega)⟩
          have b0 := ((sf2.move hm).fl hp).1
          simp only at b0
          have hp2 : s.fields[m]? = some (pn, pv) := by rw [← sf1, List.getElem?_map, hp]; rfl
          have hbl : Op.bytesLess pn.toList qn.toList = true := by
            have h1 := rises_adj m hrs hp2 hq2
            rw [bytesLess_eq]
            exact decide_eq_true h1
          have zm : (m : Int) < (s.fields.length : Int) := by omega
          clear hsk hrs hgs hgo hro hsl' sf1 sf2 sf3 sfl of1 of2 of3 ofl rsA roA rgA hsA hoA hgA hB hm hq hq2 rs hp hp2 hk0
          go_wp2_with fail
          go_quiet (fail)
          go_wp2_with fail
          go_roundg (s.fields.length - (m + 1 + 1))
          case measure => omega
          case rel => exact ⟨m + 1 + 1, by omega, by omega, by go_num, hBx _ _⟩
      · have hz : ¬ (k : Int) < (s.fields.length : Int) := by omega
        have roW := (BW.out.block _ (lt_of_heap G.out.2.2.2.2.2.2.2.2.2.2.2.2.2.2.2.1)).trans G.out.2.2.2.2.2.2.2.2.2.2.2.2.2.2.2.1
        obtain ⟨_, _, _, _, o4, _⟩ := row5 roW
        clear roW
        go_wp2_with fail
        clear o4 hz hlt hk hgg
        go_loopg [18, 19, 20, 90] o.fields.length (fun gg _ _ _ i wr => ∃ k : Nat, k ≤ o.fields.length ∧ o.fields.length - k ≤ gg ∧ i = .int .i64 k ∧ Aside (Below A.heap.size A wr))
        case atStart => exact ⟨0, Nat.zero_le _, by omega, rfl, BW.out⟩
        case round =>
          clear BW
          obtain ⟨j, hj, hgg, rfl, BW⟩ := hrel
          obtain ⟨hsk, hrs, hgs, hgo, hro, hsl', sf1, sf2, sf3, sfl, of1, of2, of3, ofl, rsA, roA, rgA, hsA, hoA, hgA, hB⟩ := G.out
          have rs := (BW.out.block _ (lt_of_heap rsA)).trans rsA
          obtain ⟨s0, s1, s2, s3, s4, _⟩ := row5 rs
          have zs := lt_of_heap rs
          by_cases hlt : j < o.fields.length
          · obtain ⟨bo, co, e1, hbo, _, hco1, hco2, _⟩ := of2.cells (by omega)
            simp only [Value.slice.injEq, true_and] at e1
            obtain ⟨rfl, rfl⟩ := e1
            have hm : ∀ b, True → b < A.heap.size → True ∧ wr.heap[b]? = A.heap[b]? := fun b _ h => ⟨trivial, BW.out.block b h⟩
            obtain ⟨⟨qn, qv, ql, qf⟩, hq⟩ : ∃ e, ofs[j]? = some e := ⟨_, List.getElem?_eq_getElem (by omega)⟩
            obtain ⟨a0, a1, a2, a3, a4, a5⟩ := (of2.move hm).fl hq
            simp only at a0 a1 a2 a3 a4 a5
            have hlq : Rep (fun _ => True) 2 A qv ql qf := of3 _ (List.mem_of_getElem? hq)
            obtain ⟨al, cl, af, cf, rfl, rfl⟩ := hlq.slices
            have zb := lt_of_cell a0
            simp only at zb
            have hq2 : o.fields[j]? = some (qn, qv) := by rw [← of1, List.getElem?_map, hq]; rfl
            have hgq := get_at hro hq2
            have zk : (j : Int) < (o.fields.length : Int) := by omega
            have zco : (o.fields.length : Int) ≤ c2 := by omega
            have hsW := hsA.below BW.out
            have hqW : Lies 2 wr qv _ _ := Rep.below BW.out hlq
            have hn : ∀ o, Below wr.heap.size wr (wr.alloc o) := fun o => (Below.refl _ _).alloc (Nat.le_refl _) _
            by_cases hqn : cmpT qn nm = 0
            · have e := cmpT_eq hqn
              subst e
              clear hsk hrs hgs hgo hro hsl' sf1 sf2 sf3 sfl of1 of2 of3 ofl rsA roA rgA hsA hoA hgA hB hm hq hlq hq2 hgq hqn hqW rs
              go_wp2_with fail
              refine (Get_is (g := x) (B := true) HK'.out (by rw [HGS.out]; rfl) (by rw [HGS.out]; rfl) (hsW.below (hn _))).mono ?_
              rintro e w8 ⟨au1, cu1, au2, cu2, rfl, -, hb8⟩
              have rf := (hb8.block wr.heap.size (by simp)).trans (heap_alloc_new wr _)
              obtain ⟨f0, f1, f2, f3, f4, f5, _⟩ := row6 rf
              have zf := lt_of_heap rf
              have hB8 : Below A.heap.size A w8 := BW.out.trans (((hn _).trans (hb8.mono (hn _).size)).mono BW.out.size)
              have HB8 := (show Hid (∀ o, Below A.heap.size A (w8.alloc o)) from fun o => hB8.alloc hB8.size _)
              clear rf hb8 hB8 s0 s1 s2 s3 s4 a0 a1 a2 a3 a4 a5
              go_wp2_with fail
              go_roundg (o.fields.length - (j + 1))
              case measure => omega
              case rel => exact ⟨j + 1, by omega, by omega, by go_num, HB8.out _⟩
            · have hne : (qn.toList == nm.toList) = false := by rw [beq_cmpT]; exact decide_eq_false hqn
              have hgq' : Hid (getF qn s.fields = some qv) := (hgo qn hqn).trans hgq
              clear hsk hrs hgs hgo hro hsl' sf1 sf2 sf3 sfl of1 of2 of3 ofl rsA roA rgA hsA hoA hgA hB hm hq hlq hq2 hgq hqn rs
              go_wp2_with fail
              refine (Get_is (g := qv) (B := true) HK'.out (by rw [hgq'.out]; rfl) (by rw [hgq'.out]; rfl) (hsW.below (hn _))).mono ?_
              rintro e w8 ⟨au1, cu1, au2, cu2, rfl, hu8, hb8⟩
              have rf := (hb8.block wr.heap.size (by simp)).trans (heap_alloc_new wr _)
              obtain ⟨f0, f1, f2, f3, f4, f5, _⟩ := row6 rf
              have zf := lt_of_heap rf
              have hn8 := (hn (.cells #[.string qn, .int .i64 qv.kind, .int .i64 qv.num, .string qv.text, .slice al qv.list.length cl, .slice af qv.fields.length cf] 35)).trans (hb8.mono (hn _).size)
              have hq8 := hqW.below hn8
              have hB8 : Below A.heap.size A w8 := BW.out.trans (hn8.mono BW.out.size)
              have hB8a : ∀ o, Below A.heap.size A (w8.alloc o) := fun o => hB8.alloc hB8.size _
              have hm8 : ∀ o, Below w8.heap.size w8 (w8.alloc o) := fun o => (Below.refl _ _).alloc (Nat.le_refl _) _
              clear rf hb8 hn8 hB8 hqW s0 s1 s2 s3 s4 a0 a1 a2 a3 a4 a5
              go_wp2_with fail
              refine (same_refl (hu8.below (hm8 _)) (Rep.le (hq8.below (hm8 _)) (by omega))).mono ?_
              rintro e w9 ⟨rfl, hb9⟩
              have HB9 := (show Hid _ from (hB8a _).trans (hb9.mono (hB8a _).size))
              clear hb9 hB8a hm8 hu8 hq8 f0 f1 f2 f3 f4 f5
              go_wp2_with fail
              go_roundg (o.fields.length - (j + 1))
              case measure => omega
              case rel => exact ⟨j + 1, by omega, by omega, by go_num, HB9.out⟩
          · have hz : ¬ (j : Int) < (o.fields.length : Int) := by omega
            have rg := (BW.out.block _ (lt_of_heap rgA)).trans rgA
            obtain ⟨g0, g1, g2, g3, g4, _⟩ := row5 rg
            have zg := lt_of_heap rg
            have hsW := hsA.below BW.out
            have hgW := hgA.below BW.out
            clear hsk hrs hgs hgo hro hsl' sf1 sf2 sf3 sfl of1 of2 of3 ofl rsA roA rgA hsA hoA hgA hB rg rs
            go_wp2_with fail
            obtain ⟨bk, hbk⟩ : ∃ bk, bk = setV nm g s := ⟨_, rfl⟩
            refine (Set_is hbk HK'.out HRS.out (by omega) hsW (Rep.le hgW (by omega))).mono ?_
            rintro e w9 ⟨ab1, cb1, ab2, cb2, rfl, hk9, hb9⟩
            have hB9 : Below A.heap.size A w9 := BW.out.trans (hb9.mono BW.out.size)
            obtain ⟨-, -, -, -, -, -, -, -, -, -, -, -, -, -, rsA, roA, -, -, hoA, -, hB⟩ := G.out
            have rs := (hB9.block _ (lt_of_heap rsA)).trans rsA
            have ro := (hB9.block _ (lt_of_heap roA)).trans roA
            clear s0 s1 s2 s3 s4 zs
            obtain ⟨s0, s1, s2, s3, s4, _⟩ := row5 rs
            obtain ⟨o0, o1, o2, o3, o4, _⟩ := row5 ro
            have zs := lt_of_heap rs
            have zo := lt_of_heap ro
            have ho9 := hoA.below hB9
            have hm9 : ∀ o, Below w9.heap.size w9 (w9.alloc o) := fun o => (Below.refl _ _).alloc (Nat.le_refl _) _
            have hBw : Below w.heap.size w w9 := hB.trans (hB9.mono hB.size)
            have hBwa : ∀ o, Below w.heap.size w (w9.alloc o) := fun o => hBw.alloc hBw.size _
            have HBK9 := (show Hid _ from hbk)
            clear hbk rsA roA hoA hB rs ro hsW hgW hb9 hB9 g0 g1 g2 g3 g4
            have hlen := HL.out
            go_wp2_with fail
            go_ret
            exact ⟨rfl, hBwa _⟩
end Go.Proofs.YtheijncppmndoaaDoor
