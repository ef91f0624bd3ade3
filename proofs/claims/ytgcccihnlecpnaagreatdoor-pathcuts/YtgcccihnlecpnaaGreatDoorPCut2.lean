/-
  package path's Cut by its contract. Conditions: as stated (parts of at most 2^40 bytes; names rise).
-/
import Derived.Test.YtgcccihnlecpnaaGreatDoorPCut
namespace Go.Proofs.YtgcccihnlecpnaaGreatDoor
open Go.RowKit

theorem StrsAt.take {w : World} {a : Option Addr} {cap : Nat} {ps : List ByteArray} (h : StrsAt w (.slice a ps.length cap) ps) (i : Nat) (hi : i ≤ ps.length) : StrsAt w (.slice a i cap) (ps.take i) := by
  obtain ⟨a', cap', e, h2, h3, h4⟩ := h
  simp only [Value.slice.injEq, true_and] at e
  obtain ⟨rfl, rfl⟩ := e
  have hl : (ps.take i).length = i := by rw [List.length_take]; omega
  refine ⟨a, cap, by rw [hl], by omega, h3, fun hne => ?_⟩
  obtain ⟨b, o, h5, h6⟩ := h4 fun e => hne (by rw [e]; simp)
  refine ⟨b, o, h5, fun j u hj => h6 j u ?_⟩
  rw [List.getElem?_take] at hj
  split at hj
  · exact hj
  · cases hj

/-- what Cut tells. -/
def CutAns (w' : World) (y : V) (b : Bool) (e : Ending) : Prop :=
  ∃ l' f' m, e = .returned (.tuple #[.agg #[.int .i64 y.kind, .int .i64 y.num, .string y.text, l', f'], .bool b]) ∧ Lies m w' y l' f'

set_option maxRecDepth 100000 in
set_option maxHeartbeats 4000000 in
theorem Cut6_any (n N : Nat) (ps : List ByteArray) (s : Value) (v : V) (l f : Value) (w : World) (hE : PEnv w) (hp : ∀ p ∈ ps, p.size ≤ 1099511627776) (hs : StrsAt w s ps) (h : Lies n w v l f) (hfit : Fit N ps.length v) :
    Calls Tryz.prog 15 #[.agg #[.int .i64 v.kind, .int .i64 v.num, .string v.text, l, f], s] w fun e w' => Below w.heap.size w w' ∧ CutAns w' ((cutP v ps).getD v) (cutP v ps).isSome e := by
  obtain ⟨O1, hO1⟩ : ∃ O, O = Obj.cells #[.int .i64 v.kind, .int .i64 v.num, .string v.text, l, f] 28 := ⟨_, rfl⟩
  obtain ⟨O3, hO3⟩ : ∃ O, O = Obj.cells #[.int .i64 0, .int .i64 0, .string ⟨#[]⟩, .slice none 0 0, .slice none 0 0] 28 := ⟨_, rfl⟩
  obtain ⟨W2, hW2⟩ : ∃ W, W = (w.alloc O1).alloc O3 := ⟨_, rfl⟩
  have hB2 : Below w.heap.size w W2 := by rw [hW2]; exact ((Below.refl _ _).alloc (Nat.le_refl _) _).alloc (by simp) _
  have r2 : W2.heap[w.heap.size + 1]? = some O3 := by rw [hW2]; exact heap_alloc2_new
  have hsz2 : W2.heap.size = w.heap.size + 2 := by rw [hW2]; simp
  have htw := twinValueO_any n v l f W2 (h.below hB2)
  have hE2 := hE.below hB2
  have hs2 := hs.below hB2
  rw [hO3] at r2
  obtain ⟨a1, c1, a3, c3, rfl, rfl⟩ := h.slices
  obtain ⟨a, cap, rfl, hc1, hc2, -⟩ := hs
  have HH := (show Hid _ from And.intro hB2 (And.intro r2 (And.intro hsz2 (And.intro hE2 hs2))))
  rw [hO1, hO3] at hW2
  clear hB2 r2 hsz2 hE2 hs2 hE h hO1 hO3
  go_enter Tryz.func15, Tryz.ntmps15
  go_wp2_with fail
  try rw [← hW2]
  refine htw.mono ?_
  rintro e w1 ⟨l', f', rfl, hown, hb1⟩
  obtain ⟨al', cl', af', cf', rfl, rfl⟩ := hown.slices
  obtain ⟨hB2, r2, hsz2, hE2, hs2⟩ := HH.out
  obtain ⟨W4, hW4⟩ : ∃ W, w1.alloc (.cells #[.int .i64 v.kind, .int .i64 v.num, .string v.text, .slice al' v.list.length cl', .slice af' v.fields.length cf'] 28) = W := ⟨_, rfl⟩
  have hBa : Below W2.heap.size W2 W4 := by rw [← hW4]; exact hb1.alloc hb1.size _
  have q4 : W4.heap[w1.heap.size]? = some (.cells #[.int .i64 v.kind, .int .i64 v.num, .string v.text, .slice al' v.list.length cl', .slice af' v.fields.length cf'] 28 (0, 0)) := by rw [← hW4]; exact heap_alloc_new w1 _
  have ho4 : Own (n + 1) (Btw W2.heap.size w1.heap.size) W4 v (.slice al' v.list.length cl') (.slice af' v.fields.length cf') := hown.move (fun b hb => hb) fun b hb hl => by rw [← hW4]; exact Below.heap_alloc w1 _ b hl
  have hsz4 : W4.heap.size = w1.heap.size + 1 := by rw [← hW4]; simp
  have hsp : Spot W2.heap.size w1.heap.size W4 w1.heap.size 0 v (.slice al' v.list.length cl') (.slice af' v.fields.length cf') (fun x => x) := 
    spot_new q4 ho4 (fun b hb => ⟨by have := hb.2; omega, hb.1, by have := hb.2; omega⟩) hb1.size
  obtain ⟨m0, m1, m2, m3, m4, mf⟩ := row5 q4
  have p4 := (hBa.block _ (lt_of_heap r2)).trans r2
  obtain ⟨o0, o1, o2, o3, o4, of⟩ := row5 p4
  have S := (show Hid _ from And.intro hBa (And.intro q4 (And.intro ho4 (And.intro hsz4 (And.intro hsp hb1.size)))))
  rcases List.eq_nil_or_concat ps with rfl | ⟨init, last, rfl⟩
  · clear hown hb1 hsp hBa htw hB2 r2 hsz2 hE2 hs2 q4 ho4 hsz4 p4
    go_wp2
    refine bodyPost_ret (v := .tuple #[.agg #[.int .i64 v.kind, .int .i64 v.num, .string v.text, .slice al' v.list.length cl', .slice af' v.fields.length cf'], .bool false]) (by simp [results, Tryz.results15, go_sem, o0, o1, o2, o3, o4]) rfl ?_
    obtain ⟨hBa, q4, ho4, hsz4, hsp, hz1⟩ := S.out
    obtain ⟨hB2, r2, hsz2, hE2, hs2⟩ := HH.out
    refine ⟨set5W_below (hB2.trans (hBa.mono hB2.size)) (Nat.le_succ _) 0 1 2 3 4 _ _ _ _ _, _, _, n + 1, rfl, ?_⟩
    exact ho4.rep.move fun b hb hl => ⟨trivial, set5W_ne _ _ _ _ _ _ _ _ _ _ _ _ (by have := hb.1; omega)⟩
  · simp only [List.concat_eq_append] at *
    have hln : (init ++ [last]).length = init.length + 1 := by simp
    have hlast : last.size ≤ 1099511627776 := hp last (by simp)
    have hini : ∀ p ∈ init, p.size ≤ 1099511627776 := fun p h => hp p (by simp [h])
    have hst := (hs2.below hBa).take init.length (by omega)
    rw [List.take_left' rfl] at hst
    obtain ⟨a', cap', e0, -, -, hcells⟩ := hs2
    simp only [Value.slice.injEq, true_and] at e0
    obtain ⟨rfl, rfl⟩ := e0
    obtain ⟨ab, ao, rfl, hcell⟩ := hcells (by simp)
    have cl0 := hcell init.length last (by simp)
    have hI : InvC W2.heap.size w1.heap.size N v (init ++ [last]) last init W4 w1.heap.size 0 v (.slice al' v.list.length cl') (.slice af' v.fields.length cf') := by
      refine ⟨fun x => x, hsp, by rw [hln] at hfit; exact hfit, ?_, rfl⟩
      cases cutP v (init ++ [last]) <;> rfl
    have hfind := find6_any (going_cut W2.heap.size w1.heap.size N v (init ++ [last]) last) init _ _ _ _ _ _ W4 (hE2.below hBa) hini hst hI
    have c0 : W4.cell? ⟨ab, ao + init.length, none⟩ = some (.string last) := (hBa.cell (lt_of_cell cl0)).trans cl0
    obtain ⟨L, hL⟩ : ∃ L, (init ++ [last]).length = L := ⟨_, rfl⟩
    have zl : (L : Int) - 1 = (init.length : Int) := by omega
    have zz : ((L : Int) == 0) = false := by simp; omega
    have zi : init.length ≤ cap := by omega
    have zL : (init.length : Int) < (L : Int) := by omega
    rw [hL] at hc1 ⊢
    clear hown hb1 hsp hBa htw hB2 r2 hsz2 hE2 q4 ho4 hsz4 p4 hst hcells hcell cl0 hI hfit hp hini hlast
    go_wp2_with fail
    refine hfind.mono ?_
    rintro e w2 ⟨hb2, hfnd⟩
    obtain ⟨hBa, q4, ho4, hsz4, hsp, hz1⟩ := S.out
    obtain ⟨hB2, r2, hsz2, hE2, hs2⟩ := HH.out
    have hBw2 := hBa.trans (hb2.mono hBa.size)
    have q5 := (hb2.block _ (lt_of_heap q4)).trans q4
    have p5 := (hBw2.block _ (lt_of_heap r2)).trans r2
    have c0' := (hb2.cell (lt_of_cell c0)).trans c0
    rcases hF : findP v init with _ | u
    · rw [hF] at hfnd
      obtain rfl := hfnd
      have hno := cut_no (q := last) init v hF
      obtain ⟨n0, n1, n2, n3, n4, nf⟩ := row5 q5
      obtain ⟨t0, t1, t2, t3, t4, tf⟩ := row5 p5
      have T := (show Hid _ from And.intro hb2 hBw2)
      clear hfind hF hBa q4 ho4 hsz4 hsp hz1 hB2 r2 hsz2 hE2 hs2 hBw2 q5 p5 hb2 m0 m1 m2 m3 m4 mf o0 o1 o2 o3 o4 of
      go_wp2
      refine bodyPost_ret (v := .tuple #[.agg #[.int .i64 v.kind, .int .i64 v.num, .string v.text, .slice al' v.list.length cl', .slice af' v.fields.length cf'], .bool false]) (by simp [results, Tryz.results15, go_sem, t0, t1, t2, t3, t4]) rfl ?_
      obtain ⟨hb2, hBw2⟩ := T.out
      obtain ⟨hBa, q4, ho4, hsz4, hsp, hz1⟩ := S.out
      obtain ⟨hB2, r2, hsz2, hE2, hs2⟩ := HH.out
      rw [List.concat_eq_append, hno]
      refine ⟨set5W_below (hB2.trans (hBw2.mono hB2.size)) (Nat.le_succ _) 0 1 2 3 4 _ _ _ _ _, .slice al' v.list.length cl', .slice af' v.fields.length cf', n + 1, rfl, ?_⟩
      exact ho4.rep.move fun b hb hl => ⟨trivial, (set5W_ne _ _ _ _ _ _ _ _ _ _ _ _ (by have := hb.1; omega)).trans (hb2.block b hl)⟩
    · rw [hF] at hfnd
      obtain ⟨B, o, ul, uf, rfl, F, ⟨n', ok, keep, hsw⟩, hfit2, hcut, hFu⟩ := hfnd
      obtain ⟨cur, t, g1, g2⟩ := hsw.row
      obtain ⟨k0, k1, k2, k3, k4, hLu⟩ := hsw.at_
      have hfz := frozen_row g1
      have hdel := fun W (hW : Below w2.heap.size w2 W) => Del_u (nm := last) (Lies.below hW hLu)
      obtain ⟨bl, dl, bf, df, rfl, rfl⟩ := Rep.slices hLu
      have hBl : B < w2.heap.size := lt_of_heap g1
      have T := (show Hid _ from And.intro hb2 (And.intro hBw2 (And.intro hsw (And.intro hcut (And.intro hFu (And.intro g1 (And.intro g2 (And.intro q5 p5))))))))
      have hdw : Below w2.heap.size w2 w2.drew := (Below.refl _ _).drew
      have hfin : (cutP v (init.concat last)).getD v = F (cutD last u) ∧ (cutP v (init.concat last)).isSome = hasD last u := by
        rw [List.concat_eq_append, hcut, List.nil_append, cutP_one]
        by_cases hh : hasD last u = true
        · rw [if_pos hh, hh]; exact ⟨rfl, rfl⟩
        · have hh' : hasD last u = false := by simpa using hh
          rw [if_neg hh, hh']
          refine ⟨?_, rfl⟩
          unfold cutD
          rw [hh']
          exact hFu.symm
      obtain ⟨D, hD⟩ : ∃ D, cutD last u = D := ⟨_, rfl⟩
      obtain ⟨bb, hbb⟩ : ∃ b, hasD last u = b := ⟨_, rfl⟩
      obtain ⟨y, hy⟩ : ∃ y, F D = y := ⟨_, rfl⟩
      simp only [hD, hbb] at hdel
      rw [hD, hbb, hy] at hfin
      have HF := (show Hid _ from And.intro hfin hy)
      clear hfin hy hD hbb
      clear hfind hF hBa q4 ho4 hsz4 hsp hz1 hB2 r2 hsz2 hE2 hs2 hBw2 q5 p5 hb2 m0 m1 m2 m3 m4 mf o0 o1 o2 o3 o4 of hsw hcut hFu g1 hLu hfit2
      go_wp2_with fail
      go_region_with (go_at_call 25; refine (hdel _ hdw).mono ?_; rintro e w3 ⟨l3, f3, rfl, hrep3, hb3⟩; obtain ⟨bl3, dl3, bf3, df3, rfl, rfl⟩ := hrep3.slices; have hb3' := hdw.trans (hb3.mono hdw.size); obtain ⟨hb2, hBw2, hsw, hcut, hFu, g1, g2, q5, p5⟩ := T.out; have hsw3 := hsw.below hb3'; obtain ⟨j0, j1, j2, j3, j4, -⟩ := hsw3.at_; have g3 := (hb3'.block B hBl).trans g1; have hfz3 := frozen_row g3; have U := (show Hid _ from And.intro hrep3 (And.intro hb3' (And.intro hsw3 g3))); clear hrep3 hb3 hb3' hsw3 g3 hb2 hBw2 hsw hcut hFu g1 g2 q5 p5)
      all_goals
        obtain ⟨hrep3, hb3', hsw3, g3⟩ := U.out
        obtain ⟨hb2, hBw2, hsw, hcut, hFu, g1, g2, q5, p5⟩ := T.out
        obtain ⟨hfin, hy⟩ := HF.out
        obtain ⟨hsame, d0, d1, d2, d3, d4⟩ := write5_same g3 g2 (.int .i64 D.kind) (.int .i64 D.num) (.string D.text) (.slice bl3 D.list.length dl3) (.slice bf3 D.fields.length df3)
        have hne := fun (b : Nat) (hb : b ≠ B) => write5_ne w3 B o (.int .i64 D.kind) (.int .i64 D.num) (.string D.text) (.slice bl3 D.list.length dl3) (.slice bf3 D.fields.length df3) hb
        have hz5 : Below W2.heap.size W2 _ := write5_below (hBw2.trans (hb3'.mono hBw2.size)) hsw3.le o (.int .i64 D.kind) (.int .i64 D.num) (.string D.text) (.slice bl3 D.list.length dl3) (.slice bf3 D.fields.length df3)
        generalize hW5 : write5 w3 B o (.int .i64 D.kind) (.int .i64 D.num) (.string D.text) (.slice bl3 D.list.length dl3) (.slice bf3 D.fields.length df3) = W5 at *
        have hrx5 : Rep (fun b => w2.heap.size ≤ b) _ W5 D _ _ := hrep3.move fun b hb _ => ⟨by have := hdw.size; omega, hne b (by have := hdw.size; omega)⟩
        obtain ⟨M, ly, fy, hatR⟩ := Spot.write ⟨n', ok, keep, hsw3⟩ (fun b _ hb _ => hne b hb) hsame ⟨d0, d1, d2, d3, d4, hrx5.lies⟩
        rw [hy] at hatR
        obtain ⟨al5, cl5, af5, cf5, rfl, rfl⟩ := Rep.slices hatR.2.2.2.2.2
        obtain ⟨R0, R1, R2, R3, R4, _⟩ := hatR
        obtain ⟨hB2, r2, hsz2, hE2, hs2⟩ := HH.out
        have q6 := (hz5.block _ (lt_of_heap r2)).trans r2
        obtain ⟨t0, t1, t2, t3, t4, tf⟩ := row5 q6
        have V5 := (show Hid _ from And.intro hsame (And.intro d0 (And.intro d1 (And.intro d2 (And.intro d3 (And.intro d4 (And.intro hne (And.intro hz5 hrx5))))))))
        simp only [write5, set5W] at hW5
        clear hrep3 hb3' hsw3 g3 hb2 hBw2 hsw hcut hFu g1 g2 q5 p5 hfin hy hsame d0 d1 d2 d3 d4 hne hz5 hrx5 hB2 r2 hsz2 hE2 hs2 q6 j0 j1 j2 j3 j4 k0 k1 k2 k3 k4
        go_wp2
        refine bodyPost_ret (v := .tuple #[.agg #[.int .i64 y.kind, .int .i64 y.num, .string y.text, .slice al5 y.list.length cl5, .slice af5 y.fields.length cf5], .bool bb]) (by simp [results, Tryz.results15, go_sem, t0, t1, t2, t3, t4]) rfl ?_
        obtain ⟨hrep3, hb3', hsw3, g3⟩ := U.out
        obtain ⟨hfin, hy⟩ := HF.out
        obtain ⟨hB2, r2, hsz2, hE2, hs2⟩ := HH.out
        obtain ⟨hsame, d0, d1, d2, d3, d4, hne, hz5, hrx5⟩ := V5.out
        rw [hfin.1, hfin.2]
        have hle := hsw3.le
        have hleR := hsw3.leR
        have hw2z := T.out.2.1.size
        have hn6 := fun (b : Nat) (hb : b ≠ w.heap.size + 1) => set5W_ne W5 (w.heap.size + 1) 0 1 2 3 4 (.int .i64 y.kind) (.int .i64 y.num) (.string y.text) (.slice al5 y.list.length cl5) (.slice af5 y.fields.length cf5) hb
        have hb6 : Below w.heap.size w (set5W W5 (w.heap.size + 1) 0 1 2 3 4 (.int .i64 y.kind) (.int .i64 y.num) (.string y.text) (.slice al5 y.list.length cl5) (.slice af5 y.fields.length cf5)) := set5W_below (hB2.trans (hz5.mono hB2.size)) (Nat.le_succ _) 0 1 2 3 4 _ _ _ _ _
        refine ⟨hb6, .slice al5 y.list.length cl5, .slice af5 y.fields.length cf5, ?_⟩
        have hBn : B ≠ w.heap.size + 1 := by omega
        have hRn : w1.heap.size ≠ w.heap.size + 1 := by omega
        have hs6 : Same5 w3 (set5W W5 (w.heap.size + 1) 0 1 2 3 4 (.int .i64 y.kind) (.int .i64 y.num) (.string y.text) (.slice al5 y.list.length cl5) (.slice af5 y.fields.length cf5)) B o := by
          obtain ⟨cur, t, a0, a1, a2, a3, a4, e1, e2, e3⟩ := hsame
          exact ⟨cur, t, a0, a1, a2, a3, a4, e1, e2, (hn6 B hBn).trans e3⟩
        obtain ⟨M6, l6, f6, ⟨-, -, -, z3, z4, hL6⟩⟩ := Spot.write ⟨n', ok, keep, hsw3⟩ (fun b hb hbB hl => (hn6 b (by omega)).trans (hne b hbB)) hs6
          ⟨(cell_congr (hn6 B hBn)).trans d0, (cell_congr (hn6 B hBn)).trans d1, (cell_congr (hn6 B hBn)).trans d2, (cell_congr (hn6 B hBn)).trans d3, (cell_congr (hn6 B hBn)).trans d4, hrx5.move (ok' := fun _ => True) fun b hb _ => ⟨trivial, hn6 b (by omega)⟩⟩
        have e3 := (cell_congr (hn6 w1.heap.size hRn)).trans R3
        have e4 := (cell_congr (hn6 w1.heap.size hRn)).trans R4
        rw [z3] at e3
        rw [z4] at e4
        cases e3
        cases e4
        rw [hy] at hL6
        exact ⟨M6, rfl, hL6⟩
end Go.Proofs.YtgcccihnlecpnaaGreatDoor
