/-
  package path's Put by its contract. Conditions: as stated (parts of at most 2^40 bytes; names rise, and there is room for one more field).
-/
import Derived.Test.YtgcccihnlecpnaaGreatDoorPMake
import Derived.Test.YtgcccihnlecpnaaGreatDoorPFind2
namespace Go.Proofs.YtgcccihnlecpnaaGreatDoor
open Go.RowKit

theorem Flt.set5 {c : Int} {w : World} {v : Value} {B T : Nat} {cs : Array Value} (h : Flt c w v) (hB : w.heap[B]? = some (.cells cs T (0, 0))) (hT : T ≠ 91) (i0 i1 i2 i3 i4 : Nat) (a0 a1 a2 a3 a4 : Value) : Flt c (set5W w B i0 i1 i2 i3 i4 a0 a1 a2 a3 a4) v := by
  obtain ⟨ps, h⟩ := h
  refine ⟨ps, h.kept fun b cs' hb => set5W_ne _ _ _ _ _ _ _ _ _ _ _ _ fun e => ?_⟩
  rw [e, hB] at hb
  cases hb
  exact hT rfl

/-- what Put tells. -/
def PutAns (w' : World) : Option V → Ending → Prop
  | none, e => ∃ u z, e = .returned (.tuple #[.agg #[.int .i64 0, .int .i64 0, .string ⟨#[]⟩, .slice none 0 0, .slice none 0 0], .iface u z]) ∧ Flt 6 w' (.iface u z)
  | some y, e => ∃ l' f' m, e = .returned (.tuple #[.agg #[.int .i64 y.kind, .int .i64 y.num, .string y.text, l', f'], .nilIface]) ∧ Lies m w' y l' f'

set_option maxRecDepth 100000 in
set_option maxHeartbeats 4000000 in
theorem Put6_any (n m N : Nat) (ps : List ByteArray) (s : Value) (v x : V) (l f xl xf : Value) (w : World) (hE : PEnv w) (hp : ∀ p ∈ ps, p.size ≤ 1099511627776) (hpl : ps.length ≤ 1000000) (hs : StrsAt w s ps) (h : Lies n w v l f) (hx : Lies m w x xl xf) (hfit : Fit N ps.length v) (hN : N < 1000000) :
    Calls Tryz.prog 13 #[.agg #[.int .i64 v.kind, .int .i64 v.num, .string v.text, l, f], s, .agg #[.int .i64 x.kind, .int .i64 x.num, .string x.text, xl, xf]] w fun e w' => Below w.heap.size w w' ∧ PutAns w' (putP v ps x) e := by
  obtain ⟨O1, hO1⟩ : ∃ O, O = Obj.cells #[.int .i64 v.kind, .int .i64 v.num, .string v.text, l, f] 28 := ⟨_, rfl⟩
  obtain ⟨O2, hO2⟩ : ∃ O, O = Obj.cells #[.int .i64 x.kind, .int .i64 x.num, .string x.text, xl, xf] 28 := ⟨_, rfl⟩
  obtain ⟨O3, hO3⟩ : ∃ O, O = Obj.cells #[.int .i64 0, .int .i64 0, .string ⟨#[]⟩, .slice none 0 0, .slice none 0 0] 28 := ⟨_, rfl⟩
  obtain ⟨W3, hW3⟩ : ∃ W, W = ((w.alloc O1).alloc O2).alloc O3 := ⟨_, rfl⟩
  have hB3 : Below w.heap.size w W3 := by rw [hW3]; exact (((Below.refl _ _).alloc (Nat.le_refl _) _).alloc (by simp) _).alloc (by simp; omega) _
  have r1 : W3.heap[w.heap.size + 1]? = some O2 := by rw [hW3]; exact heap_alloc3_1
  have r2 : W3.heap[w.heap.size + 1 + 1]? = some O3 := by rw [hW3]; exact heap_alloc3_2
  have hsz3 : W3.heap.size = w.heap.size + 3 := by rw [hW3]; simp
  have htw := twinValueO_any n v l f W3 (h.below hB3)
  have hE3 := hE.below hB3
  have hx3 := hx.below hB3
  have hs3 := hs.below hB3
  rw [hO2] at r1
  rw [hO3] at r2
  obtain ⟨a1, c1, a3, c3, rfl, rfl⟩ := h.slices
  obtain ⟨a5, c5, a7, c7, rfl, rfl⟩ := hx.slices
  obtain ⟨a, cap, rfl, hc1, hc2, hcells⟩ := hs3
  have HH := (show Hid _ from And.intro hB3 (And.intro r1 (And.intro r2 (And.intro hsz3 (And.intro hE3 hx3)))))
  rw [hO1, hO2, hO3] at hW3
  clear hB3 r1 r2 hsz3 hE3 hx3 hE h hx hs hO1 hO2 hO3
  go_enter Tryz.func13, Tryz.ntmps13
  go_wp2_with fail
  try rw [← hW3]
  refine htw.mono ?_
  rintro e w1 ⟨l', f', rfl, hown, hb1⟩
  obtain ⟨al', cl', af', cf', rfl, rfl⟩ := hown.slices
  obtain ⟨hB3, r1, r2, hsz3, hE3, hx3⟩ := HH.out
  have hsp : Spot W3.heap.size w1.heap.size (w1.alloc (.cells #[.int .i64 v.kind, .int .i64 v.num, .string v.text, .slice al' v.list.length cl', .slice af' v.fields.length cf'] 28)) w1.heap.size 0 v (.slice al' v.list.length cl') (.slice af' v.fields.length cf') (fun x => x) := by
    refine spot_new (t := 28) (heap_alloc_new w1 _) (hown.move (ok' := Btw W3.heap.size w1.heap.size) (fun b hb => hb) fun b hb hl => Below.heap_alloc w1 _ b hl) (fun b hb => ⟨by have := hb.2; omega, hb.1, by have := hb.2; simp; omega⟩) hb1.size
  have hBa : Below W3.heap.size W3 (w1.alloc (.cells #[.int .i64 v.kind, .int .i64 v.num, .string v.text, .slice al' v.list.length cl', .slice af' v.fields.length cf'] 28)) := hb1.alloc hb1.size _
  have S := (show Aside _ from And.intro hBa hsp)
  clear hown hb1 hsp hBa htw hB3 r1 r2 hsz3 hE3 hx3
  go_wp2
  go_loopg [9, 10, 11, 16] ps.length (fun gg sp _ _ i wr => ∃ (k B O : Nat) (u : V) (ul uf : Value) (F : V → V), k ≤ ps.length ∧ ps.length - k ≤ gg ∧ i = .int .i64 k ∧ sp = .pointer (some ⟨B, O, none⟩) ∧ Aside (Below W3.heap.size W3 wr ∧ Spot W3.heap.size w1.heap.size wr B O u ul uf F ∧ Fit N (ps.length - k) u ∧ putP v ps x = (putP u (ps.drop k) x).map F))
  case atStart => 
    obtain ⟨hBa, hsp⟩ := S.out
    exact ⟨0, w1.heap.size, 0, v, _, _, fun x => x, Nat.zero_le _, by omega, rfl, rfl, hBa, hsp, hfit, by rw [List.drop_zero]; cases putP v ps x <;> rfl⟩
  case round =>
    obtain ⟨k, B, O, u, ul, uf, F, hk, hgg, rfl, rfl, Rr⟩ := hrel
    by_cases hlt : k < ps.length
    · obtain ⟨hB, ⟨n', ok, keep, hsw⟩, hF, hP⟩ := Rr.out
      obtain ⟨hB3, r1, r2, hsz3, hE3, hx3⟩ := HH.out
      obtain ⟨p, hpk⟩ : ∃ p, ps[k]? = some p := ⟨_, List.getElem?_eq_getElem hlt⟩
      have hdrop : ps.drop k = p :: ps.drop (k + 1) := by
        rw [List.drop_eq_getElem_cons hlt, ← (List.getElem?_eq_some_iff.1 hpk).2]
      obtain ⟨ab, ao, rfl, hcell⟩ := hcells (fun e => by rw [e] at hlt; simp at hlt)
      have c0 := hcell k p hpk
      have c0' : wr.cell? ⟨ab, ao + k, none⟩ = some (.string p) := (hB.cell (lt_of_cell c0)).trans c0
      have zk : (k : Int) < (ps.length : Int) := by omega
      rw [show ps.length - k = (ps.length - (k + 1)) + 1 by omega] at hF
      have hcall := make6_any W3 w1.heap.size (ps.length - (k + 1)) N B O u ul uf F p wr hE3 hB (hp p (List.mem_of_getElem? hpk)) hsw hF hN
      rw [hdrop] at hP
      clear hcell hcells c0 S hsw hB3 r1 r2 hsz3 hE3 hx3 hB hF
      go_wp2_with fail
      refine hcall.mono ?_
      rintro e w2 ⟨hb2, hm⟩
      rcases hm with ⟨rfl, hno⟩ | ⟨C, o', y, yl, yf, G, rfl, hsp, hfy, hput⟩
      · rw [hno] at hP
        have hPn : putP v ps x = none := hP
        obtain ⟨hB3, r1, r2, hsz3, hE3, hx3⟩ := HH.out
        have hw := wrong_any k (by omega) w2 (hE3.below hb2)
        clear hcall hP hno hB3 r1 r2 hsz3 hE3 hx3
        go_wp2_with fail
        refine hw.mono ?_
        rintro e w4 ⟨ue, ze, rfl, hflt, hb4⟩
        obtain ⟨hB3, r1, r2, hsz3, hE3, hx3⟩ := HH.out
        have hb24 := hb2.trans (hb4.mono hb2.size)
        have q2 := (hb24.block _ (lt_of_heap r2)).trans r2
        obtain ⟨o0, o1, o2, o3, o4, of⟩ := row5 q2
        have hB4 := hB3.trans (hb24.mono hB3.size)
        have T := (show Hid _ from And.intro hflt (And.intro hB4 q2))
        clear hw hflt hb4 hb24 q2 hB4 hB3 r1 r2 hsz3 hE3 hx3 hb2
        go_wp2
        refine bodyPost_ret (v := .tuple #[.agg #[.int .i64 0, .int .i64 0, .string ⟨#[]⟩, .slice none 0 0, .slice none 0 0], .iface ue ze]) (by simp [results, Tryz.results13, go_sem, o0, o1, o2, o3, o4]) rfl ?_
        obtain ⟨hflt, hB4, q2⟩ := T.out
        rw [hPn]
        exact ⟨set5W_below hB4 (Nat.le_add_right _ 2) 0 1 2 3 4 _ _ _ _ _, ue, ze, rfl, hflt.set5 q2 (by decide) 0 1 2 3 4 _ _ _ _ _⟩
      · have Q := (show Aside _ from And.intro hb2 (And.intro hsp (And.intro hfy (hP.trans (by rw [hput, Option.map_map])))))
        clear hcall hP hput hsp hfy hb2
        go_wp2
        go_roundg (ps.length - (k + 1))
        case measure => omega
        case rel => exact ⟨k + 1, C, o', y, yl, yf, _, by omega, by omega, by go_num, rfl, Q⟩
    · have zk : ¬ (k : Int) < (ps.length : Int) := by omega
      obtain ⟨hB, hsp, hF, hP⟩ := Rr.out
      obtain ⟨hB3, r1, r2, hsz3, hE3, hx3⟩ := HH.out
      have hd : ps.drop k = [] := List.drop_of_length_le (by omega)
      obtain ⟨y, hy⟩ : ∃ y, F x = y := ⟨_, rfl⟩
      have hPy : putP v ps x = some y := by rw [hP, hd, ← hy]; rfl
      have htx := twinValue_any m x _ _ wr (Lies.below hB hx3)
      have p1 := (hB.block _ (lt_of_heap r1)).trans r1
      obtain ⟨x0, x1, x2, x3, x4, xfz⟩ := row5 p1
      clear hcells S hP hF hB3 r1 r2 hsz3 hE3 hx3 hB p1 hsp hd
      go_wp2_with fail
      refine htx.mono ?_
      rintro e w2 ⟨lx, fx, rfl, hcp, hb2⟩
      have hrx := hcp.rep
      obtain ⟨bl, dl, bf, df, rfl, rfl⟩ := hrx.slices
      obtain ⟨hB, hsp, hF, hP⟩ := Rr.out
      obtain ⟨hB3, r1, r2, hsz3, hE3, hx3⟩ := HH.out
      have hsp2 := hsp.below hb2
      obtain ⟨n', ok, keep, hsw⟩ := hsp
      obtain ⟨n2, ok2, keep2, hsw2⟩ := hsp2
      obtain ⟨cur, t, g1, g2⟩ := hsw2.row
      have hBl : B < wr.heap.size := lt_of_heap hsw.row.choose_spec.choose_spec.1
      obtain ⟨k0, k1, k2, k3, k4, _⟩ := hsw2.at_
      have hfz := frozen_row g1
      obtain ⟨hsame, d0, d1, d2, d3, d4⟩ := write5_same g1 g2 (.int .i64 x.kind) (.int .i64 x.num) (.string x.text) (.slice bl x.list.length dl) (.slice bf x.fields.length df)
      have hne := fun (b : Nat) (hb : b ≠ B) => write5_ne w2 B O (.int .i64 x.kind) (.int .i64 x.num) (.string x.text) (.slice bl x.list.length dl) (.slice bf x.fields.length df) hb
      have hsz := write5_size w2 B O (.int .i64 x.kind) (.int .i64 x.num) (.string x.text) (.slice bl x.list.length dl) (.slice bf x.fields.length df)
      have hz5 : Below W3.heap.size W3 _ := write5_below (hB.trans (hb2.mono hB.size)) hsw2.le O (.int .i64 x.kind) (.int .i64 x.num) (.string x.text) (.slice bl x.list.length dl) (.slice bf x.fields.length df)
      generalize hW5 : write5 w2 B O (.int .i64 x.kind) (.int .i64 x.num) (.string x.text) (.slice bl x.list.length dl) (.slice bf x.fields.length df) = W5 at *
      have hrx5 : Rep (fun b => wr.heap.size ≤ b) (m + 1) W5 x _ _ := hrx.move fun b hb _ => ⟨hb, hne b (by omega)⟩
      obtain ⟨M, ly, fy, hatR⟩ := Spot.write ⟨n2, ok2, keep2, hsw2⟩ (fun b _ hb _ => hne b hb) hsame ⟨d0, d1, d2, d3, d4, hrx5.lies⟩
      rw [hy] at hatR
      obtain ⟨al5, cl5, af5, cf5, rfl, rfl⟩ := Rep.slices hatR.2.2.2.2.2
      obtain ⟨R0, R1, R2, R3, R4, _⟩ := hatR
      have q2 := (hz5.block _ (lt_of_heap r2)).trans r2
      obtain ⟨o0, o1, o2, o3, o4, of⟩ := row5 q2
      have hB5 : ∀ b, wr.heap.size ≤ b → w.heap.size + 3 ≤ b := fun b hb => by have := hB.size; omega
      have T := (show Hid _ from And.intro hsw2 (And.intro hsame (And.intro d0 (And.intro d1 (And.intro d2 (And.intro d3 (And.intro d4 (And.intro hne (And.intro hz5 (And.intro hrx5 q2))))))))))
      simp only [write5, set5W] at hW5
      clear hsw hsw2 hcp hrx hb2 hB hB3 r1 r2 hsz3 hE3 hx3 hF hP hsame d0 d1 d2 d3 d4 hne hsz hz5 hrx5 q2 htx x0 x1 x2 x3 x4 xfz
      go_wp2
      refine bodyPost_ret (v := .tuple #[.agg #[.int .i64 y.kind, .int .i64 y.num, .string y.text, .slice al5 y.list.length cl5, .slice af5 y.fields.length cf5], .nilIface]) (by simp [results, Tryz.results13, go_sem, o0, o1, o2, o3, o4]) rfl ?_
      rw [hPy]
      obtain ⟨hsw2, hsame, d0, d1, d2, d3, d4, hne, hz5, hrx5, q2⟩ := T.out
      obtain ⟨hB3, r1, r2, hsz3, hE3, hx3⟩ := HH.out
      have hle := hsw2.le
      have hleR := hsw2.leR
      have hn6 := fun (b : Nat) (hb : b ≠ w.heap.size + 1 + 1) => set5W_ne W5 (w.heap.size + 1 + 1) 0 1 2 3 4 (.int .i64 y.kind) (.int .i64 y.num) (.string y.text) (.slice al5 y.list.length cl5) (.slice af5 y.fields.length cf5) hb
      have hb6 : Below w.heap.size w (set5W W5 (w.heap.size + 1 + 1) 0 1 2 3 4 (.int .i64 y.kind) (.int .i64 y.num) (.string y.text) (.slice al5 y.list.length cl5) (.slice af5 y.fields.length cf5)) := set5W_below (hB3.trans (hz5.mono hB3.size)) (Nat.le_add_right _ 2) 0 1 2 3 4 _ _ _ _ _
      refine ⟨hb6, .slice al5 y.list.length cl5, .slice af5 y.fields.length cf5, ?_⟩
      have hBn : B ≠ w.heap.size + 1 + 1 := by omega
      have hRn : w1.heap.size ≠ w.heap.size + 1 + 1 := by omega
      have hs6 : Same5 w2 (set5W W5 (w.heap.size + 1 + 1) 0 1 2 3 4 (.int .i64 y.kind) (.int .i64 y.num) (.string y.text) (.slice al5 y.list.length cl5) (.slice af5 y.fields.length cf5)) B O := by
        obtain ⟨cur, t, a0, a1, a2, a3, a4, e1, e2, e3⟩ := hsame
        exact ⟨cur, t, a0, a1, a2, a3, a4, e1, e2, (hn6 B hBn).trans e3⟩
      obtain ⟨M6, l6, f6, ⟨-, -, -, z3, z4, hL6⟩⟩ := Spot.write ⟨n2, ok2, keep2, hsw2⟩ (fun b hb hbB hl => (hn6 b (by omega)).trans (hne b hbB)) hs6
        ⟨(cell_congr (hn6 B hBn)).trans d0, (cell_congr (hn6 B hBn)).trans d1, (cell_congr (hn6 B hBn)).trans d2, (cell_congr (hn6 B hBn)).trans d3, (cell_congr (hn6 B hBn)).trans d4, hrx5.move (ok' := fun _ => True) fun b hb _ => ⟨trivial, hn6 b (by have := hsw2.leR; have := hB5 b hb; omega)⟩⟩
      have e3 := (cell_congr (hn6 w1.heap.size hRn)).trans R3
      have e4 := (cell_congr (hn6 w1.heap.size hRn)).trans R4
      rw [z3] at e3
      rw [z4] at e4
      cases e3
      cases e4
      rw [hy] at hL6
      exact ⟨M6, rfl, hL6⟩
end Go.Proofs.YtgcccihnlecpnaaGreatDoor
