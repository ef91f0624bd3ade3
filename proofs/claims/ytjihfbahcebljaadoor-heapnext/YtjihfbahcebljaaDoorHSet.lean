/-
  A heap's Set and Delete by their contracts. Conditions: as stated.
-/
import Derived.Test.YtjihfbahcebljaaDoorHIns
import Derived.Test.YtjihfbahcebljaaDoorHDel
namespace Go.Proofs.YtjihfbahcebljaaDoor
open Go.RowKit

theorem six_set {A C : List Value} {x0 x1 x2 x3 x4 x5 y1 y2 y3 y4 y5 : Value} {n : Nat} (h : A.length = n) : (((((A ++ [x0, x1, x2, x3, x4, x5] ++ C).set (n + 1) y1).set (n + 2) y2).set (n + 3) y3).set (n + 4) y4).set (n + 5) y5 = A ++ [x0, y1, y2, y3, y4, y5] ++ C := by
  subst h
  simp
theorem encDs_five {ds : List Dl} {j : Nat} {e : Dl} (h : ds[j]? = some e) (v : V) (l f : Value) :
    ((((((encDs ds).set (j * 6 + 1) (.int .i64 v.kind)).set (j * 6 + 2) (.int .i64 v.num)).set (j * 6 + 3) (.string v.text)).set (j * 6 + 4) l).set (j * 6 + 5) f) = encDs (ds.set j ⟨e.id, v, l, f⟩) := by
  have hj := (List.getElem?_eq_some_iff.1 h).1
  have e1 : encDs ds = encDs (ds.take j) ++ e.enc ++ encDs (ds.drop (j + 1)) := by
    have h5 : ds = ds.take j ++ e :: ds.drop (j + 1) := by
      have h6 := List.drop_eq_getElem_cons hj
      have h7 : ds[j] = e := by rw [List.getElem?_eq_getElem hj] at h; exact Option.some.inj h
      rw [h7] at h6
      rw [← h6, List.take_append_drop]
    have h8 : encDs ds = encDs (ds.take j ++ e :: ds.drop (j + 1)) := congrArg encDs h5
    rw [h8, encDs_append]
    simp [encDs]
  rw [e1, encDs_set ds j e _ h]
  exact six_set (by rw [encDs_length, List.length_take]; congr 1; omega)

section
variable {base B : Nat} {rs : List Rec} {last lo : Int}
theorem Set_none (k : Int) (v : V) (l f : Value) (w : World) (h : HeapAt base w B rs last) (hr : RisesR lo rs) (hn : rs.length ≤ 1000000) (hs : ∃ a1 n1 c1 a2 n2 c2, l = .slice a1 n1 c1 ∧ f = .slice a2 n2 c2) (hg : getR k rs = none) :
    Calls Tryd.prog 15 #[.pointer (some ⟨B, 0, none⟩), .int .i64 k, .agg #[.int .i64 v.kind, .int .i64 v.num, .string v.text, l, f]] w fun e w' => e = .returned (.bool false) ∧ Below w.heap.size w w' := by
  obtain ⟨a1, n1, c1, a2, n2, c2, rfl, rfl⟩ := hs
  have hpl := fun W (hW : Below w.heap.size w W) => placeH_any k W (h.below hW) hr hn
  rw [hg] at hpl
  clear h hr hn
  go_enter Tryd.func15, Tryd.ntmps15
  go_wp2_with fail
  refine (hpl _ ((Below.refl _ _).alloc (Nat.le_refl _) _)).mono ?_
  rintro e w1 ⟨rfl, hb1⟩
  have hB : Below w.heap.size w w1 := ((Below.refl _ _).alloc (Nat.le_refl _) _).trans (hb1.mono (by simp))
  clear hpl hb1
  go_wp2
  go_ret
  exact ⟨rfl, hB⟩

attribute [local go_sem ↓] Go.wp_at_zero Go.wp_at_succ
set_option maxRecDepth 100000 in
set_option maxHeartbeats 8000000 in
theorem Set_some (k : Int) (v : V) (l f : Value) (w : World) (h : HeapAt base w B rs last) (hv : Lies 3 w v l f) (hr : RisesR lo rs) (hn : rs.length ≤ 1000000) (hbase : base ≤ w.heap.size) (hg : (getR k rs).isSome = true) :
    Calls Tryd.prog 15 #[.pointer (some ⟨B, 0, none⟩), .int .i64 k, .agg #[.int .i64 v.kind, .int .i64 v.num, .string v.text, l, f]] w
      fun e w' => e = .returned (.bool true) ∧ HeapAt base w' B (setR k v rs) last ∧ Kept w w' ∧ Below base w w' := by
  have hpl := fun W (hW : Below w.heap.size w W) => placeH_any k W (h.below hW) hr hn
  rw [hg] at hpl
  obtain ⟨y, hy⟩ := Option.isSome_iff_exists.1 hg
  have hx := (ahead_at k rs hr).1 y hy
  have hset := set_split (v := v) rs hr hg
  obtain ⟨j, hjd⟩ : ∃ j, aheadR k rs = j := ⟨_, rfl⟩
  rw [hjd] at hpl hx hset
  have hj := (List.getElem?_eq_some_iff.1 hx).1
  have zj : (j : Int) < (rs.length : Int) := by omega
  obtain ⟨al, cl, af, cf, rfl, rfl⟩ := hv.slices
  have HH : Hid (HeapAt base w B rs last) := h
  have HV := (show Hid _ from And.intro hv (And.intro hx hset))
  clear h hr hg hy hx hset hjd hv
  go_enter Tryd.func15, Tryd.ntmps15
  go_wp2_with fail
  refine (hpl _ ((Below.refl _ _).alloc (Nat.le_refl _) _)).mono ?_
  rintro e w1 ⟨rfl, hb1⟩
  have hB : Below w.heap.size w w1 := ((Below.refl _ _).alloc (Nat.le_refl _) _).trans (hb1.mono (by simp))
  have r1 := row_below hb1 (heap_alloc_new w _)
  have hh1 : HeapAt base w1 B rs last := HeapAt.below HH.out hB
  obtain ⟨D, c, al0, cl0, af0, cf0, c0, hD, hbD, hc1, hc2, a0, a1, a2, a3, a4, a5, hli⟩ := hh1.at HV.out.2.1 hn
  obtain ⟨q0, q1, q2, q3, q4, qf⟩ := row5 r1
  have hlt1 : w.heap.size < w1.heap.size := lt_of_heap r1
  have hv1 : Lies 3 w1.drew v (.slice al v.list.length cl) (.slice af v.fields.length cf) := Lies.below hB HV.out.1
  have htw := twinValue_any 3 v _ _ w1.drew hv1
  have df : ∀ i, w1.frozen? ⟨D, i, none⟩ = false := by
    obtain ⟨_, s, ds, h1, h2, h3, h4⟩ := hh1
    have hl : ds.length = rs.length := by rw [← h1, List.length_map]
    obtain ⟨D', c', cur, e, _, hgg, _⟩ := cells_of_row h3 (by omega)
    have := c0
    simp [World.cell?, h2, e] at this
    intro i
    rw [← this.1]
    simp [World.frozen?, hgg]
  have H1 := (show Hid _ from And.intro hB (And.intro hh1 (And.intro hD c0)))
  have hBw := hh1.lt
  clear hpl hb1 r1 hh1 hli hv1 hB a0
  simp only at a1 a2 a3 a4 a5
  go_wp2
  have P0 := fun (w' : World) (h : Below w1.heap.size w1 w') => (h.cell (lt_of_cell c0)).trans c0
  have Q0 := fun (w' : World) (h : Below w1.heap.size w1 w') => (h.cell (lt_of_cell q0)).trans q0
  have Q1 := fun (w' : World) (h : Below w1.heap.size w1 w') => (h.cell (lt_of_cell q1)).trans q1
  have Q2 := fun (w' : World) (h : Below w1.heap.size w1 w') => (h.cell (lt_of_cell q2)).trans q2
  have Q3 := fun (w' : World) (h : Below w1.heap.size w1 w') => (h.cell (lt_of_cell q3)).trans q3
  have Q4 := fun (w' : World) (h : Below w1.heap.size w1 w') => (h.cell (lt_of_cell q4)).trans q4
  have A := (show Hid _ from And.intro a1 (And.intro a2 (And.intro a3 (And.intro a4 (And.intro a5 df)))))
  clear q0 q1 q2 q3 q4 qf c0 a1 a2 a3 a4 a5 df
  have h0 : (fun w' : World => Below w1.heap.size w1 w') w1.drew := (Below.refl _ _).drew
  refine wp_region_snoc_held2 (S := fun w' => Below w1.heap.size w1 w') (head := #[_, _, _, _, _, _, _, _, _]) (last := ⟨_, _, _, _, _, _⟩) mixed (by kernel_rfl) rfl ?_
  refine wpAnyH_take (i := 0) (oi := ⟨_, _, _, _, _, _⟩) (v := ?v0) rfl (by kernel_rfl) (by kernel_rfl) (by kernel_rfl) (fun _ _ _ h => h) (Or.inl ⟨by rfl, ?hy0⟩) h0 ?rest0
  case hy0 => (intro w hSw; (try dsimp only at hSw); go_simp; try with_reducible rfl)
  simp only [Act.put, List.setIfInBounds_toArray, List.set_cons_zero, List.set_cons_succ]
  refine wpAnyH_take (i := 1) (oi := ⟨_, _, _, _, _, _⟩) (v := ?v1) rfl (by kernel_rfl) (by kernel_rfl) (by kernel_rfl) (fun _ _ _ h => h) (Or.inl ⟨by rfl, ?hy1⟩) h0 ?rest1
  case hy1 => (intro w hSw; (try dsimp only at hSw); go_simp; try with_reducible rfl)
  simp only [Act.put, List.setIfInBounds_toArray, List.set_cons_zero, List.set_cons_succ]
  refine wpAnyH_take (i := 2) (oi := ⟨_, _, _, _, _, _⟩) (v := ?v2) rfl (by kernel_rfl) (by kernel_rfl) (by kernel_rfl) (fun _ _ _ h => h) (Or.inl ⟨by rfl, ?hy2⟩) h0 ?rest2
  case hy2 => (intro w hSw; (try dsimp only at hSw); go_simp; try with_reducible rfl)
  simp only [Act.put, List.setIfInBounds_toArray, List.set_cons_zero, List.set_cons_succ]
  refine wpAnyH_take (i := 3) (oi := ⟨_, _, _, _, _, _⟩) (v := ?v3) rfl (by kernel_rfl) (by kernel_rfl) (by kernel_rfl) (fun _ _ _ h => h) (Or.inl ⟨by rfl, ?hy3⟩) h0 ?rest3
  case hy3 => (intro w hSw; (try dsimp only at hSw); go_simp; try with_reducible rfl)
  simp only [Act.put, List.setIfInBounds_toArray, List.set_cons_zero, List.set_cons_succ]
  refine wpAnyH_take (i := 4) (oi := ⟨_, _, _, _, _, _⟩) (v := ?v4) rfl (by kernel_rfl) (by kernel_rfl) (by kernel_rfl) (fun _ _ _ h => h) (Or.inl ⟨by rfl, ?hy4⟩) h0 ?rest4
  case hy4 => (intro w hSw; (try dsimp only at hSw); go_simp; try with_reducible rfl)
  simp only [Act.put, List.setIfInBounds_toArray, List.set_cons_zero, List.set_cons_succ]
  refine wpAnyH_take (i := 5) (oi := ⟨_, _, _, _, _, _⟩) (v := ?v5) rfl (by kernel_rfl) (by kernel_rfl) (by kernel_rfl) (fun _ _ _ h => h) (Or.inl ⟨by rfl, ?hy5⟩) h0 ?rest5
  case hy5 => (intro w hSw; (try dsimp only at hSw); go_simp; try with_reducible rfl)
  simp only [Act.put, List.setIfInBounds_toArray, List.set_cons_zero, List.set_cons_succ]
  refine wpAnyH_ready (rs := [6]) (by kernel_rfl) (by simp) ?_
  refine AllReadyH.cons (o := ⟨_, _, _, _, _, _⟩) rfl (fun K hK => ?_) AllReadyH.nil
  go_simp
  refine htw.mono ?_
  rintro e w2 ⟨l', f', rfl, hcp, hb2⟩
  have hrep := hcp.rep
  obtain ⟨al', cl', af', cf', rfl, rfl⟩ := hrep.slices
  have h2 : Below w1.heap.size w1 w2 := Below.drop_drew hb2
  have H2 := (show Hid _ from And.intro hrep h2)
  clear hcp hrep hb2 htw
  refine hK.out _ _ h2 (fun hHeld => ?_)
  clear hK K hHeld
  try simp only [Act.put, List.setIfInBounds_toArray, List.set_cons_zero, List.set_cons_succ]
  refine wpAnyH_ready (rs := [7]) (by kernel_rfl) (by simp) ?_
  refine AllReadyH.cons (o := ⟨_, _, _, _, _, _⟩) rfl (fun K hK => ?_) AllReadyH.nil
  go_simp
  refine hK.out _ _ h2 (fun hHeld => ?_)
  clear hK K hHeld
  try simp only [Act.put, List.setIfInBounds_toArray, List.set_cons_zero, List.set_cons_succ]
  refine wpAnyH_ready (rs := [8]) (by kernel_rfl) (by simp) ?_
  refine AllReadyH.cons (o := ⟨_, _, _, _, _, _⟩) rfl (fun K hK => ?_) AllReadyH.nil
  go_simp
  refine hK.out _ _ h2 (fun hHeld => ?_)
  clear hK K hHeld
  try simp only [Act.put, List.setIfInBounds_toArray, List.set_cons_zero, List.set_cons_succ]
  refine wpAnyH_done (by kernel_rfl) ?_ _
  obtain ⟨a1, a2, a3, a4, a5, df⟩ := A.out
  have b1 := (h2.cell (lt_of_cell a1)).trans a1
  have b2 := (h2.cell (lt_of_cell a2)).trans a2
  have b3 := (h2.cell (lt_of_cell a3)).trans a3
  have b4 := (h2.cell (lt_of_cell a4)).trans a4
  have b5 := (h2.cell (lt_of_cell a5)).trans a5
  have bf : ∀ i, w2.frozen? ⟨D, i, none⟩ = false := fun i => (h2.frozen (p := ⟨D, i, none⟩) hD).trans (df i)
  clear a1 a2 a3 a4 a5 df P0 Q0 Q1 Q2 Q3 Q4 h2 h0
  show Oper.wp _ _ _ _ _ _
  go_simp
  go_wp2
  go_ret
  obtain ⟨hB, hh1, hD, hc0⟩ := H1.out
  obtain ⟨hrep, h2⟩ := H2.out
  obtain ⟨hv, hx, hset⟩ := HV.out
  have hh2 : HeapAt base w2 B rs last := HeapAt.below hh1 h2
  obtain ⟨h0, s, ds, e1, e2, e3, e4⟩ := hh2
  have hl : ds.length = rs.length := by rw [← e1, List.length_map]
  have hc2 : w2.cell? ⟨B, 0, none⟩ = some (.slice (some ⟨D, 0, none⟩) rs.length c) := (h2.cell (lt_of_cell hc0)).trans hc0
  obtain rfl : s = .slice (some ⟨D, 0, none⟩) ds.length c := by
    simp [World.cell?, e2] at hc2
    rw [hc2, hl]
  obtain ⟨d, hd, hdx⟩ : ∃ d, ds[j]? = some d ∧ Dl.pairR d = (k, y) := by
    rw [← e1, List.getElem?_map] at hx
    cases hd : ds[j]? with
    | none => rw [hd] at hx; cases hx
    | some d => rw [hd] at hx; exact ⟨d, rfl, by simpa using hx⟩
  have hdk : d.id = k := congrArg Prod.fst hdx
  have hlies : Lies 4 w2 v (.slice al' v.list.length cl') (.slice af' v.fields.length cf') := Rep.lies hrep
  have zb2 : base ≤ w2.heap.size := by have := hB.size; have := h2.size; omega
  have hb2 : Below base w w2 := (hB.trans (h2.mono hB.size)).mono hbase
  have hk2 : Kept w w2 := (below_kept hB).trans (below_kept h2)
  obtain ⟨t1, g1⟩ := e3.stored (j * 6 + 1) (.int .i64 v.kind)
  obtain ⟨t2, g2⟩ := t1.stored (j * 6 + 2) (.int .i64 v.num)
  obtain ⟨t3, g3⟩ := t2.stored (j * 6 + 3) (.string v.text)
  obtain ⟨t4, g4⟩ := t3.stored (j * 6 + 4) (.slice al' v.list.length cl')
  obtain ⟨t5, g5⟩ := t4.stored (j * 6 + 5) (.slice af' v.fields.length cf')
  rw [encDs_five hd, hdk] at t5
  have hkS : Kept w2 _ := (kept_grown e3 g1).trans ((kept_grown t1 g2).trans ((kept_grown t2 g3).trans ((kept_grown t3 g4).trans (kept_grown t4 g5))))
  have hDB : B ≠ D := by
    intro e
    obtain ⟨D', c', cur, e6, _, hgg, _⟩ := cells_of_row e3 (by omega)
    simp only [Value.slice.injEq, Option.some.injEq, Addr.mk.injEq, true_and, and_true] at e6
    rw [← e6.1, ← e, e2] at hgg
    cases hgg
  refine ⟨rfl, ⟨h0, .slice (some ⟨D, 0, none⟩) ds.length c, ds.set j ⟨k, v, .slice al' v.list.length cl', .slice af' v.fields.length cf'⟩, ?_, ?_, ?_, ?_⟩, hk2.trans hkS, ?_⟩
  · rw [hset, List.map_set, e1]; rfl
  · rw [heap_setCell_ne _ _ _ hDB, heap_setCell_ne _ _ _ hDB, heap_setCell_ne _ _ _ hDB, heap_setCell_ne _ _ _ hDB, heap_setCell_ne _ _ _ hDB]; exact e2
  · rw [List.length_set]; exact t5
  · intro x hx
    rcases List.mem_or_eq_of_mem_set hx with hx | rfl
    · exact (e4 x hx).kept hkS
    · exact hlies.kept hkS
  · exact below_grown (below_grown (below_grown (below_grown (below_grown hb2 e3 g1 zb2) t1 g2 (by have := g1.size; omega)) t2 g3 (by have := g1.size; have := g2.size; omega)) t3 g4 (by have := g1.size; have := g2.size; have := g3.size; omega)) t4 g5 (by have := g1.size; have := g2.size; have := g3.size; have := g4.size; omega)

theorem Delete_none (k : Int) (w : World) (h : HeapAt base w B rs last) (hr : RisesR lo rs) (hn : rs.length ≤ 1000000) (hg : getR k rs = none) :
    Calls Tryd.prog 16 #[.pointer (some ⟨B, 0, none⟩), .int .i64 k] w fun e w' => e = .returned (.bool false) ∧ Below w.heap.size w w' := by
  have hpl := placeH_any k w h hr hn
  rw [hg] at hpl
  clear h hr hn
  go_enter Tryd.func16, Tryd.ntmps16
  go_wp2_with fail
  refine hpl.mono ?_
  rintro e w1 ⟨rfl, hb1⟩
  clear hpl
  go_wp2
  go_ret
  exact ⟨rfl, hb1⟩

set_option maxRecDepth 100000 in
set_option maxHeartbeats 2000000 in
theorem Delete_some (k : Int) (w : World) (h : HeapAt base w B rs last) (hr : RisesR lo rs) (hn : rs.length ≤ 1000000) (hbase : base ≤ w.heap.size) (hg : (getR k rs).isSome = true) :
    Calls Tryd.prog 16 #[.pointer (some ⟨B, 0, none⟩), .int .i64 k] w
      fun e w' => e = .returned (.bool true) ∧ HeapAt base w' B (delR k rs) last ∧ Kept w w' ∧ Below base w w' := by
  have hpl := placeH_any k w h hr hn
  rw [hg] at hpl
  obtain ⟨y, hy⟩ := Option.isSome_iff_exists.1 hg
  have hx := (ahead_at k rs hr).1 y hy
  have hdel := del_split rs hr hg
  obtain ⟨j, hjd⟩ : ∃ j, aheadR k rs = j := ⟨_, rfl⟩
  rw [hjd] at hpl hx hdel
  have hj := (List.getElem?_eq_some_iff.1 hx).1
  have zj : wrap64 ((j : Int) + 1) = (j : Int) + 1 := by unfold wrap64; omega
  have HH : Hid (HeapAt base w B rs last) := h
  clear h hr hg hy hx hjd
  go_enter Tryd.func16, Tryd.ntmps16
  go_wp2_with fail
  refine hpl.mono ?_
  rintro e w1 ⟨rfl, hb1⟩
  have hh1 : HeapAt base w1 B rs last := HeapAt.below HH.out hb1
  obtain ⟨h0, s, ds, e1, e2, e3, e4⟩ := hh1
  have hl : ds.length = rs.length := by rw [← e1, List.length_map]
  obtain ⟨D, c, cur, rfl, hbD, hgD, hc1, hc2, _⟩ := cells_of_row e3 (by omega)
  have hdl := DeleteD_any ds base D c j w1 (encDs_one fun d hd => by
    obtain ⟨a1, c1, a2, c2, h1, h2⟩ := (e4 d hd).slices
    exact ⟨_, _, _, _, _, _, h1, h2⟩) e3 (by omega)
  have c0 : w1.cell? ⟨B, 0, none⟩ = some (.slice (some ⟨D, 0, none⟩) ds.length c) := by simp [World.cell?, e2]
  have H1 := (show Hid _ from And.intro h0 (And.intro e1 (And.intro e2 (And.intro e3 (And.intro e4 (And.intro hl (And.intro hb1 (And.intro hgD hdel))))))))
  clear hpl hb1 h0 e1 e2 e3 e4 hl hgD hdel
  go_wp2_with fail
  refine hdl.mono ?_
  rintro e w2 ⟨rfl, hrow2, hg2⟩
  obtain ⟨h0, e1, e2, e3, e4, hl, hb1, hgD, hdel⟩ := H1.out
  have hDB : B ≠ D := fun e => by rw [← e, e2] at hgD; cases hgD
  have hB2 : w2.heap[B]? = some (.cells #[.slice (some ⟨D, 0, none⟩) ds.length c, .int .i64 last] 57 (0, 0)) := (hg2.block B (lt_of_heap e2) (fun e => hDB (by simpa using e))).trans e2
  have k0 : w2.cell? ⟨B, 0, none⟩ = some (.slice (some ⟨D, 0, none⟩) ds.length c) := by simp [World.cell?, hB2]
  have kf : ∀ i, w2.frozen? ⟨B, i, none⟩ = false := fun i => by simp [World.frozen?, hB2]
  have H2 := (show Hid _ from And.intro hB2 (And.intro hrow2 (And.intro hg2 hDB)))
  clear h0 e1 e2 e3 e4 hl hb1 hgD hdel hdl hrow2 hg2 hDB hB2 c0
  go_wp2
  go_ret
  obtain ⟨h0, e1, e2, e3, e4, hl, hb1, hgD, hdel⟩ := H1.out
  obtain ⟨hB2, hrow2, hg2, hDB⟩ := H2.out
  have hk1 : Kept w w1 := below_kept hb1
  have hk2 : Kept w1 w2 := kept_grown e3 hg2
  have hk3 := kept_setCell (i := 0) (u := .slice (some ⟨D, 0, none⟩) (ds.length - 1) c) hB2
  have hlen : (ds.take j ++ ds.drop (j + 1)).length = ds.length - 1 := by simp; omega
  refine ⟨rfl, ⟨h0, .slice (some ⟨D, 0, none⟩) (ds.length - 1) c, ds.take j ++ ds.drop (j + 1), ?_, ?_, ?_, ?_⟩, hk1.trans (hk2.trans hk3), ?_⟩
  · rw [hdel, ← e1, List.map_append, List.map_take, List.map_drop]
  · rw [setCell_row hB2]; rfl
  · rw [hlen]
    refine ⟨hrow2.1, ?_⟩
    rcases hrow2.2 with hn0 | ⟨g, cap, cur2, e, hb, hgg, rest⟩
    · exact .inl hn0
    · refine .inr ⟨g, cap, cur2, e, hb, ?_, rest⟩
      simp only [Value.slice.injEq, Option.some.injEq, Addr.mk.injEq, true_and, and_true] at e
      rw [heap_setCell_ne _ _ _ (fun e2 => hDB (by rw [e.1]; exact e2.symm))]
      exact hgg
  · intro d hd
    have hm : d ∈ ds := by
      rcases List.mem_append.1 hd with hd | hd
      · exact List.mem_of_mem_take hd
      · exact List.mem_of_mem_drop hd
    exact (e4 d hm).kept (hk2.trans hk3)
  · exact (below_grown (hb1.mono hbase) e3 hg2 (by have := hb1.size; omega)).setCell h0 _
end
end Go.Proofs.YtjihfbahcebljaaDoor
