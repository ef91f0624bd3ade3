/-
  A heap's Set and Delete by their contracts. Conditions: as stated.
-/
import Derived.Test.YtjihfbahcebljaaHIns
import Derived.Test.YtjihfbahcebljaaHDel
namespace Go.Proofs.Ytjihfbahcebljaa
open Go.RowKit

theorem six_set {A C : List Value} {x0 x1 x2 x3 x4 x5 y1 y2 y3 y4 y5 : Value} {n : Nat} (h : A.length = n) : (((((A ++ [x0, x1, x2, x3, x4, x5] ++ C).set (n + 1) y1).set (n + 2) y2).set (n + 3) y3).set (n + 4) y4).set (n + 5) y5 = A ++ [x0, y1, y2, y3, y4, y5] ++ C := by
  subst h
  simp
theorem encDs_five {ds : List Dl} {j : Nat} {e : Dl} (h : ds[j]? = some e) (v : V) (l f : Value) :
    ((((((encDs ds).set (j * 6 + 1) (.int .i64 v.kind)).set (j * 6 + 2) (.int .i64 v.num)).set (j * 6 + 3) (.string v.text)).set (j * 6 + 4) l).set (j * 6 + 5) f) = encDs (ds.set j ⟨e.id, v, l, f⟩) := by
  have hj := (List.getElem?_eq_some_iff.1 h).1
  have e1 : encDs ds = encDs (ds.take j) ++ e.enc ++ encDs (ds.drop (j + 1)) := by
    have h5 : ds = ds.take j ++ e :: ds.drop (j + 1) := by
      have h6 := List.drop_eq_getElem_cons hj
      have h7 : ds[j] = e := by rw [List.getElem?_eq_getElem hj] at h; exact Option.some.inj h
      rw [h7] at h6
      rw [← h6, List.take_append_drop]
    have h8 : encDs ds = encDs (ds.take j ++ e :: ds.drop (j + 1)) := congrArg encDs h5
    rw [h8, encDs_append]
    simp [encDs]
  rw [e1, encDs_set ds j e _ h]
  exact six_set (by rw [encDs_length, List.length_take]; congr 1; omega)

section
variable {base B : Nat} {rs : List Rec} {last lo : Int}
attribute [local go_sem ↓] Go.wp_at_zero Go.wp_at_succ
theorem Delete_none (k : Int) (w : World) (h : HeapAt base w B rs last) (hr : RisesR lo rs) (hn : rs.length ≤ 1000000) (hg : getR k rs = none) :
    Calls Try.prog 7 #[.pointer (some ⟨B, 0, none⟩), .int .i64 k] w fun e w' => e = .returned (.bool false) ∧ Below w.heap.size w w' := by
  have hpl := placeH_any k w h hr hn
  rw [hg] at hpl
  clear h hr hn
  go_enter Try.func7, Try.ntmps7
  go_wp2_with fail
  refine hpl.mono ?_
  rintro e w1 ⟨rfl, hb1⟩
  clear hpl
  go_wp2
  go_ret
  exact ⟨rfl, hb1⟩

set_option maxRecDepth 100000 in
set_option maxHeartbeats 2000000 in
theorem Delete_some (k : Int) (w : World) (h : HeapAt base w B rs last) (hr : RisesR lo rs) (hn : rs.length ≤ 1000000) (hbase : base ≤ w.heap.size) (hg : (getR k rs).isSome = true) :
    Calls Try.prog 7 #[.pointer (some ⟨B, 0, none⟩), .int .i64 k] w
      fun e w' => e = .returned (.bool true) ∧ HeapAt base w' B (delR k rs) last ∧ Kept w w' ∧ Below base w w' := by
  have hpl := placeH_any k w h hr hn
  rw [hg] at hpl
  obtain ⟨y, hy⟩ := Option.isSome_iff_exists.1 hg
  have hx := (ahead_at k rs hr).1 y hy
  have hdel := del_split rs hr hg
  obtain ⟨j, hjd⟩ : ∃ j, aheadR k rs = j := ⟨_, rfl⟩
  rw [hjd] at hpl hx hdel
  have hj := (List.getElem?_eq_some_iff.1 hx).1
  have zj : wrap64 ((j : Int) + 1) = (j : Int) + 1 := by unfold wrap64; omega
  have HH : Hid (HeapAt base w B rs last) := h
  clear h hr hg hy hx hjd
  go_enter Try.func7, Try.ntmps7
  go_wp2_with fail
  refine hpl.mono ?_
  rintro e w1 ⟨rfl, hb1⟩
  have hh1 : HeapAt base w1 B rs last := HeapAt.below HH.out hb1
  obtain ⟨h0, s, ds, e1, e2, e3, e4⟩ := hh1
  have hl : ds.length = rs.length := by rw [← e1, List.length_map]
  obtain ⟨D, c, cur, rfl, hbD, hgD, hc1, hc2, _⟩ := cells_of_row e3 (by omega)
  have hdl := DeleteD_any ds base D c j w1 (encDs_one fun d hd => by
    obtain ⟨a1, c1, a2, c2, h1, h2⟩ := (e4 d hd).slices
    exact ⟨_, _, _, _, _, _, h1, h2⟩) e3 (by omega)
  have c0 : w1.cell? ⟨B, 0, none⟩ = some (.slice (some ⟨D, 0, none⟩) ds.length c) := by simp [World.cell?, e2]
  have H1 := (show Hid _ from And.intro h0 (And.intro e1 (And.intro e2 (And.intro e3 (And.intro e4 (And.intro hl (And.intro hb1 (And.intro hgD hdel))))))))
  clear hpl hb1 h0 e1 e2 e3 e4 hl hgD hdel
  go_wp2_with fail
  refine hdl.mono ?_
  rintro e w2 ⟨rfl, hrow2, hg2⟩
  obtain ⟨h0, e1, e2, e3, e4, hl, hb1, hgD, hdel⟩ := H1.out
  have hDB : B ≠ D := fun e => by rw [← e, e2] at hgD; cases hgD
  have hB2 : w2.heap[B]? = some (.cells #[.slice (some ⟨D, 0, none⟩) ds.length c, .int .i64 last] 43 (0, 0)) := (hg2.block B (lt_of_heap e2) (fun e => hDB (by simpa using e))).trans e2
  have k0 : w2.cell? ⟨B, 0, none⟩ = some (.slice (some ⟨D, 0, none⟩) ds.length c) := by simp [World.cell?, hB2]
  have kf : ∀ i, w2.frozen? ⟨B, i, none⟩ = false := fun i => by simp [World.frozen?, hB2]
  have H2 := (show Hid _ from And.intro hB2 (And.intro hrow2 (And.intro hg2 hDB)))
  clear h0 e1 e2 e3 e4 hl hb1 hgD hdel hdl hrow2 hg2 hDB hB2 c0
  go_wp2
  go_ret
  obtain ⟨h0, e1, e2, e3, e4, hl, hb1, hgD, hdel⟩ := H1.out
  obtain ⟨hB2, hrow2, hg2, hDB⟩ := H2.out
  have hk1 : Kept w w1 := below_kept hb1
  have hk2 : Kept w1 w2 := kept_grown e3 hg2
  have hk3 := kept_setCell (i := 0) (u := .slice (some ⟨D, 0, none⟩) (ds.length - 1) c) hB2
  have hlen : (ds.take j ++ ds.drop (j + 1)).length = ds.length - 1 := by simp; omega
  refine ⟨rfl, ⟨h0, .slice (some ⟨D, 0, none⟩) (ds.length - 1) c, ds.take j ++ ds.drop (j + 1), ?_, ?_, ?_, ?_⟩, hk1.trans (hk2.trans hk3), ?_⟩
  · rw [hdel, ← e1, List.map_append, List.map_take, List.map_drop]
  · rw [setCell_row hB2]; rfl
  · rw [hlen]
    refine ⟨hrow2.1, ?_⟩
    rcases hrow2.2 with hn0 | ⟨g, cap, cur2, e, hb, hgg, rest⟩
    · exact .inl hn0
    · refine .inr ⟨g, cap, cur2, e, hb, ?_, rest⟩
      simp only [Value.slice.injEq, Option.some.injEq, Addr.mk.injEq, true_and, and_true] at e
      rw [heap_setCell_ne _ _ _ (fun e2 => hDB (by rw [e.1]; exact e2.symm))]
      exact hgg
  · intro d hd
    have hm : d ∈ ds := by
      rcases List.mem_append.1 hd with hd | hd
      · exact List.mem_of_mem_take hd
      · exact List.mem_of_mem_drop hd
    exact (e4 d hm).kept (hk2.trans hk3)
  · exact (below_grown (hb1.mono hbase) e3 hg2 (by have := hb1.size; omega)).setCell h0 _
end
end Go.Proofs.Ytjihfbahcebljaa
