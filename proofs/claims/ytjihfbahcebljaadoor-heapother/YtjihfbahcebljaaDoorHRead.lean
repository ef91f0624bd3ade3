/-
  What a heap tells without being changed: New, Len, Last, Get, Next by their contracts. No conditions beyond those stated.
-/
import Derived.Test.YtjihfbahcebljaaDoorHPlace
import Derived.Test.YtjihfbahcebljaaDoorVSet
namespace Go.Proofs.YtjihfbahcebljaaDoor
open Go.RowKit

/-- an empty heap is laid. -/
theorem New_any (w : World) : Calls Tryd.prog 9 #[] w fun e w' => e = .returned (.pointer (some ⟨w.heap.size, 0, none⟩)) ∧ HeapAt w.heap.size w' w.heap.size [] 0 ∧ Below w.heap.size w w' := by
  go_enter Tryd.func9, Tryd.ntmps9
  go_wp2
  go_ret
  exact ⟨rfl, ⟨Nat.le_refl _, .slice none 0 0, [], rfl, heap_alloc_new _ _, World.ownsRow_nil _ _ _ _, fun d hd => by cases hd⟩, (Below.refl _ _).alloc (Nat.le_refl _) _⟩

section
variable {base B : Nat} {rs : List Rec} {last lo : Int}
theorem HeapAt.head {w : World} (h : HeapAt base w B rs last) : ∃ a c, w.cell? ⟨B, 0, none⟩ = some (.slice a rs.length c) ∧ w.cell? ⟨B, 1, none⟩ = some (.int .i64 last) := by
  obtain ⟨h0, s, ds, h1, h2, h3, h4⟩ := h
  obtain ⟨a, c, rfl⟩ := slice_of_row h3
  have hl : ds.length = rs.length := by rw [← h1, List.length_map]
  exact ⟨a, c, by simp [World.cell?, h2, hl], by simp [World.cell?, h2]⟩
theorem Len_any (w : World) (h : HeapAt base w B rs last) : Calls Tryd.prog 11 #[.pointer (some ⟨B, 0, none⟩)] w fun e w' => e = .returned (.int .i64 rs.length) ∧ w' = w := by
  obtain ⟨a, c, c0, c1⟩ := h.head
  clear h
  go_enter Tryd.func11, Tryd.ntmps11
  go_wp2
  go_ret
  exact ⟨rfl, rfl⟩
theorem Last_any (w : World) (h : HeapAt base w B rs last) : Calls Tryd.prog 12 #[.pointer (some ⟨B, 0, none⟩)] w fun e w' => e = .returned (.int .i64 last) ∧ w' = w := by
  obtain ⟨a, c, c0, c1⟩ := h.head
  clear h
  go_enter Tryd.func12, Tryd.ntmps12
  go_wp2
  go_ret
  exact ⟨rfl, rfl⟩

/-- the record at a place, cell by cell. -/
theorem HeapAt.at {w : World} (h : HeapAt base w B rs last) {j : Nat} {x : Rec} (hx : rs[j]? = some x) (hn : rs.length ≤ 1000000) :
    ∃ D c al cl af cf, w.cell? ⟨B, 0, none⟩ = some (.slice (some ⟨D, 0, none⟩) rs.length c) ∧ D < w.heap.size ∧ base ≤ D ∧ rs.length ≤ c ∧ c ≤ 9223372036854775807 ∧
      w.cell? ⟨D, j * 6, none⟩ = some (.int .i64 x.1) ∧ w.cell? ⟨D, j * 6 + 1, none⟩ = some (.int .i64 x.2.kind) ∧ w.cell? ⟨D, j * 6 + 2, none⟩ = some (.int .i64 x.2.num) ∧ w.cell? ⟨D, j * 6 + 3, none⟩ = some (.string x.2.text) ∧
      w.cell? ⟨D, j * 6 + 4, none⟩ = some (.slice al x.2.list.length cl) ∧ w.cell? ⟨D, j * 6 + 5, none⟩ = some (.slice af x.2.fields.length cf) ∧ Lies 4 w x.2 (.slice al x.2.list.length cl) (.slice af x.2.fields.length cf) := by
  obtain ⟨h0, s, ds, h1, h2, h3, h4⟩ := h
  have hl : ds.length = rs.length := by rw [← h1, List.length_map]
  obtain ⟨d, hd, hdx⟩ : ∃ d, ds[j]? = some d ∧ Dl.pairR d = x := by
    rw [← h1, List.getElem?_map] at hx
    cases hd : ds[j]? with
    | none => rw [hd] at hx; cases hx
    | some d => rw [hd] at hx; exact ⟨d, rfl, by simpa using hx⟩
  subst hdx
  have hj := (List.getElem?_eq_some_iff.1 hd).1
  obtain ⟨D, c, cur, rfl, hb, hg, hc1, hc2, _⟩ := cells_of_row h3 (by omega)
  obtain ⟨a0, a1, a2, a3, a4, a5⟩ := row_doc h3 hd
  have hli := h4 d (List.mem_of_getElem? hd)
  obtain ⟨al, cl, af, cf, el, ef⟩ := hli.slices
  rw [el] at a4 hli
  rw [ef] at a5 hli
  exact ⟨D, c, al, cl, af, cf, by rw [← hl]; simp [World.cell?, h2], lt_of_heap hg, hb, by omega, hc2, a0, a1, a2, a3, a4, a5, hli⟩

def zeroH : V := ⟨0, 0, ⟨#[]⟩, [], []⟩
theorem lies_zero {n : Nat} {W : World} : Lies n W zeroH (.slice none 0 0) (.slice none 0 0) := (show Rep _ 0 W zeroH _ _ from ⟨rfl, rfl, rfl, rfl⟩ : Rep (fun _ => True) 0 W zeroH _ _).le (Nat.zero_le n)

set_option maxRecDepth 100000 in
set_option maxHeartbeats 2000000 in
theorem Get_none (k : Int) (w : World) (h : HeapAt base w B rs last) (hr : RisesR lo rs) (hn : rs.length ≤ 1000000) (hg : getR k rs = none) :
    Calls Tryd.prog 13 #[.pointer (some ⟨B, 0, none⟩), .int .i64 k] w fun e w' => e = .returned (.tuple #[.agg #[.int .i64 0, .int .i64 0, .string ⟨#[]⟩, .slice none 0 0, .slice none 0 0], .bool false]) ∧ Below w.heap.size w w' := by
  have hpl := fun W (hW : Below w.heap.size w W) => placeH_any k W (h.below hW) hr hn
  rw [hg] at hpl
  clear h hr hn
  go_enter Tryd.func13, Tryd.ntmps13
  go_wp2_with fail
  refine (hpl _ ((Below.refl _ _).alloc (Nat.le_refl _) _)).mono ?_
  rintro e w1 ⟨rfl, hb1⟩
  have r1 := row_below hb1 (heap_alloc_new w _)
  obtain ⟨x0, x1, x2, x3, x4, xf⟩ := row5 r1
  have hB : Below w.heap.size w w1 := ((Below.refl _ _).alloc (Nat.le_refl _) _).trans (hb1.mono (by simp))
  clear hpl hb1 r1
  go_wp2
  refine bodyPost_ret (v := .tuple #[.agg #[.int .i64 0, .int .i64 0, .string ⟨#[]⟩, .slice none 0 0, .slice none 0 0], .bool false]) (by simp [results, Tryd.results13, go_sem, x0, x1, x2, x3, x4]) rfl ⟨rfl, ?_⟩
  exact set5W_below hB (Nat.le_refl _) _ _ _ _ _ _ _ _ _ _

set_option maxRecDepth 100000 in
set_option maxHeartbeats 2000000 in
theorem Get_some (k : Int) (v : V) (w : World) (h : HeapAt base w B rs last) (hr : RisesR lo rs) (hn : rs.length ≤ 1000000) (hg : getR k rs = some v) :
    Calls Tryd.prog 13 #[.pointer (some ⟨B, 0, none⟩), .int .i64 k] w fun e w' => ∃ l f, e = .returned (.tuple #[.agg #[.int .i64 v.kind, .int .i64 v.num, .string v.text, l, f], .bool true]) ∧ Lies 5 w' v l f ∧ Below w.heap.size w w' := by
  have hpl := fun W (hW : Below w.heap.size w W) => placeH_any k W (h.below hW) hr hn
  rw [hg] at hpl
  have hx := (ahead_at k rs hr).1 v hg
  have hj := (List.getElem?_eq_some_iff.1 hx).1
  obtain ⟨j, hjd⟩ : ∃ j, aheadR k rs = j := ⟨_, rfl⟩
  rw [hjd] at hpl hx hj
  have zj : (j : Int) < (rs.length : Int) := by omega
  clear hjd
  have HH : Hid (HeapAt base w B rs last) := h
  clear h hr hg
  go_enter Tryd.func13, Tryd.ntmps13
  go_wp2_with fail
  refine (hpl _ ((Below.refl _ _).alloc (Nat.le_refl _) _)).mono ?_
  rintro e w1 ⟨rfl, hb1⟩
  have hB : Below w.heap.size w w1 := ((Below.refl _ _).alloc (Nat.le_refl _) _).trans (hb1.mono (by simp))
  have r1 := row_below hb1 (heap_alloc_new w _)
  have hh1 : HeapAt base w1 B rs last := HeapAt.below HH.out hB
  obtain ⟨D, c, al, cl, af, cf, c0, hD, hbD, hc1, hc2, a0, a1, a2, a3, a4, a5, hli⟩ := hh1.at hx hn
  have zc : (rs.length : Int) ≤ (c : Int) := by omega
  have htw := twinValue_any 4 v _ _ w1 hli
  have H1 := (show Hid _ from And.intro hB r1)
  clear hpl hb1 r1 hli hx a0 hB hh1
  simp only at a1 a2 a3 a4 a5
  go_wp2_with fail
  refine htw.mono ?_
  rintro e w2 ⟨l', f', rfl, hcp, hb2⟩
  have hrep := hcp.rep
  obtain ⟨al', cl', af', cf', rfl, rfl⟩ := hrep.slices
  obtain ⟨hB, r1⟩ := H1.out
  have r2 := row_below hb2 r1
  obtain ⟨x0, x1, x2, x3, x4, xf⟩ := row5 r2
  have hB2 : Below w.heap.size w w2 := hB.trans (hb2.mono hB.size)
  have hlt : w.heap.size < w1.heap.size := lt_of_heap r1
  have H2 := (show Hid _ from And.intro hrep (And.intro hB2 hlt))
  clear hcp hrep hb2 r2 r1 hB hB2 htw a1 a2 a3 a4 a5 c0
  go_wp2
  refine bodyPost_ret (v := .tuple #[.agg #[.int .i64 v.kind, .int .i64 v.num, .string v.text, .slice al' v.list.length cl', .slice af' v.fields.length cf'], .bool true]) (by simp [results, Tryd.results13, go_sem, x0, x1, x2, x3, x4]) rfl ⟨_, _, rfl, ?_, ?_⟩
  · exact H2.out.1.move fun b hb _ => ⟨trivial, set5W_ne _ _ _ _ _ _ _ _ _ _ _ _ (by have := H2.out.2.2; omega)⟩
  · exact set5W_below H2.out.2.1 (Nat.le_refl _) _ _ _ _ _ _ _ _ _ _
end
end Go.Proofs.YtjihfbahcebljaaDoor
