/-
  What a heap tells without being changed: New, Len, Last, Get, Next by their contracts. No conditions beyond those stated.
-/
import Derived.Test.YtjihfbahcebljaaHPlace
import Derived.Test.YtjihfbahcebljaaVSet
namespace Go.Proofs.Ytjihfbahcebljaa
open Go.RowKit

/-- an empty heap is laid. -/
theorem New_any (w : World) : Calls Try.prog 5 #[] w fun e w' => e = .returned (.pointer (some ⟨w.heap.size, 0, none⟩)) ∧ HeapAt w.heap.size w' w.heap.size [] 0 ∧ Below w.heap.size w w' := by
  go_enter Try.func5, Try.ntmps5
  go_wp2
  go_ret
  exact ⟨rfl, ⟨Nat.le_refl _, .slice none 0 0, [], rfl, heap_alloc_new _ _, World.ownsRow_nil _ _ _ _, fun d hd => by cases hd⟩, (Below.refl _ _).alloc (Nat.le_refl _) _⟩

section
variable {base B : Nat} {rs : List Rec} {last lo : Int}
theorem HeapAt.head {w : World} (h : HeapAt base w B rs last) : ∃ a c, w.cell? ⟨B, 0, none⟩ = some (.slice a rs.length c) ∧ w.cell? ⟨B, 1, none⟩ = some (.int .i64 last) := by
  obtain ⟨h0, s, ds, h1, h2, h3, h4⟩ := h
  obtain ⟨a, c, rfl⟩ := slice_of_row h3
  have hl : ds.length = rs.length := by rw [← h1, List.length_map]
  exact ⟨a, c, by simp [World.cell?, h2, hl], by simp [World.cell?, h2]⟩
theorem Len_any (w : World) (h : HeapAt base w B rs last) : Calls Try.prog 8 #[.pointer (some ⟨B, 0, none⟩)] w fun e w' => e = .returned (.int .i64 rs.length) ∧ w' = w := by
  obtain ⟨a, c, c0, c1⟩ := h.head
  clear h
  go_enter Try.func8, Try.ntmps8
  go_wp2
  go_ret
  exact ⟨rfl, rfl⟩
theorem Last_any (w : World) (h : HeapAt base w B rs last) : Calls Try.prog 10 #[.pointer (some ⟨B, 0, none⟩)] w fun e w' => e = .returned (.int .i64 last) ∧ w' = w := by
  obtain ⟨a, c, c0, c1⟩ := h.head
  clear h
  go_enter Try.func10, Try.ntmps10
  go_wp2
  go_ret
  exact ⟨rfl, rfl⟩

/-- the record at a place, cell by cell. -/
theorem HeapAt.at {w : World} (h : HeapAt base w B rs last) {j : Nat} {x : Rec} (hx : rs[j]? = some x) (hn : rs.length ≤ 1000000) :
    ∃ D c al cl af cf, w.cell? ⟨B, 0, none⟩ = some (.slice (some ⟨D, 0, none⟩) rs.length c) ∧ D < w.heap.size ∧ base ≤ D ∧ rs.length ≤ c ∧ c ≤ 9223372036854775807 ∧
      w.cell? ⟨D, j * 6, none⟩ = some (.int .i64 x.1) ∧ w.cell? ⟨D, j * 6 + 1, none⟩ = some (.int .i64 x.2.kind) ∧ w.cell? ⟨D, j * 6 + 2, none⟩ = some (.int .i64 x.2.num) ∧ w.cell? ⟨D, j * 6 + 3, none⟩ = some (.string x.2.text) ∧
      w.cell? ⟨D, j * 6 + 4, none⟩ = some (.slice al x.2.list.length cl) ∧ w.cell? ⟨D, j * 6 + 5, none⟩ = some (.slice af x.2.fields.length cf) ∧ Lies 4 w x.2 (.slice al x.2.list.length cl) (.slice af x.2.fields.length cf) := by
  obtain ⟨h0, s, ds, h1, h2, h3, h4⟩ := h
  have hl : ds.length = rs.length := by rw [← h1, List.length_map]
  obtain ⟨d, hd, hdx⟩ : ∃ d, ds[j]? = some d ∧ Dl.pairR d = x := by
    rw [← h1, List.getElem?_map] at hx
    cases hd : ds[j]? with
    | none => rw [hd] at hx; cases hx
    | some d => rw [hd] at hx; exact ⟨d, rfl, by simpa using hx⟩
  subst hdx
  have hj := (List.getElem?_eq_some_iff.1 hd).1
  obtain ⟨D, c, cur, rfl, hb, hg, hc1, hc2, _⟩ := cells_of_row h3 (by omega)
  obtain ⟨a0, a1, a2, a3, a4, a5⟩ := row_doc h3 hd
  have hli := h4 d (List.mem_of_getElem? hd)
  obtain ⟨al, cl, af, cf, el, ef⟩ := hli.slices
  rw [el] at a4 hli
  rw [ef] at a5 hli
  exact ⟨D, c, al, cl, af, cf, by rw [← hl]; simp [World.cell?, h2], lt_of_heap hg, hb, by omega, hc2, a0, a1, a2, a3, a4, a5, hli⟩

def zeroH : V := ⟨0, 0, ⟨#[]⟩, [], []⟩
theorem lies_zero {n : Nat} {W : World} : Lies n W zeroH (.slice none 0 0) (.slice none 0 0) := (show Rep _ 0 W zeroH _ _ from ⟨rfl, rfl, rfl, rfl⟩ : Rep (fun _ => True) 0 W zeroH _ _).le (Nat.zero_le n)

end
end Go.Proofs.Ytjihfbahcebljaa
