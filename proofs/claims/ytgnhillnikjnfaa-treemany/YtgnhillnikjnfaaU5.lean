/-
  The first and the last entry of a tree by their contracts. Conditions: as stated.
-/
import Derived.Test.YtgnhillnikjnfaaU4
namespace Go.Proofs.Ytgnhillnikjnfaa
open Go.RowKit Go.Sort

set_option maxRecDepth 100000 in
set_option maxHeartbeats 2000000 in
theorem first_any : ∀ (n : Nat) (t : Nd) (x : En) (w : World), Live n w t → WfN n t → 1 ≤ t.es.length → (flatN n t).head? = some x →
    Calls Try.prog 31 #[.pointer (some ⟨t.b, 0, none⟩)] w fun r w' => r = .returned (.agg #[.string x.1, .int .i64 x.2]) ∧ Below w.heap.size w w' := by
  intro n
  induction n with
  | zero =>
    intro t x w h hw hl hx
    have hz : t.kids.length = 0 := by rw [h.2]; rfl
    have hlf := fun W (hW : Below w.heap.size w W) => leaf_any W (h.sh.below hW)
    rw [hz] at hlf
    have hx0 : t.es[0]? = some x := by rw [← List.head?_eq_getElem?]; exact hx
    obtain ⟨B, c, -, hc1, hc2, c0, ck, ci, -⟩ := h.sh.entryv hx0
    obtain ⟨xk, xi⟩ := x
    simp only [Nat.zero_mul, Nat.zero_add] at ck ci
    have zq : (0 : Int) < (t.es.length : Int) := by omega
    generalize t.es.length = m at *
    have hbw := lt_of_cell c0
    have hBw := lt_of_cell ck
    clear h hw hx hx0
    go_enter Try.func31, Try.ntmps31
    go_wp2_with fail
    refine (hlf _ ((Below.refl _ _).alloc (Nat.le_refl _) _)).mono ?_
    rintro e w1 ⟨rfl, rfl⟩
    go_wp2
    refine bodyPost_ret (v := .agg #[.string xk, .int .i64 xi]) (by simp [results, Try.results31, go_sem]) rfl ⟨rfl, ?_⟩
    exact (Below.refl _ _).alloc (Nat.le_refl _) _
  | succ n ih =>
    intro t x w h hw hl hx
    obtain ⟨k, hk⟩ : ∃ k, t.kids[0]? = some k := ⟨_, List.getElem?_eq_getElem (by have := hw.1; omega)⟩
    have hkm := List.mem_of_getElem? hk
    have hkw := hw.2 k hkm
    have hkx : (flatN n k).head? = some x := by rw [← first_desc hw hk (flat_ne hkw.1 (by omega))]; exact hx
    have hnz : ¬ t.kids.length = 0 := by have := (List.getElem?_eq_some_iff.1 hk).1; omega
    have hlf := fun W (hW : Below w.heap.size w W) => leaf_any W (h.sh.below hW)
    rw [decide_eq_false hnz] at hlf
    have hrec := fun W (hW : Below w.heap.size w W) => ih k x W ((h.2.2 k hkm).below hW) hkw.1 (by omega) hkx
    obtain ⟨B, c, -, hc1, hc2, c1, ck, -⟩ := h.1.kidv hk
    obtain ⟨xk, xi⟩ := x
    have zq : (0 : Int) < (t.kids.length : Int) := by omega
    generalize t.kids.length = m at *
    have hbw := lt_of_cell c1
    have hBw := lt_of_cell ck
    clear h hw hx hkx hk hkm hkw ih
    go_enter Try.func31, Try.ntmps31
    go_wp2_with fail
    refine (hlf _ ((Below.refl _ _).alloc (Nat.le_refl _) _)).mono ?_
    rintro e w1 ⟨rfl, rfl⟩
    go_wp2_with fail
    have r0 := heap_alloc_new w (.cells #[.string ⟨#[]⟩, .int .i64 0] 30)
    have hb0 : Below w.heap.size w (w.alloc (.cells #[.string ⟨#[]⟩, .int .i64 0] 30)) := (Below.refl _ _).alloc (Nat.le_refl _) _
    refine (hrec _ hb0).mono ?_
    rintro e w1 ⟨rfl, hb1⟩
    have r1 := (hb1.block w.heap.size (by simp)).trans r0
    have e0 : w1.cell? ⟨w.heap.size, 0, none⟩ = some (.string ⟨#[]⟩) := by simp [World.cell?, r1]
    have e1 : w1.cell? ⟨w.heap.size, 1, none⟩ = some (.int .i64 0) := by simp [World.cell?, r1]
    have hb := hb0.trans (hb1.mono hb0.size)
    have hsz := lt_of_heap r1
    have ef : ∀ j, w1.frozen? ⟨w.heap.size, j, none⟩ = false := fun j => by simp [World.frozen?, r1]
    clear hrec hb0 hb1 r0 r1
    go_wp2
    refine bodyPost_ret (v := .agg #[.string xk, .int .i64 xi]) (by simp [results, Try.results31, go_sem, e0, e1]) rfl ⟨rfl, ?_⟩
    exact (hb.setCell (Nat.le_refl _) _).setCell (Nat.le_refl _) _
set_option maxRecDepth 100000 in
set_option maxHeartbeats 2000000 in
theorem last_any : ∀ (n : Nat) (t : Nd) (x : En) (w : World), Live n w t → WfN n t → 1 ≤ t.es.length → t.es.length ≤ 4 → (flatN n t).getLast? = some x →
    Calls Try.prog 32 #[.pointer (some ⟨t.b, 0, none⟩)] w fun r w' => r = .returned (.agg #[.string x.1, .int .i64 x.2]) ∧ Below w.heap.size w w' := by
  intro n
  induction n with
  | zero =>
    intro t x w h hw hl hl4 hx
    have hz : t.kids.length = 0 := by rw [h.2]; rfl
    have hlf := fun W (hW : Below w.heap.size w W) => leaf_any W (h.sh.below hW)
    rw [hz] at hlf
    obtain ⟨j, hj⟩ : ∃ j, t.es.length = j + 1 := ⟨t.es.length - 1, by omega⟩
    have hx0 : t.es[j]? = some x := by
      have e : t.es.getLast? = some x := hx
      rw [List.getLast?_eq_getElem?, hj] at e
      exact e
    obtain ⟨B, c, -, hc1, hc2, c0, ck, ci, -⟩ := h.sh.entryv hx0
    obtain ⟨xk, xi⟩ := x
    rw [hj] at c0 hc1 hl4
    have zq : wrap64 (j : Int) = (j : Int) := by unfold wrap64; omega
    clear hj
    have hbw := lt_of_cell c0
    have hBw := lt_of_cell ck
    clear h hw hx hx0
    go_enter Try.func32, Try.ntmps32
    go_wp2_with fail
    refine (hlf _ ((Below.refl _ _).alloc (Nat.le_refl _) _)).mono ?_
    rintro e w1 ⟨rfl, rfl⟩
    go_wp2
    refine bodyPost_ret (v := .agg #[.string xk, .int .i64 xi]) (by simp [results, Try.results32, go_sem]) rfl ⟨rfl, ?_⟩
    exact (Below.refl _ _).alloc (Nat.le_refl _) _
  | succ n ih =>
    intro t x w h hw hl hl4 hx
    obtain ⟨k, hk⟩ : ∃ k, t.kids[t.es.length]? = some k := ⟨_, List.getElem?_eq_getElem (by have := hw.1; omega)⟩
    have hkm := List.mem_of_getElem? hk
    have hkw := hw.2 k hkm
    have hkx : (flatN n k).getLast? = some x := by rw [← last_desc hw hk (flat_ne hkw.1 (by omega))]; exact hx
    have hnz : ¬ t.kids.length = 0 := by have := (List.getElem?_eq_some_iff.1 hk).1; omega
    have hlf := fun W (hW : Below w.heap.size w W) => leaf_any W (h.sh.below hW)
    rw [decide_eq_false hnz] at hlf
    have hrec := fun W (hW : Below w.heap.size w W) => ih k x W ((h.2.2 k hkm).below hW) hkw.1 (by omega) (by omega) hkx
    obtain ⟨B, c, -, hc1, hc2, c1, ck, -⟩ := h.1.kidv hk
    obtain ⟨xk, xi⟩ := x
    obtain ⟨sa, sc, -, -, -, -, c0, -, -⟩ := h.1.view
    have hkl := hw.1
    have zq : (t.es.length : Int) < (t.kids.length : Int) := by omega
    generalize t.kids.length = m at *
    generalize t.es.length = q at *
    have hbw := lt_of_cell c1
    have hBw := lt_of_cell ck
    clear h hw hx hkx hk hkm hkw ih hkl
    go_enter Try.func32, Try.ntmps32
    go_wp2_with fail
    refine (hlf _ ((Below.refl _ _).alloc (Nat.le_refl _) _)).mono ?_
    rintro e w1 ⟨rfl, rfl⟩
    go_wp2_with fail
    have r0 := heap_alloc_new w (.cells #[.string ⟨#[]⟩, .int .i64 0] 30)
    have hb0 : Below w.heap.size w (w.alloc (.cells #[.string ⟨#[]⟩, .int .i64 0] 30)) := (Below.refl _ _).alloc (Nat.le_refl _) _
    refine (hrec _ hb0).mono ?_
    rintro e w1 ⟨rfl, hb1⟩
    have r1 := (hb1.block w.heap.size (by simp)).trans r0
    have e0 : w1.cell? ⟨w.heap.size, 0, none⟩ = some (.string ⟨#[]⟩) := by simp [World.cell?, r1]
    have e1 : w1.cell? ⟨w.heap.size, 1, none⟩ = some (.int .i64 0) := by simp [World.cell?, r1]
    have hb := hb0.trans (hb1.mono hb0.size)
    have hsz := lt_of_heap r1
    have ef : ∀ j, w1.frozen? ⟨w.heap.size, j, none⟩ = false := fun j => by simp [World.frozen?, r1]
    clear hrec hb0 hb1 r0 r1
    go_wp2
    refine bodyPost_ret (v := .agg #[.string xk, .int .i64 xi]) (by simp [results, Try.results32, go_sem, e0, e1]) rfl ⟨rfl, ?_⟩
    exact (hb.setCell (Nat.le_refl _) _).setCell (Nat.le_refl _) _
end Go.Proofs.Ytgnhillnikjnfaa
