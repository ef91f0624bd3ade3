/-
  A heap's Next by its contract. No conditions beyond those stated.
-/
import Derived.Test.YtjihfbahcebljaaDoorHRead
import Derived.Test.YtjihfbahcebljaaDoorVSnoc
import Derived.Test.YtjihfbahcebljaaDoorVQ
import Derived.Deep.DrawnRows
import Derived.Deep.RegionHeld3
namespace Go.Proofs.YtjihfbahcebljaaDoor
open Go.RowKit

theorem Below.drop_drew {B : Nat} {w W : World} (h : Below B w.drew W) : Below B w W := ⟨h.os, h.tape, h.output, h.size, h.block⟩
/-- all blocks but one stay as they were. -/
def Oth (B : Nat) (w w' : World) : Prop := ∀ b, b < w.heap.size → b ≠ B → w'.heap[b]? = w.heap[b]?
theorem Oth.cell {B : Nat} {w w' : World} (h : Oth B w w') {b o : Nat} {u : Value} (hc : w.cell? ⟨b, o, none⟩ = some u) (hb : b ≠ B) : w'.cell? ⟨b, o, none⟩ = some u := by
  rw [World.cell?_of_block (w := w) (h b (lt_of_cell hc) hb)]; exact hc
theorem setCell_six {W : World} {B : Nat} (a0 a1 a2 a3 a4 a5 : Value) {k : Nat} (h : k ≠ B) : ((((((W.setCell ⟨B, 0, none⟩ a0).setCell ⟨B, 1, none⟩ a1).setCell ⟨B, 2, none⟩ a2).setCell ⟨B, 3, none⟩ a3).setCell ⟨B, 4, none⟩ a4).setCell ⟨B, 5, none⟩ a5).heap[k]? = W.heap[k]? := by
  rw [Below.heap_setCell _ _ _ _ h, Below.heap_setCell _ _ _ _ h, Below.heap_setCell _ _ _ _ h, Below.heap_setCell _ _ _ _ h, Below.heap_setCell _ _ _ _ h, Below.heap_setCell _ _ _ _ h]
theorem set_six_below {w W : World} {B C : Nat} (hb : Below C w W) (h : C ≤ B) (a0 a1 a2 a3 a4 a5 : Value) : Below C w ((((((W.setCell ⟨B, 0, none⟩ a0).setCell ⟨B, 1, none⟩ a1).setCell ⟨B, 2, none⟩ a2).setCell ⟨B, 3, none⟩ a3).setCell ⟨B, 4, none⟩ a4).setCell ⟨B, 5, none⟩ a5) :=
  (((((hb.setCell h _).setCell h _).setCell h _).setCell h _).setCell h _).setCell h _

section
variable {base B : Nat} {rs : List Rec} {last lo : Int}
set_option maxRecDepth 100000 in
set_option maxHeartbeats 2000000 in
theorem NextD_none (k : Int) (w : World) (h : HeapAt base w B rs last) (hr : RisesR lo rs) (hn : rs.length ≤ 1000000) (hg : nextR k rs = none) :
    Calls Tryd.prog 17 #[.pointer (some ⟨B, 0, none⟩), .int .i64 k] w fun e w' => e = .returned (.tuple #[.agg #[.int .i64 0, .int .i64 0, .int .i64 0, .string ⟨#[]⟩, .slice none 0 0, .slice none 0 0], .bool false]) ∧ Below w.heap.size w w' := by
  have hpl := fun W (hW : Below w.heap.size w W) => placeH_any k W (h.below hW) hr hn
  have hal := ahead_le k rs
  rw [next_isR k rs hr, List.getElem?_eq_none_iff] at hg
  have hend := fun e : aheadR k rs = rs.length => ahead_end hr e
  obtain ⟨j, hj⟩ : ∃ j, aheadR k rs = j := ⟨_, rfl⟩
  rw [hj] at hpl hg hal hend
  have HH : Hid (HeapAt base w B rs last) := h
  obtain ⟨p, hp⟩ : ∃ p, (getR k rs).isSome = p := ⟨_, rfl⟩
  rw [hp] at hg hpl
  have zp : p = true → (j : Int) + 1 = (rs.length : Int) := by
    intro e
    rw [if_pos e] at hg
    rcases Nat.lt_or_ge j rs.length with h1 | h1
    · omega
    · have e2 := hend (by omega)
      rw [e2] at hp
      rw [← hp] at e
      cases e
  have zq : p = false → j = rs.length := by
    intro e
    rw [if_neg (by rw [e]; simp)] at hg
    omega
  clear h hr hj hg hal hend hp
  cases p
  · obtain rfl := zq rfl
    clear zp zq
    go_enter Tryd.func17, Tryd.ntmps17
    go_wp2_with fail
    refine (hpl _ ((Below.refl _ _).alloc (Nat.le_refl _) _)).mono ?_
    rintro e w1 ⟨rfl, hb1⟩
    have hB : Below w.heap.size w w1 := ((Below.refl _ _).alloc (Nat.le_refl _) _).trans (hb1.mono (by simp))
    have r1 := row_below hb1 (heap_alloc_new w _)
    have hh1 : HeapAt base w1 B rs last := HeapAt.below HH.out hB
    obtain ⟨a, c, c0, c1⟩ := hh1.head
    obtain ⟨x0, x1, x2, x3, x4, x5, xf⟩ := row6 r1
    clear hpl hb1 r1 hh1
    go_wp2
    refine bodyPost_ret (v := .tuple #[.agg #[.int .i64 0, .int .i64 0, .int .i64 0, .string ⟨#[]⟩, .slice none 0 0, .slice none 0 0], .bool false]) (by simp [results, Tryd.results17, go_sem, x0, x1, x2, x3, x4, x5]) rfl ⟨rfl, ?_⟩
    exact set_six_below hB (Nat.le_refl _) _ _ _ _ _ _
  · have zk := zp rfl
    have zm : wrap64 ((j : Int) + 1) = (rs.length : Int) := by unfold wrap64; omega
    clear zp zq
    go_enter Tryd.func17, Tryd.ntmps17
    go_wp2_with fail
    refine (hpl _ ((Below.refl _ _).alloc (Nat.le_refl _) _)).mono ?_
    rintro e w1 ⟨rfl, hb1⟩
    have hB : Below w.heap.size w w1 := ((Below.refl _ _).alloc (Nat.le_refl _) _).trans (hb1.mono (by simp))
    have r1 := row_below hb1 (heap_alloc_new w _)
    have hh1 : HeapAt base w1 B rs last := HeapAt.below HH.out hB
    obtain ⟨a, c, c0, c1⟩ := hh1.head
    obtain ⟨x0, x1, x2, x3, x4, x5, xf⟩ := row6 r1
    clear hpl hb1 r1 hh1
    go_wp2
    refine bodyPost_ret (v := .tuple #[.agg #[.int .i64 0, .int .i64 0, .int .i64 0, .string ⟨#[]⟩, .slice none 0 0, .slice none 0 0], .bool false]) (by simp [results, Tryd.results17, go_sem, x0, x1, x2, x3, x4, x5]) rfl ⟨rfl, ?_⟩
    exact set_six_below hB (Nat.le_refl _) _ _ _ _ _ _

attribute [local go_sem ↓] Go.wp_at_zero Go.wp_at_succ
set_option maxRecDepth 100000 in
set_option maxHeartbeats 8000000 in
/-- the walk from behind the place on. -/
theorem NextD_some (k : Int) (x : Rec) (w : World) (h : HeapAt base w B rs last) (hr : RisesR lo rs) (hn : rs.length ≤ 1000000) (hg : nextR k rs = some x) :
    Calls Tryd.prog 17 #[.pointer (some ⟨B, 0, none⟩), .int .i64 k] w fun e w' => ∃ l f, e = .returned (.tuple #[.agg #[.int .i64 x.1, .int .i64 x.2.kind, .int .i64 x.2.num, .string x.2.text, l, f], .bool true]) ∧ Lies 5 w' x.2 l f ∧ Below w.heap.size w w' := by
  have hpl := fun W (hW : Below w.heap.size w W) => placeH_any k W (h.below hW) hr hn
  rw [next_isR k rs hr] at hg
  obtain ⟨j, hj⟩ : ∃ j, aheadR k rs = j := ⟨_, rfl⟩
  rw [hj] at hpl hg
  obtain ⟨xi, xv⟩ := x
  have HH : Hid (HeapAt base w B rs last) := h
  obtain ⟨p, hp⟩ : ∃ p, (getR k rs).isSome = p := ⟨_, rfl⟩
  rw [hp] at hg hpl
  clear h hr hj hp
  cases p
  · rw [if_neg (by simp)] at hg
    have zj : (j : Int) < (rs.length : Int) := by have := (List.getElem?_eq_some_iff.1 hg).1; omega
    go_enter Tryd.func17, Tryd.ntmps17
    go_wp2_with fail
    refine (hpl _ ((Below.refl _ _).alloc (Nat.le_refl _) _)).mono ?_
    rintro e w1 ⟨rfl, hb1⟩
    have hB : Below w.heap.size w w1 := ((Below.refl _ _).alloc (Nat.le_refl _) _).trans (hb1.mono (by simp))
    have r1 := row_below hb1 (heap_alloc_new w _)
    have hh1 : HeapAt base w1 B rs last := HeapAt.below HH.out hB
    obtain ⟨D, c, al, cl, af, cf, c0, hD, hbD, hc1, hc2, a0, a1, a2, a3, a4, a5, hli⟩ := hh1.at hg hn
    obtain ⟨q0, q1, q2, q3, q4, q5, qf⟩ := row6 r1
    have zw : w.heap.size < w1.heap.size := lt_of_heap r1
    have H1 := (show Hid _ from And.intro hB (And.intro r1 hli))
    clear hpl hb1 r1 hh1 hli hB
    simp only at a0 a1 a2 a3 a4 a5
    go_wp2
    obtain ⟨W, hW⟩ : ∃ W, w1.alloc (.cells #[.int .i64 xi, .int .i64 xv.kind, .int .i64 xv.num, .string xv.text, .slice al xv.list.length cl, .slice af xv.fields.length cf] 46) = W := ⟨_, rfl⟩
    have hWn : W.heap[w1.heap.size]? = some (.cells #[.int .i64 xi, .int .i64 xv.kind, .int .i64 xv.num, .string xv.text, .slice al xv.list.length cl, .slice af xv.fields.length cf] 46 (0, 0)) := by rw [← hW]; exact heap_alloc_new _ _
    have hBW : Below w1.heap.size w1 W := by rw [← hW]; exact (Below.refl _ _).alloc (Nat.le_refl _) _
    rw [hW]
    obtain ⟨p0, p1, p2, p3, p4, p5, pf⟩ := row6 hWn
    have zne : w1.heap.size ≠ w.heap.size := by omega
    have P0 := fun w' (h : Oth w.heap.size W w') => h.cell p0 zne
    have P1 := fun w' (h : Oth w.heap.size W w') => h.cell p1 zne
    have P2 := fun w' (h : Oth w.heap.size W w') => h.cell p2 zne
    have P3 := fun w' (h : Oth w.heap.size W w') => h.cell p3 zne
    have P4 := fun w' (h : Oth w.heap.size W w') => h.cell p4 zne
    have P5 := fun w' (h : Oth w.heap.size W w') => h.cell p5 zne
    have R1 := row_below hBW H1.out.2.1
    have Z1 := lt_of_heap hWn
    have H2 := (show Hid _ from And.intro hBW (And.intro R1 Z1))
    have hli2 : Lies 4 W.drew xv (.slice al xv.list.length cl) (.slice af xv.fields.length cf) := Lies.below hBW H1.out.2.2
    have htw := twinValue_any 4 xv _ _ W.drew hli2
    clear p0 p1 p2 p3 p4 p5 pf a0 a1 a2 a3 a4 a5 c0 q0 q1 q2 q3 q4 q5 qf hWn hBW R1 hW hli2
    have h0 : Oth w.heap.size W W.drew := fun _ _ _ => rfl
    refine wp_region_snoc_held (S := fun w' => Oth w.heap.size W w') (head := #[_, _, _, _, _, _, _]) (last := ⟨_, _, _, _, _, _⟩) mixed (by kernel_rfl) rfl ?_
    refine wpAnyH_take (i := 0) (oi := ⟨_, _, _, _, _, _⟩) (v := ?v0) rfl (by kernel_rfl) (by kernel_rfl) (by kernel_rfl) (fun _ _ _ h => h) (Or.inl ⟨by rfl, ?hy0⟩) h0 ?rest0
    case hy0 => (intro w hSw; (try dsimp only at hSw); go_simp; try with_reducible rfl)
    simp only [Act.put, List.setIfInBounds_toArray, List.set_cons_zero, List.set_cons_succ]
    refine wpAnyH_take (i := 1) (oi := ⟨_, _, _, _, _, _⟩) (v := ?v1) rfl (by kernel_rfl) (by kernel_rfl) (by kernel_rfl) (fun _ _ _ h => h) (Or.inl ⟨by rfl, ?hy1⟩) h0 ?rest1
    case hy1 => (intro w hSw; (try dsimp only at hSw); go_simp; try with_reducible rfl)
    simp only [Act.put, List.setIfInBounds_toArray, List.set_cons_zero, List.set_cons_succ]
    refine wpAnyH_take (i := 2) (oi := ⟨_, _, _, _, _, _⟩) (v := ?v2) rfl (by kernel_rfl) (by kernel_rfl) (by kernel_rfl) (fun _ _ _ h => h) (Or.inl ⟨by rfl, ?hy2⟩) h0 ?rest2
    case hy2 => (intro w hSw; (try dsimp only at hSw); go_simp; try with_reducible rfl)
    simp only [Act.put, List.setIfInBounds_toArray, List.set_cons_zero, List.set_cons_succ]
    refine wpAnyH_take (i := 3) (oi := ⟨_, _, _, _, _, _⟩) (v := ?v3) rfl (by kernel_rfl) (by kernel_rfl) (by kernel_rfl) (fun _ _ _ h => h) (Or.inl ⟨by rfl, ?hy3⟩) h0 ?rest3
    case hy3 => (intro w hSw; (try dsimp only at hSw); go_simp; try with_reducible rfl)
    simp only [Act.put, List.setIfInBounds_toArray, List.set_cons_zero, List.set_cons_succ]
    refine wpAnyH_ready (rs := [4]) (by kernel_rfl) (by simp) ?_
    refine AllReadyH.cons (o := ⟨_, _, _, _, _, _⟩) rfl (fun K hK => ?_) AllReadyH.nil
    go_simp
    refine htw.mono ?_
    rintro e w2 ⟨l', f', rfl, hcp, hb2⟩
    have hrep := hcp.rep
    obtain ⟨al', cl', af', cf', rfl, rfl⟩ := hrep.slices
    have h2 : Oth w.heap.size W w2 := fun b hb _ => hb2.block b hb
    refine hK.out _ _ h2 (fun hHeld => ?_)
    clear hK K hHeld
    try simp only [Act.put, List.setIfInBounds_toArray, List.set_cons_zero, List.set_cons_succ]
    refine wpAnyH_ready (rs := [5]) (by kernel_rfl) (by simp) ?_
    refine AllReadyH.cons (o := ⟨_, _, _, _, _, _⟩) rfl (fun K hK => ?_) AllReadyH.nil
    go_simp
    refine hK.out _ _ h2 (fun hHeld => ?_)
    clear hK K hHeld
    try simp only [Act.put, List.setIfInBounds_toArray, List.set_cons_zero, List.set_cons_succ]
    have r2 : w2.heap[w.heap.size]? = _ := (hb2.block w.heap.size (by have := H2.out.2.2; show _ < W.heap.size; omega)).trans H2.out.2.1
    obtain ⟨x0, x1, x2, x3, x4, x5, xf⟩ := row6 r2
    refine wpAnyH_ready (rs := [6]) (by kernel_rfl) (by simp) ?_
    refine AllReadyH.cons (o := ⟨_, _, _, _, _, _⟩) rfl (fun K hK => ?_) AllReadyH.nil
    go_simp
    refine hK.out _ _ (fun b hb hbn => (setCell_six _ _ _ _ _ _ hbn).trans (h2 b hb hbn)) (fun hHeld => ?_)
    clear hK K hHeld
    try simp only [Act.put, List.setIfInBounds_toArray, List.set_cons_zero, List.set_cons_succ]
    refine wpAnyH_done (by kernel_rfl) ?_ _
    have H3 := (show Hid _ from And.intro hrep hb2)
    clear hrep hcp hb2 r2 h2 h0 htw P0 P1 P2 P3 P4 P5
    show Oper.wp _ _ _ _ _ _
    go_simp
    go_wp2
    refine bodyPost_ret (v := .tuple #[.agg #[.int .i64 xi, .int .i64 xv.kind, .int .i64 xv.num, .string xv.text, .slice al' xv.list.length cl', .slice af' xv.fields.length cf'], .bool true]) (by simp [results, Tryd.results17, go_sem, x0, x1, x2, x3, x4, x5]) rfl ⟨_, _, rfl, ?_, ?_⟩
    · exact H3.out.1.move fun b hb _ => ⟨trivial, setCell_six _ _ _ _ _ _ (by have := H2.out.2.2; have hb : W.heap.size ≤ b := hb; omega)⟩
    · have hB1 : Below w.heap.size w W := H1.out.1.trans (H2.out.1.mono H1.out.1.size)
      have hB2 : Below w.heap.size w w2 := hB1.trans ((Below.drop_drew H3.out.2).mono hB1.size)
      exact set_six_below hB2 (Nat.le_refl _) _ _ _ _ _ _
  · rw [if_pos rfl] at hg
    have zj : (j : Int) + 1 < (rs.length : Int) := by have := (List.getElem?_eq_some_iff.1 hg).1; omega
    have zm : wrap64 ((j : Int) + 1) = (j : Int) + 1 := by unfold wrap64; omega
    go_enter Tryd.func17, Tryd.ntmps17
    go_wp2_with fail
    refine (hpl _ ((Below.refl _ _).alloc (Nat.le_refl _) _)).mono ?_
    rintro e w1 ⟨rfl, hb1⟩
    have hB : Below w.heap.size w w1 := ((Below.refl _ _).alloc (Nat.le_refl _) _).trans (hb1.mono (by simp))
    have r1 := row_below hb1 (heap_alloc_new w _)
    have hh1 : HeapAt base w1 B rs last := HeapAt.below HH.out hB
    obtain ⟨D, c, al, cl, af, cf, c0, hD, hbD, hc1, hc2, a0, a1, a2, a3, a4, a5, hli⟩ := hh1.at hg hn
    obtain ⟨q0, q1, q2, q3, q4, q5, qf⟩ := row6 r1
    have zw : w.heap.size < w1.heap.size := lt_of_heap r1
    have H1 := (show Hid _ from And.intro hB (And.intro r1 hli))
    clear hpl hb1 r1 hh1 hli hB
    simp only at a0 a1 a2 a3 a4 a5
    go_wp2
    obtain ⟨W, hW⟩ : ∃ W, w1.alloc (.cells #[.int .i64 xi, .int .i64 xv.kind, .int .i64 xv.num, .string xv.text, .slice al xv.list.length cl, .slice af xv.fields.length cf] 46) = W := ⟨_, rfl⟩
    have hWn : W.heap[w1.heap.size]? = some (.cells #[.int .i64 xi, .int .i64 xv.kind, .int .i64 xv.num, .string xv.text, .slice al xv.list.length cl, .slice af xv.fields.length cf] 46 (0, 0)) := by rw [← hW]; exact heap_alloc_new _ _
    have hBW : Below w1.heap.size w1 W := by rw [← hW]; exact (Below.refl _ _).alloc (Nat.le_refl _) _
    rw [hW]
    obtain ⟨p0, p1, p2, p3, p4, p5, pf⟩ := row6 hWn
    have zne : w1.heap.size ≠ w.heap.size := by omega
    have P0 := fun w' (h : Oth w.heap.size W w') => h.cell p0 zne
    have P1 := fun w' (h : Oth w.heap.size W w') => h.cell p1 zne
    have P2 := fun w' (h : Oth w.heap.size W w') => h.cell p2 zne
    have P3 := fun w' (h : Oth w.heap.size W w') => h.cell p3 zne
    have P4 := fun w' (h : Oth w.heap.size W w') => h.cell p4 zne
    have P5 := fun w' (h : Oth w.heap.size W w') => h.cell p5 zne
    have R1 := row_below hBW H1.out.2.1
    have Z1 := lt_of_heap hWn
    have H2 := (show Hid _ from And.intro hBW (And.intro R1 Z1))
    have hli2 : Lies 4 W.drew xv (.slice al xv.list.length cl) (.slice af xv.fields.length cf) := Lies.below hBW H1.out.2.2
    have htw := twinValue_any 4 xv _ _ W.drew hli2
    clear p0 p1 p2 p3 p4 p5 pf a0 a1 a2 a3 a4 a5 c0 q0 q1 q2 q3 q4 q5 qf hWn hBW R1 hW hli2
    have h0 : Oth w.heap.size W W.drew := fun _ _ _ => rfl
    refine wp_region_snoc_held (S := fun w' => Oth w.heap.size W w') (head := #[_, _, _, _, _, _, _]) (last := ⟨_, _, _, _, _, _⟩) mixed (by kernel_rfl) rfl ?_
    refine wpAnyH_take (i := 0) (oi := ⟨_, _, _, _, _, _⟩) (v := ?vb0) rfl (by kernel_rfl) (by kernel_rfl) (by kernel_rfl) (fun _ _ _ h => h) (Or.inl ⟨by rfl, ?hyb0⟩) h0 ?restb0
    case hyb0 => (intro w hSw; (try dsimp only at hSw); go_simp; try with_reducible rfl)
    simp only [Act.put, List.setIfInBounds_toArray, List.set_cons_zero, List.set_cons_succ]
    refine wpAnyH_take (i := 1) (oi := ⟨_, _, _, _, _, _⟩) (v := ?vb1) rfl (by kernel_rfl) (by kernel_rfl) (by kernel_rfl) (fun _ _ _ h => h) (Or.inl ⟨by rfl, ?hyb1⟩) h0 ?restb1
    case hyb1 => (intro w hSw; (try dsimp only at hSw); go_simp; try with_reducible rfl)
    simp only [Act.put, List.setIfInBounds_toArray, List.set_cons_zero, List.set_cons_succ]
    refine wpAnyH_take (i := 2) (oi := ⟨_, _, _, _, _, _⟩) (v := ?vb2) rfl (by kernel_rfl) (by kernel_rfl) (by kernel_rfl) (fun _ _ _ h => h) (Or.inl ⟨by rfl, ?hyb2⟩) h0 ?restb2
    case hyb2 => (intro w hSw; (try dsimp only at hSw); go_simp; try with_reducible rfl)
    simp only [Act.put, List.setIfInBounds_toArray, List.set_cons_zero, List.set_cons_succ]
    refine wpAnyH_take (i := 3) (oi := ⟨_, _, _, _, _, _⟩) (v := ?vb3) rfl (by kernel_rfl) (by kernel_rfl) (by kernel_rfl) (fun _ _ _ h => h) (Or.inl ⟨by rfl, ?hyb3⟩) h0 ?restb3
    case hyb3 => (intro w hSw; (try dsimp only at hSw); go_simp; try with_reducible rfl)
    simp only [Act.put, List.setIfInBounds_toArray, List.set_cons_zero, List.set_cons_succ]
    refine wpAnyH_ready (rs := [4]) (by kernel_rfl) (by simp) ?_
    refine AllReadyH.cons (o := ⟨_, _, _, _, _, _⟩) rfl (fun K hK => ?_) AllReadyH.nil
    go_simp
    refine htw.mono ?_
    rintro e w2 ⟨l', f', rfl, hcp, hb2⟩
    have hrep := hcp.rep
    obtain ⟨al', cl', af', cf', rfl, rfl⟩ := hrep.slices
    have h2 : Oth w.heap.size W w2 := fun b hb _ => hb2.block b hb
    refine hK.out _ _ h2 (fun hHeld => ?_)
    clear hK K hHeld
    try simp only [Act.put, List.setIfInBounds_toArray, List.set_cons_zero, List.set_cons_succ]
    refine wpAnyH_ready (rs := [5]) (by kernel_rfl) (by simp) ?_
    refine AllReadyH.cons (o := ⟨_, _, _, _, _, _⟩) rfl (fun K hK => ?_) AllReadyH.nil
    go_simp
    refine hK.out _ _ h2 (fun hHeld => ?_)
    clear hK K hHeld
    try simp only [Act.put, List.setIfInBounds_toArray, List.set_cons_zero, List.set_cons_succ]
    have r2 : w2.heap[w.heap.size]? = _ := (hb2.block w.heap.size (by have := H2.out.2.2; show _ < W.heap.size; omega)).trans H2.out.2.1
    obtain ⟨x0, x1, x2, x3, x4, x5, xf⟩ := row6 r2
    refine wpAnyH_ready (rs := [6]) (by kernel_rfl) (by simp) ?_
    refine AllReadyH.cons (o := ⟨_, _, _, _, _, _⟩) rfl (fun K hK => ?_) AllReadyH.nil
    go_simp
    refine hK.out _ _ (fun b hb hbn => (setCell_six _ _ _ _ _ _ hbn).trans (h2 b hb hbn)) (fun hHeld => ?_)
    clear hK K hHeld
    try simp only [Act.put, List.setIfInBounds_toArray, List.set_cons_zero, List.set_cons_succ]
    refine wpAnyH_done (by kernel_rfl) ?_ _
    have H3 := (show Hid _ from And.intro hrep hb2)
    clear hrep hcp hb2 r2 h2 h0 htw P0 P1 P2 P3 P4 P5
    show Oper.wp _ _ _ _ _ _
    go_simp
    go_wp2
    refine bodyPost_ret (v := .tuple #[.agg #[.int .i64 xi, .int .i64 xv.kind, .int .i64 xv.num, .string xv.text, .slice al' xv.list.length cl', .slice af' xv.fields.length cf'], .bool true]) (by simp [results, Tryd.results17, go_sem, x0, x1, x2, x3, x4, x5]) rfl ⟨_, _, rfl, ?_, ?_⟩
    · exact H3.out.1.move fun b hb _ => ⟨trivial, setCell_six _ _ _ _ _ _ (by have := H2.out.2.2; have hb : W.heap.size ≤ b := hb; omega)⟩
    · have hB1 : Below w.heap.size w W := H1.out.1.trans (H2.out.1.mono H1.out.1.size)
      have hB2 : Below w.heap.size w w2 := hB1.trans ((Below.drop_drew H3.out.2).mono hB1.size)
      exact set_six_below hB2 (Nat.le_refl _) _ _ _ _ _ _
end
end Go.Proofs.YtjihfbahcebljaaDoor
