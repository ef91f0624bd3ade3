/-
  The law's Spec by its contract. Conditions: as stated.
-/
import Derived.Test.YtfpkkobclkdniaaGreatDoorU18
namespace Go.Proofs.YtfpkkobclkdniaaGreatDoor
open Go.RowKit

/-- the five paths. -/
abbrev fiveO : Obj := .cells #[.string ⟨#[97]⟩, .string ⟨#[98]⟩, .string ⟨#[97, 46, 98]⟩, .string ⟨#[99, 46, 48]⟩, .string ⟨#[110]⟩] 9 (0, 0)
theorem five_cells {w : World} {B : Nat} (h : w.heap[B]? = some fiveO) : w.cell? ⟨B, 0, none⟩ = some (.string ⟨#[97]⟩) ∧ w.cell? ⟨B, 1, none⟩ = some (.string ⟨#[98]⟩) ∧ w.cell? ⟨B, 2, none⟩ = some (.string ⟨#[97, 46, 98]⟩) ∧ w.cell? ⟨B, 3, none⟩ = some (.string ⟨#[99, 46, 48]⟩) ∧ w.cell? ⟨B, 4, none⟩ = some (.string ⟨#[110]⟩) := by
  simp [World.cell?, h]
theorem row3 {W : World} {B t : Nat} {a0 a1 a2 : Value} (h : W.heap[B]? = some (.cells #[a0, a1, a2] t (0, 0))) : W.cell? ⟨B, 0, none⟩ = some a0 ∧ W.cell? ⟨B, 1, none⟩ = some a1 ∧ W.cell? ⟨B, 2, none⟩ = some a2 ∧ ∀ j, W.frozen? ⟨B, j, none⟩ = false := by
  simp [World.cell?, World.frozen?, h]
set_option maxRecDepth 100000 in
theorem spec_0 (n : Int) (h10 : n.tmod 10 = 0) (h5 : n.tmod 5 = 0) (u : Bool) (w : World) :
    Calls Tryz.prog 15 #[.int .u8 n, .bool u] w fun e w' => e = .returned (.agg #[.string ⟨#[105, 48]⟩, .string ⟨#[97]⟩, .bool u]) ∧ Below w.heap.size w w' := by
  obtain ⟨W, hW⟩ : ∃ W, w.alloc (.cells #[.string ⟨#[]⟩, .string ⟨#[]⟩, .bool false] 23) = W := ⟨_, rfl⟩
  have hB : Below w.heap.size w W := by rw [← hW]; exact (Below.refl _ _).alloc (Nat.le_refl _) _
  have q0 : W.heap[w.heap.size]? = some (.cells #[.string ⟨#[]⟩, .string ⟨#[]⟩, .bool false] 23) := by rw [← hW]; exact heap_alloc_new _ _
  have wu : IntKind.u8.wrap 1 = 1 := by decide
  have HB := (show Hid _ from And.intro hB q0)
  clear hB q0
  go_enter Tryz.func15, Tryz.ntmps15
  go_wp2_with fail
  clear hW
  have h0 : (fun w' : World => Below w.heap.size w w') W.drew := HB.out.1.drew
  refine wp_region_held (S := fun w' => Below w.heap.size w w') mixedE ?_
  refine wpAnyH_take (i := 0) (oi := ⟨_, _, _, _, _, _⟩) (v := ?v1) rfl (by kernel_rfl) (by kernel_rfl) (by kernel_rfl) (fun _ _ _ h => h) (Or.inl ⟨by rfl, ?hy1⟩) h0 ?rest1
  case hy1 => (intro w hSw; (try dsimp only at hSw); go_simp; try with_reducible rfl)
  simp only [Act.put, List.setIfInBounds_toArray, List.set_cons_zero, List.set_cons_succ]
  refine wpAnyH_take (i := 1) (oi := ⟨_, _, _, _, _, _⟩) (v := ?v2) rfl (by kernel_rfl) (by kernel_rfl) (by kernel_rfl) (fun _ _ _ h => h) (Or.inl ⟨by rfl, ?hy2⟩) h0 ?rest2
  case hy2 => (intro w hSw; (try dsimp only at hSw); go_simp; try with_reducible rfl)
  simp only [Act.put, List.setIfInBounds_toArray, List.set_cons_zero, List.set_cons_succ]
  refine wpAnyH_take (i := 2) (oi := ⟨_, _, _, _, _, _⟩) (v := ?v3) rfl (by kernel_rfl) (by kernel_rfl) (by kernel_rfl) (fun _ _ _ h => h) (Or.inl ⟨by rfl, ?hy3⟩) h0 ?rest3
  case hy3 => (intro w hSw; (try dsimp only at hSw); go_simp; try with_reducible rfl)
  simp only [Act.put, List.setIfInBounds_toArray, List.set_cons_zero, List.set_cons_succ]
  refine wpAnyH_take (i := 3) (oi := ⟨_, _, _, _, _, _⟩) (v := ?v4) rfl (by kernel_rfl) (by kernel_rfl) (by kernel_rfl) (fun _ _ _ h => h) (Or.inl ⟨by rfl, ?hy4⟩) h0 ?rest4
  case hy4 => (intro w hSw; (try dsimp only at hSw); go_simp; try with_reducible rfl)
  simp only [Act.put, List.setIfInBounds_toArray, List.set_cons_zero, List.set_cons_succ]
  refine wpAnyH_take (i := 4) (oi := ⟨_, _, _, _, _, _⟩) (v := ?v5) rfl (by kernel_rfl) (by kernel_rfl) (by kernel_rfl) (fun _ _ _ h => h) (Or.inl ⟨by rfl, ?hy5⟩) h0 ?rest5
  case hy5 => (intro w hSw; (try dsimp only at hSw); go_simp; try with_reducible rfl)
  simp only [Act.put, List.setIfInBounds_toArray, List.set_cons_zero, List.set_cons_succ]
  refine wpAnyH_take (i := 5) (oi := ⟨_, _, _, _, _, _⟩) (v := ?v6) rfl (by kernel_rfl) (by kernel_rfl) (by kernel_rfl) (fun _ _ _ h => h) (Or.inl ⟨by rfl, ?hy6⟩) h0 ?rest6
  case hy6 => (intro w hSw; (try dsimp only at hSw); go_simp; try with_reducible rfl)
  simp only [Act.put, List.setIfInBounds_toArray, List.set_cons_zero, List.set_cons_succ]
  refine wpAnyH_take (i := 6) (oi := ⟨_, _, _, _, _, _⟩) (v := ?v7) rfl (by kernel_rfl) (by kernel_rfl) (by kernel_rfl) (fun _ _ _ h => h) (Or.inl ⟨by rfl, ?hy7⟩) h0 ?rest7
  case hy7 => (intro w hSw; (try dsimp only at hSw); go_simp; try with_reducible rfl)
  simp only [Act.put, List.setIfInBounds_toArray, List.set_cons_zero, List.set_cons_succ]
  refine wpAnyH_take (i := 8) (oi := ⟨_, _, _, _, _, _⟩) (v := ?v8) rfl (by kernel_rfl) (by kernel_rfl) (by kernel_rfl) (fun _ _ _ h => h) (Or.inl ⟨by rfl, ?hy8⟩) h0 ?rest8
  case hy8 => (intro w hSw; (try dsimp only at hSw); go_simp; try with_reducible rfl)
  simp only [Act.put, List.setIfInBounds_toArray, List.set_cons_zero, List.set_cons_succ]
  refine wpAnyH_take (i := 9) (oi := ⟨_, _, _, _, _, _⟩) (v := ?v9) rfl (by kernel_rfl) (by kernel_rfl) (by kernel_rfl) (fun _ _ _ h => h) (Or.inl ⟨by rfl, ?hy9⟩) h0 ?rest9
  case hy9 => (intro w hSw; (try dsimp only at hSw); go_simp; try with_reducible rfl)
  simp only [Act.put, List.setIfInBounds_toArray, List.set_cons_zero, List.set_cons_succ]
  refine wpAnyH_take (i := 12) (oi := ⟨_, _, _, _, _, _⟩) (v := ?v10) rfl (by kernel_rfl) (by kernel_rfl) (by kernel_rfl) (fun _ _ _ h => h) (Or.inl ⟨by rfl, ?hy10⟩) h0 ?rest10
  case hy10 => (intro w hSw; (try dsimp only at hSw); go_simp; try with_reducible rfl)
  simp only [Act.put, List.setIfInBounds_toArray, List.set_cons_zero, List.set_cons_succ]
  refine wpAnyH_ready (rs := [7]) (by kernel_rfl) (by simp) ?_
  refine AllReadyH.cons (o := ⟨_, _, _, _, _, _⟩) rfl (fun K hK => ?_) AllReadyH.nil
  go_simp
  have h1 : ∀ o, Below w.heap.size w (W.alloc o).drew := fun o => (HB.out.1.alloc HB.out.1.size _).drew
  have e1 : ∀ o, (W.alloc o).drew.heap[W.heap.size]? = some o := fun o => heap_alloc_new W _
  refine hK.out _ _ (h1 _) (fun hHeld => ?_)
  clear hK K hHeld
  try simp only [Act.put, List.setIfInBounds_toArray, List.set_cons_zero, List.set_cons_succ]
  refine wpAnyH_mono (S' := fun w' => Below w.heap.size w w' ∧ w'.heap[W.heap.size]? = some fiveO) (fun _ h => h.1) _ _ _ _ ?_
  have PA := fun (w' : World) (h : Below w.heap.size w w' ∧ w'.heap[W.heap.size]? = some fiveO) => (five_cells h.2).1
  refine wpAnyH_take (i := 10) (oi := ⟨_, _, _, _, _, _⟩) (v := ?v11) rfl (by kernel_rfl) (by kernel_rfl) (by kernel_rfl) (fun _ _ _ h => h) (Or.inl ⟨by rfl, ?hy11⟩) ⟨h1 _, e1 _⟩ ?rest11
  case hy11 => (intro w hSw; (try dsimp only at hSw); go_simp; try with_reducible rfl)
  simp only [Act.put, List.setIfInBounds_toArray, List.set_cons_zero, List.set_cons_succ]
  refine wpAnyH_take (i := 11) (oi := ⟨_, _, _, _, _, _⟩) (v := ?v12) rfl (by kernel_rfl) (by kernel_rfl) (by kernel_rfl) (fun _ _ _ h => h) (Or.inl ⟨by rfl, ?hy12⟩) ⟨h1 _, e1 _⟩ ?rest12
  case hy12 => (intro w hSw; (try dsimp only at hSw); go_simp; try with_reducible rfl)
  simp only [Act.put, List.setIfInBounds_toArray, List.set_cons_zero, List.set_cons_succ]
  refine wpAnyH_take (i := 13) (oi := ⟨_, _, _, _, _, _⟩) (v := ?v13) rfl (by kernel_rfl) (by kernel_rfl) (by kernel_rfl) (fun _ _ _ h => h) (Or.inl ⟨by rfl, ?hy13⟩) ⟨h1 _, e1 _⟩ ?rest13
  case hy13 => (intro w hSw; (try dsimp only at hSw); go_simp; try with_reducible rfl)
  simp only [Act.put, List.setIfInBounds_toArray, List.set_cons_zero, List.set_cons_succ]
  clear PA
  obtain ⟨hB, q0⟩ := HB.out
  have q1 : ∀ o, (W.alloc o).heap[w.heap.size]? = some (.cells #[.string ⟨#[]⟩, .string ⟨#[]⟩, .bool false] 23) := fun o => (Below.heap_alloc W o _ (lt_of_heap q0)).trans q0
  have hne : W.heap.size ≠ w.heap.size := by have := lt_of_heap q0; omega
  have h2 : ∀ a b c, Below w.heap.size w ((((W.alloc fiveO).setCell ⟨w.heap.size, 0, none⟩ a).setCell ⟨w.heap.size, 1, none⟩ b).setCell ⟨w.heap.size, 2, none⟩ c).drew ∧ ((((W.alloc fiveO).setCell ⟨w.heap.size, 0, none⟩ a).setCell ⟨w.heap.size, 1, none⟩ b).setCell ⟨w.heap.size, 2, none⟩ c).heap[W.heap.size]? = some fiveO := fun a b c => ⟨((((hB.alloc hB.size _).setCell (Nat.le_refl _) _).setCell (Nat.le_refl _) _).setCell (Nat.le_refl _) _).drew, by rw [heap_setCell_ne _ _ _ hne, heap_setCell_ne _ _ _ hne, heap_setCell_ne _ _ _ hne]; exact heap_alloc_new W _⟩
  have r2 : ∀ o a b c, ((((W.alloc o).setCell ⟨w.heap.size, 0, none⟩ a).setCell ⟨w.heap.size, 1, none⟩ b).setCell ⟨w.heap.size, 2, none⟩ c).heap[w.heap.size]? = some (.cells #[a, b, c] 23 (0, 0)) := fun o a b c => by
    rw [setCell_row (setCell_row (setCell_row (q1 o) _) _) _]; rfl
  have hcat : (⟨#[105]⟩ : ByteArray) ++ (⟨#[48, 49, 50, 51, 52, 53, 54, 55, 56, 57]⟩ : ByteArray).extract 0 1 = ⟨#[105, 48]⟩ := by decide +kernel
  have HC := (show Hid _ from And.intro hcat (And.intro h2 r2))
  have y0 := fun o => (row3 (W := (W.alloc o).drew) (q1 o)).1
  have y1 := fun o => (row3 (W := (W.alloc o).drew) (q1 o)).2.1
  have y2 := fun o => (row3 (W := (W.alloc o).drew) (q1 o)).2.2.1
  have y3 := fun o => (row3 (W := (W.alloc o).drew) (q1 o)).2.2.2
  have x0 := fun o => (row3 (q1 o)).1
  have x1 := fun o => (row3 (q1 o)).2.1
  have x2 := fun o => (row3 (q1 o)).2.2.1
  have x3 := fun o => (row3 (q1 o)).2.2.2
  clear hB q0 h2 r2 hcat q1 HB h0 hne
  refine wpAnyH_ready (rs := [14]) (by kernel_rfl) (by simp) ?_
  refine AllReadyH.cons (o := ⟨_, _, _, _, _, _⟩) rfl (fun K hK => ?_) AllReadyH.nil
  go_simp
  refine hK.out _ _ (HC.out.2.1 _ _ _) (fun hHeld => ?_)
  clear hK K hHeld
  try simp only [Act.put, List.setIfInBounds_toArray, List.set_cons_zero, List.set_cons_succ]
  refine wpAnyH_done (by kernel_rfl) ?_ _
  clear x0 x1 x2 x3 y0 y1 y2 y3
  have z0 := fun o a b c => (row3 (HC.out.2.2 o a b c)).1
  have z1 := fun o a b c => (row3 (HC.out.2.2 o a b c)).2.1
  have z2 := fun o a b c => (row3 (HC.out.2.2 o a b c)).2.2.1
  go_wp2
  refine bodyPost_ret (v := .agg #[.string ((⟨#[105]⟩ : ByteArray) ++ (⟨#[48, 49, 50, 51, 52, 53, 54, 55, 56, 57]⟩ : ByteArray).extract 0 1), .string ⟨#[97]⟩, .bool u]) (by simp [results, Tryz.results15, go_sem, z0, z1, z2]) rfl ⟨by rw [HC.out.1], (HC.out.2.1 _ _ _).1⟩
set_option maxRecDepth 100000 in
theorem spec_1 (n : Int) (h10 : n.tmod 10 = 1) (h5 : n.tmod 5 = 1) (u : Bool) (w : World) :
    Calls Tryz.prog 15 #[.int .u8 n, .bool u] w fun e w' => e = .returned (.agg #[.string ⟨#[105, 49]⟩, .string ⟨#[98]⟩, .bool u]) ∧ Below w.heap.size w w' := by
  obtain ⟨W, hW⟩ : ∃ W, w.alloc (.cells #[.string ⟨#[]⟩, .string ⟨#[]⟩, .bool false] 23) = W := ⟨_, rfl⟩
  have hB : Below w.heap.size w W := by rw [← hW]; exact (Below.refl _ _).alloc (Nat.le_refl _) _
  have q0 : W.heap[w.heap.size]? = some (.cells #[.string ⟨#[]⟩, .string ⟨#[]⟩, .bool false] 23) := by rw [← hW]; exact heap_alloc_new _ _
  have wu : IntKind.u8.wrap 2 = 2 := by decide
  have HB := (show Hid _ from And.intro hB q0)
  clear hB q0
  go_enter Tryz.func15, Tryz.ntmps15
  go_wp2_with fail
  clear hW
  have h0 : (fun w' : World => Below w.heap.size w w') W.drew := HB.out.1.drew
  refine wp_region_held (S := fun w' => Below w.heap.size w w') mixedE ?_
  refine wpAnyH_take (i := 0) (oi := ⟨_, _, _, _, _, _⟩) (v := ?v14) rfl (by kernel_rfl) (by kernel_rfl) (by kernel_rfl) (fun _ _ _ h => h) (Or.inl ⟨by rfl, ?hy14⟩) h0 ?rest14
  case hy14 => (intro w hSw; (try dsimp only at hSw); go_simp; try with_reducible rfl)
  simp only [Act.put, List.setIfInBounds_toArray, List.set_cons_zero, List.set_cons_succ]
  refine wpAnyH_take (i := 1) (oi := ⟨_, _, _, _, _, _⟩) (v := ?v15) rfl (by kernel_rfl) (by kernel_rfl) (by kernel_rfl) (fun _ _ _ h => h) (Or.inl ⟨by rfl, ?hy15⟩) h0 ?rest15
  case hy15 => (intro w hSw; (try dsimp only at hSw); go_simp; try with_reducible rfl)
  simp only [Act.put, List.setIfInBounds_toArray, List.set_cons_zero, List.set_cons_succ]
  refine wpAnyH_take (i := 2) (oi := ⟨_, _, _, _, _, _⟩) (v := ?v16) rfl (by kernel_rfl) (by kernel_rfl) (by kernel_rfl) (fun _ _ _ h => h) (Or.inl ⟨by rfl, ?hy16⟩) h0 ?rest16
  case hy16 => (intro w hSw; (try dsimp only at hSw); go_simp; try with_reducible rfl)
  simp only [Act.put, List.setIfInBounds_toArray, List.set_cons_zero, List.set_cons_succ]
  refine wpAnyH_take (i := 3) (oi := ⟨_, _, _, _, _, _⟩) (v := ?v17) rfl (by kernel_rfl) (by kernel_rfl) (by kernel_rfl) (fun _ _ _ h => h) (Or.inl ⟨by rfl, ?hy17⟩) h0 ?rest17
  case hy17 => (intro w hSw; (try dsimp only at hSw); go_simp; try with_reducible rfl)
  simp only [Act.put, List.setIfInBounds_toArray, List.set_cons_zero, List.set_cons_succ]
  refine wpAnyH_take (i := 4) (oi := ⟨_, _, _, _, _, _⟩) (v := ?v18) rfl (by kernel_rfl) (by kernel_rfl) (by kernel_rfl) (fun _ _ _ h => h) (Or.inl ⟨by rfl, ?hy18⟩) h0 ?rest18
  case hy18 => (intro w hSw; (try dsimp only at hSw); go_simp; try with_reducible rfl)
  simp only [Act.put, List.setIfInBounds_toArray, List.set_cons_zero, List.set_cons_succ]
  refine wpAnyH_take (i := 5) (oi := ⟨_, _, _, _, _, _⟩) (v := ?v19) rfl (by kernel_rfl) (by kernel_rfl) (by kernel_rfl) (fun _ _ _ h => h) (Or.inl ⟨by rfl, ?hy19⟩) h0 ?rest19
  case hy19 => (intro w hSw; (try dsimp only at hSw); go_simp; try with_reducible rfl)
  simp only [Act.put, List.setIfInBounds_toArray, List.set_cons_zero, List.set_cons_succ]
  refine wpAnyH_take (i := 6) (oi := ⟨_, _, _, _, _, _⟩) (v := ?v20) rfl (by kernel_rfl) (by kernel_rfl) (by kernel_rfl) (fun _ _ _ h => h) (Or.inl ⟨by rfl, ?hy20⟩) h0 ?rest20
  case hy20 => (intro w hSw; (try dsimp only at hSw); go_simp; try with_reducible rfl)
  simp only [Act.put, List.setIfInBounds_toArray, List.set_cons_zero, List.set_cons_succ]
  refine wpAnyH_take (i := 8) (oi := ⟨_, _, _, _, _, _⟩) (v := ?v21) rfl (by kernel_rfl) (by kernel_rfl) (by kernel_rfl) (fun _ _ _ h => h) (Or.inl ⟨by rfl, ?hy21⟩) h0 ?rest21
  case hy21 => (intro w hSw; (try dsimp only at hSw); go_simp; try with_reducible rfl)
  simp only [Act.put, List.setIfInBounds_toArray, List.set_cons_zero, List.set_cons_succ]
  refine wpAnyH_take (i := 9) (oi := ⟨_, _, _, _, _, _⟩) (v := ?v22) rfl (by kernel_rfl) (by kernel_rfl) (by kernel_rfl) (fun _ _ _ h => h) (Or.inl ⟨by rfl, ?hy22⟩) h0 ?rest22
  case hy22 => (intro w hSw; (try dsimp only at hSw); go_simp; try with_reducible rfl)
  simp only [Act.put, List.setIfInBounds_toArray, List.set_cons_zero, List.set_cons_succ]
  refine wpAnyH_take (i := 12) (oi := ⟨_, _, _, _, _, _⟩) (v := ?v23) rfl (by kernel_rfl) (by kernel_rfl) (by kernel_rfl) (fun _ _ _ h => h) (Or.inl ⟨by rfl, ?hy23⟩) h0 ?rest23
  case hy23 => (intro w hSw; (try dsimp only at hSw); go_simp; try with_reducible rfl)
  simp only [Act.put, List.setIfInBounds_toArray, List.set_cons_zero, List.set_cons_succ]
  refine wpAnyH_ready (rs := [7]) (by kernel_rfl) (by simp) ?_
  refine AllReadyH.cons (o := ⟨_, _, _, _, _, _⟩) rfl (fun K hK => ?_) AllReadyH.nil
  go_simp
  have h1 : ∀ o, Below w.heap.size w (W.alloc o).drew := fun o => (HB.out.1.alloc HB.out.1.size _).drew
  have e1 : ∀ o, (W.alloc o).drew.heap[W.heap.size]? = some o := fun o => heap_alloc_new W _
  refine hK.out _ _ (h1 _) (fun hHeld => ?_)
  clear hK K hHeld
  try simp only [Act.put, List.setIfInBounds_toArray, List.set_cons_zero, List.set_cons_succ]
  refine wpAnyH_mono (S' := fun w' => Below w.heap.size w w' ∧ w'.heap[W.heap.size]? = some fiveO) (fun _ h => h.1) _ _ _ _ ?_
  have PA := fun (w' : World) (h : Below w.heap.size w w' ∧ w'.heap[W.heap.size]? = some fiveO) => (five_cells h.2).2.1
  refine wpAnyH_take (i := 10) (oi := ⟨_, _, _, _, _, _⟩) (v := ?v24) rfl (by kernel_rfl) (by kernel_rfl) (by kernel_rfl) (fun _ _ _ h => h) (Or.inl ⟨by rfl, ?hy24⟩) ⟨h1 _, e1 _⟩ ?rest24
  case hy24 => (intro w hSw; (try dsimp only at hSw); go_simp; try with_reducible rfl)
  simp only [Act.put, List.setIfInBounds_toArray, List.set_cons_zero, List.set_cons_succ]
  refine wpAnyH_take (i := 11) (oi := ⟨_, _, _, _, _, _⟩) (v := ?v25) rfl (by kernel_rfl) (by kernel_rfl) (by kernel_rfl) (fun _ _ _ h => h) (Or.inl ⟨by rfl, ?hy25⟩) ⟨h1 _, e1 _⟩ ?rest25
  case hy25 => (intro w hSw; (try dsimp only at hSw); go_simp; try with_reducible rfl)
  simp only [Act.put, List.setIfInBounds_toArray, List.set_cons_zero, List.set_cons_succ]
  refine wpAnyH_take (i := 13) (oi := ⟨_, _, _, _, _, _⟩) (v := ?v26) rfl (by kernel_rfl) (by kernel_rfl) (by kernel_rfl) (fun _ _ _ h => h) (Or.inl ⟨by rfl, ?hy26⟩) ⟨h1 _, e1 _⟩ ?rest26
  case hy26 => (intro w hSw; (try dsimp only at hSw); go_simp; try with_reducible rfl)
  simp only [Act.put, List.setIfInBounds_toArray, List.set_cons_zero, List.set_cons_succ]
  clear PA
  obtain ⟨hB, q0⟩ := HB.out
  have q1 : ∀ o, (W.alloc o).heap[w.heap.size]? = some (.cells #[.string ⟨#[]⟩, .string ⟨#[]⟩, .bool false] 23) := fun o => (Below.heap_alloc W o _ (lt_of_heap q0)).trans q0
  have hne : W.heap.size ≠ w.heap.size := by have := lt_of_heap q0; omega
  have h2 : ∀ a b c, Below w.heap.size w ((((W.alloc fiveO).setCell ⟨w.heap.size, 0, none⟩ a).setCell ⟨w.heap.size, 1, none⟩ b).setCell ⟨w.heap.size, 2, none⟩ c).drew ∧ ((((W.alloc fiveO).setCell ⟨w.heap.size, 0, none⟩ a).setCell ⟨w.heap.size, 1, none⟩ b).setCell ⟨w.heap.size, 2, none⟩ c).heap[W.heap.size]? = some fiveO := fun a b c => ⟨((((hB.alloc hB.size _).setCell (Nat.le_refl _) _).setCell (Nat.le_refl _) _).setCell (Nat.le_refl _) _).drew, by rw [heap_setCell_ne _ _ _ hne, heap_setCell_ne _ _ _ hne, heap_setCell_ne _ _ _ hne]; exact heap_alloc_new W _⟩
  have r2 : ∀ o a b c, ((((W.alloc o).setCell ⟨w.heap.size, 0, none⟩ a).setCell ⟨w.heap.size, 1, none⟩ b).setCell ⟨w.heap.size, 2, none⟩ c).heap[w.heap.size]? = some (.cells #[a, b, c] 23 (0, 0)) := fun o a b c => by
    rw [setCell_row (setCell_row (setCell_row (q1 o) _) _) _]; rfl
  have hcat : (⟨#[105]⟩ : ByteArray) ++ (⟨#[48, 49, 50, 51, 52, 53, 54, 55, 56, 57]⟩ : ByteArray).extract 1 2 = ⟨#[105, 49]⟩ := by decide +kernel
  have HC := (show Hid _ from And.intro hcat (And.intro h2 r2))
  have y0 := fun o => (row3 (W := (W.alloc o).drew) (q1 o)).1
  have y1 := fun o => (row3 (W := (W.alloc o).drew) (q1 o)).2.1
  have y2 := fun o => (row3 (W := (W.alloc o).drew) (q1 o)).2.2.1
  have y3 := fun o => (row3 (W := (W.alloc o).drew) (q1 o)).2.2.2
  have x0 := fun o => (row3 (q1 o)).1
  have x1 := fun o => (row3 (q1 o)).2.1
  have x2 := fun o => (row3 (q1 o)).2.2.1
  have x3 := fun o => (row3 (q1 o)).2.2.2
  clear hB q0 h2 r2 hcat q1 HB h0 hne
  refine wpAnyH_ready (rs := [14]) (by kernel_rfl) (by simp) ?_
  refine AllReadyH.cons (o := ⟨_, _, _, _, _, _⟩) rfl (fun K hK => ?_) AllReadyH.nil
  go_simp
  refine hK.out _ _ (HC.out.2.1 _ _ _) (fun hHeld => ?_)
  clear hK K hHeld
  try simp only [Act.put, List.setIfInBounds_toArray, List.set_cons_zero, List.set_cons_succ]
  refine wpAnyH_done (by kernel_rfl) ?_ _
  clear x0 x1 x2 x3 y0 y1 y2 y3
  have z0 := fun o a b c => (row3 (HC.out.2.2 o a b c)).1
  have z1 := fun o a b c => (row3 (HC.out.2.2 o a b c)).2.1
  have z2 := fun o a b c => (row3 (HC.out.2.2 o a b c)).2.2.1
  go_wp2
  refine bodyPost_ret (v := .agg #[.string ((⟨#[105]⟩ : ByteArray) ++ (⟨#[48, 49, 50, 51, 52, 53, 54, 55, 56, 57]⟩ : ByteArray).extract 1 2), .string ⟨#[98]⟩, .bool u]) (by simp [results, Tryz.results15, go_sem, z0, z1, z2]) rfl ⟨by rw [HC.out.1], (HC.out.2.1 _ _ _).1⟩
set_option maxRecDepth 100000 in
theorem spec_2 (n : Int) (h10 : n.tmod 10 = 2) (h5 : n.tmod 5 = 2) (u : Bool) (w : World) :
    Calls Tryz.prog 15 #[.int .u8 n, .bool u] w fun e w' => e = .returned (.agg #[.string ⟨#[105, 50]⟩, .string ⟨#[97, 46, 98]⟩, .bool u]) ∧ Below w.heap.size w w' := by
  obtain ⟨W, hW⟩ : ∃ W, w.alloc (.cells #[.string ⟨#[]⟩, .string ⟨#[]⟩, .bool false] 23) = W := ⟨_, rfl⟩
  have hB : Below w.heap.size w W := by rw [← hW]; exact (Below.refl _ _).alloc (Nat.le_refl _) _
  have q0 : W.heap[w.heap.size]? = some (.cells #[.string ⟨#[]⟩, .string ⟨#[]⟩, .bool false] 23) := by rw [← hW]; exact heap_alloc_new _ _
  have wu : IntKind.u8.wrap 3 = 3 := by decide
  have HB := (show Hid _ from And.intro hB q0)
  clear hB q0
  go_enter Tryz.func15, Tryz.ntmps15
  go_wp2_with fail
  clear hW
  have h0 : (fun w' : World => Below w.heap.size w w') W.drew := HB.out.1.drew
  refine wp_region_held (S := fun w' => Below w.heap.size w w') mixedE ?_
  refine wpAnyH_take (i := 0) (oi := ⟨_, _, _, _, _, _⟩) (v := ?v27) rfl (by kernel_rfl) (by kernel_rfl) (by kernel_rfl) (fun _ _ _ h => h) (Or.inl ⟨by rfl, ?hy27⟩) h0 ?rest27
  case hy27 => (intro w hSw; (try dsimp only at hSw); go_simp; try with_reducible rfl)
  simp only [Act.put, List.setIfInBounds_toArray, List.set_cons_zero, List.set_cons_succ]
  refine wpAnyH_take (i := 1) (oi := ⟨_, _, _, _, _, _⟩) (v := ?v28) rfl (by kernel_rfl) (by kernel_rfl) (by kernel_rfl) (fun _ _ _ h => h) (Or.inl ⟨by rfl, ?hy28⟩) h0 ?rest28
  case hy28 => (intro w hSw; (try dsimp only at hSw); go_simp; try with_reducible rfl)
  simp only [Act.put, List.setIfInBounds_toArray, List.set_cons_zero, List.set_cons_succ]
  refine wpAnyH_take (i := 2) (oi := ⟨_, _, _, _, _, _⟩) (v := ?v29) rfl (by kernel_rfl) (by kernel_rfl) (by kernel_rfl) (fun _ _ _ h => h) (Or.inl ⟨by rfl, ?hy29⟩) h0 ?rest29
  case hy29 => (intro w hSw; (try dsimp only at hSw); go_simp; try with_reducible rfl)
  simp only [Act.put, List.setIfInBounds_toArray, List.set_cons_zero, List.set_cons_succ]
  refine wpAnyH_take (i := 3) (oi := ⟨_, _, _, _, _, _⟩) (v := ?v30) rfl (by kernel_rfl) (by kernel_rfl) (by kernel_rfl) (fun _ _ _ h => h) (Or.inl ⟨by rfl, ?hy30⟩) h0 ?rest30
  case hy30 => (intro w hSw; (try dsimp only at hSw); go_simp; try with_reducible rfl)
  simp only [Act.put, List.setIfInBounds_toArray, List.set_cons_zero, List.set_cons_succ]
  refine wpAnyH_take (i := 4) (oi := ⟨_, _, _, _, _, _⟩) (v := ?v31) rfl (by kernel_rfl) (by kernel_rfl) (by kernel_rfl) (fun _ _ _ h => h) (Or.inl ⟨by rfl, ?hy31⟩) h0 ?rest31
  case hy31 => (intro w hSw; (try dsimp only at hSw); go_simp; try with_reducible rfl)
  simp only [Act.put, List.setIfInBounds_toArray, List.set_cons_zero, List.set_cons_succ]
  refine wpAnyH_take (i := 5) (oi := ⟨_, _, _, _, _, _⟩) (v := ?v32) rfl (by kernel_rfl) (by kernel_rfl) (by kernel_rfl) (fun _ _ _ h => h) (Or.inl ⟨by rfl, ?hy32⟩) h0 ?rest32
  case hy32 => (intro w hSw; (try dsimp only at hSw); go_simp; try with_reducible rfl)
  simp only [Act.put, List.setIfInBounds_toArray, List.set_cons_zero, List.set_cons_succ]
  refine wpAnyH_take (i := 6) (oi := ⟨_, _, _, _, _, _⟩) (v := ?v33) rfl (by kernel_rfl) (by kernel_rfl) (by kernel_rfl) (fun _ _ _ h => h) (Or.inl ⟨by rfl, ?hy33⟩) h0 ?rest33
  case hy33 => (intro w hSw; (try dsimp only at hSw); go_simp; try with_reducible rfl)
  simp only [Act.put, List.setIfInBounds_toArray, List.set_cons_zero, List.set_cons_succ]
  refine wpAnyH_take (i := 8) (oi := ⟨_, _, _, _, _, _⟩) (v := ?v34) rfl (by kernel_rfl) (by kernel_rfl) (by kernel_rfl) (fun _ _ _ h => h) (Or.inl ⟨by rfl, ?hy34⟩) h0 ?rest34
  case hy34 => (intro w hSw; (try dsimp only at hSw); go_simp; try with_reducible rfl)
  simp only [Act.put, List.setIfInBounds_toArray, List.set_cons_zero, List.set_cons_succ]
  refine wpAnyH_take (i := 9) (oi := ⟨_, _, _, _, _, _⟩) (v := ?v35) rfl (by kernel_rfl) (by kernel_rfl) (by kernel_rfl) (fun _ _ _ h => h) (Or.inl ⟨by rfl, ?hy35⟩) h0 ?rest35
  case hy35 => (intro w hSw; (try dsimp only at hSw); go_simp; try with_reducible rfl)
  simp only [Act.put, List.setIfInBounds_toArray, List.set_cons_zero, List.set_cons_succ]
  refine wpAnyH_take (i := 12) (oi := ⟨_, _, _, _, _, _⟩) (v := ?v36) rfl (by kernel_rfl) (by kernel_rfl) (by kernel_rfl) (fun _ _ _ h => h) (Or.inl ⟨by rfl, ?hy36⟩) h0 ?rest36
  case hy36 => (intro w hSw; (try dsimp only at hSw); go_simp; try with_reducible rfl)
  simp only [Act.put, List.setIfInBounds_toArray, List.set_cons_zero, List.set_cons_succ]
  refine wpAnyH_ready (rs := [7]) (by kernel_rfl) (by simp) ?_
  refine AllReadyH.cons (o := ⟨_, _, _, _, _, _⟩) rfl (fun K hK => ?_) AllReadyH.nil
  go_simp
  have h1 : ∀ o, Below w.heap.size w (W.alloc o).drew := fun o => (HB.out.1.alloc HB.out.1.size _).drew
  have e1 : ∀ o, (W.alloc o).drew.heap[W.heap.size]? = some o := fun o => heap_alloc_new W _
  refine hK.out _ _ (h1 _) (fun hHeld => ?_)
  clear hK K hHeld
  try simp only [Act.put, List.setIfInBounds_toArray, List.set_cons_zero, List.set_cons_succ]
  refine wpAnyH_mono (S' := fun w' => Below w.heap.size w w' ∧ w'.heap[W.heap.size]? = some fiveO) (fun _ h => h.1) _ _ _ _ ?_
  have PA := fun (w' : World) (h : Below w.heap.size w w' ∧ w'.heap[W.heap.size]? = some fiveO) => (five_cells h.2).2.2.1
  refine wpAnyH_take (i := 10) (oi := ⟨_, _, _, _, _, _⟩) (v := ?v37) rfl (by kernel_rfl) (by kernel_rfl) (by kernel_rfl) (fun _ _ _ h => h) (Or.inl ⟨by rfl, ?hy37⟩) ⟨h1 _, e1 _⟩ ?rest37
  case hy37 => (intro w hSw; (try dsimp only at hSw); go_simp; try with_reducible rfl)
  simp only [Act.put, List.setIfInBounds_toArray, List.set_cons_zero, List.set_cons_succ]
  refine wpAnyH_take (i := 11) (oi := ⟨_, _, _, _, _, _⟩) (v := ?v38) rfl (by kernel_rfl) (by kernel_rfl) (by kernel_rfl) (fun _ _ _ h => h) (Or.inl ⟨by rfl, ?hy38⟩) ⟨h1 _, e1 _⟩ ?rest38
  case hy38 => (intro w hSw; (try dsimp only at hSw); go_simp; try with_reducible rfl)
  simp only [Act.put, List.setIfInBounds_toArray, List.set_cons_zero, List.set_cons_succ]
  refine wpAnyH_take (i := 13) (oi := ⟨_, _, _, _, _, _⟩) (v := ?v39) rfl (by kernel_rfl) (by kernel_rfl) (by kernel_rfl) (fun _ _ _ h => h) (Or.inl ⟨by rfl, ?hy39⟩) ⟨h1 _, e1 _⟩ ?rest39
  case hy39 => (intro w hSw; (try dsimp only at hSw); go_simp; try with_reducible rfl)
  simp only [Act.put, List.setIfInBounds_toArray, List.set_cons_zero, List.set_cons_succ]
  clear PA
  obtain ⟨hB, q0⟩ := HB.out
  have q1 : ∀ o, (W.alloc o).heap[w.heap.size]? = some (.cells #[.string ⟨#[]⟩, .string ⟨#[]⟩, .bool false] 23) := fun o => (Below.heap_alloc W o _ (lt_of_heap q0)).trans q0
  have hne : W.heap.size ≠ w.heap.size := by have := lt_of_heap q0; omega
  have h2 : ∀ a b c, Below w.heap.size w ((((W.alloc fiveO).setCell ⟨w.heap.size, 0, none⟩ a).setCell ⟨w.heap.size, 1, none⟩ b).setCell ⟨w.heap.size, 2, none⟩ c).drew ∧ ((((W.alloc fiveO).setCell ⟨w.heap.size, 0, none⟩ a).setCell ⟨w.heap.size, 1, none⟩ b).setCell ⟨w.heap.size, 2, none⟩ c).heap[W.heap.size]? = some fiveO := fun a b c => ⟨((((hB.alloc hB.size _).setCell (Nat.le_refl _) _).setCell (Nat.le_refl _) _).setCell (Nat.le_refl _) _).drew, by rw [heap_setCell_ne _ _ _ hne, heap_setCell_ne _ _ _ hne, heap_setCell_ne _ _ _ hne]; exact heap_alloc_new W _⟩
  have r2 : ∀ o a b c, ((((W.alloc o).setCell ⟨w.heap.size, 0, none⟩ a).setCell ⟨w.heap.size, 1, none⟩ b).setCell ⟨w.heap.size, 2, none⟩ c).heap[w.heap.size]? = some (.cells #[a, b, c] 23 (0, 0)) := fun o a b c => by
    rw [setCell_row (setCell_row (setCell_row (q1 o) _) _) _]; rfl
  have hcat : (⟨#[105]⟩ : ByteArray) ++ (⟨#[48, 49, 50, 51, 52, 53, 54, 55, 56, 57]⟩ : ByteArray).extract 2 3 = ⟨#[105, 50]⟩ := by decide +kernel
  have HC := (show Hid _ from And.intro hcat (And.intro h2 r2))
  have y0 := fun o => (row3 (W := (W.alloc o).drew) (q1 o)).1
  have y1 := fun o => (row3 (W := (W.alloc o).drew) (q1 o)).2.1
  have y2 := fun o => (row3 (W := (W.alloc o).drew) (q1 o)).2.2.1
  have y3 := fun o => (row3 (W := (W.alloc o).drew) (q1 o)).2.2.2
  have x0 := fun o => (row3 (q1 o)).1
  have x1 := fun o => (row3 (q1 o)).2.1
  have x2 := fun o => (row3 (q1 o)).2.2.1
  have x3 := fun o => (row3 (q1 o)).2.2.2
  clear hB q0 h2 r2 hcat q1 HB h0 hne
  refine wpAnyH_ready (rs := [14]) (by kernel_rfl) (by simp) ?_
  refine AllReadyH.cons (o := ⟨_, _, _, _, _, _⟩) rfl (fun K hK => ?_) AllReadyH.nil
  go_simp
  refine hK.out _ _ (HC.out.2.1 _ _ _) (fun hHeld => ?_)
  clear hK K hHeld
  try simp only [Act.put, List.setIfInBounds_toArray, List.set_cons_zero, List.set_cons_succ]
  refine wpAnyH_done (by kernel_rfl) ?_ _
  clear x0 x1 x2 x3 y0 y1 y2 y3
  have z0 := fun o a b c => (row3 (HC.out.2.2 o a b c)).1
  have z1 := fun o a b c => (row3 (HC.out.2.2 o a b c)).2.1
  have z2 := fun o a b c => (row3 (HC.out.2.2 o a b c)).2.2.1
  go_wp2
  refine bodyPost_ret (v := .agg #[.string ((⟨#[105]⟩ : ByteArray) ++ (⟨#[48, 49, 50, 51, 52, 53, 54, 55, 56, 57]⟩ : ByteArray).extract 2 3), .string ⟨#[97, 46, 98]⟩, .bool u]) (by simp [results, Tryz.results15, go_sem, z0, z1, z2]) rfl ⟨by rw [HC.out.1], (HC.out.2.1 _ _ _).1⟩
set_option maxRecDepth 100000 in
theorem spec_3 (n : Int) (h10 : n.tmod 10 = 3) (h5 : n.tmod 5 = 3) (u : Bool) (w : World) :
    Calls Tryz.prog 15 #[.int .u8 n, .bool u] w fun e w' => e = .returned (.agg #[.string ⟨#[105, 51]⟩, .string ⟨#[99, 46, 48]⟩, .bool u]) ∧ Below w.heap.size w w' := by
  obtain ⟨W, hW⟩ : ∃ W, w.alloc (.cells #[.string ⟨#[]⟩, .string ⟨#[]⟩, .bool false] 23) = W := ⟨_, rfl⟩
  have hB : Below w.heap.size w W := by rw [← hW]; exact (Below.refl _ _).alloc (Nat.le_refl _) _
  have q0 : W.heap[w.heap.size]? = some (.cells #[.string ⟨#[]⟩, .string ⟨#[]⟩, .bool false] 23) := by rw [← hW]; exact heap_alloc_new _ _
  have wu : IntKind.u8.wrap 4 = 4 := by decide
  have HB := (show Hid _ from And.intro hB q0)
  clear hB q0
  go_enter Tryz.func15, Tryz.ntmps15
  go_wp2_with fail
  clear hW
  have h0 : (fun w' : World => Below w.heap.size w w') W.drew := HB.out.1.drew
  refine wp_region_held (S := fun w' => Below w.heap.size w w') mixedE ?_
  refine wpAnyH_take (i := 0) (oi := ⟨_, _, _, _, _, _⟩) (v := ?v40) rfl (by kernel_rfl) (by kernel_rfl) (by kernel_rfl) (fun _ _ _ h => h) (Or.inl ⟨by rfl, ?hy40⟩) h0 ?rest40
  case hy40 => (intro w hSw; (try dsimp only at hSw); go_simp; try with_reducible rfl)
  simp only [Act.put, List.setIfInBounds_toArray, List.set_cons_zero, List.set_cons_succ]
  refine wpAnyH_take (i := 1) (oi := ⟨_, _, _, _, _, _⟩) (v := ?v41) rfl (by kernel_rfl) (by kernel_rfl) (by kernel_rfl) (fun _ _ _ h => h) (Or.inl ⟨by rfl, ?hy41⟩) h0 ?rest41
  case hy41 => (intro w hSw; (try dsimp only at hSw); go_simp; try with_reducible rfl)
  simp only [Act.put, List.setIfInBounds_toArray, List.set_cons_zero, List.set_cons_succ]
  refine wpAnyH_take (i := 2) (oi := ⟨_, _, _, _, _, _⟩) (v := ?v42) rfl (by kernel_rfl) (by kernel_rfl) (by kernel_rfl) (fun _ _ _ h => h) (Or.inl ⟨by rfl, ?hy42⟩) h0 ?rest42
  case hy42 => (intro w hSw; (try dsimp only at hSw); go_simp; try with_reducible rfl)
  simp only [Act.put, List.setIfInBounds_toArray, List.set_cons_zero, List.set_cons_succ]
  refine wpAnyH_take (i := 3) (oi := ⟨_, _, _, _, _, _⟩) (v := ?v43) rfl (by kernel_rfl) (by kernel_rfl) (by kernel_rfl) (fun _ _ _ h => h) (Or.inl ⟨by rfl, ?hy43⟩) h0 ?rest43
  case hy43 => (intro w hSw; (try dsimp only at hSw); go_simp; try with_reducible rfl)
  simp only [Act.put, List.setIfInBounds_toArray, List.set_cons_zero, List.set_cons_succ]
  refine wpAnyH_take (i := 4) (oi := ⟨_, _, _, _, _, _⟩) (v := ?v44) rfl (by kernel_rfl) (by kernel_rfl) (by kernel_rfl) (fun _ _ _ h => h) (Or.inl ⟨by rfl, ?hy44⟩) h0 ?rest44
  case hy44 => (intro w hSw; (try dsimp only at hSw); go_simp; try with_reducible rfl)
  simp only [Act.put, List.setIfInBounds_toArray, List.set_cons_zero, List.set_cons_succ]
  refine wpAnyH_take (i := 5) (oi := ⟨_, _, _, _, _, _⟩) (v := ?v45) rfl (by kernel_rfl) (by kernel_rfl) (by kernel_rfl) (fun _ _ _ h => h) (Or.inl ⟨by rfl, ?hy45⟩) h0 ?rest45
  case hy45 => (intro w hSw; (try dsimp only at hSw); go_simp; try with_reducible rfl)
  simp only [Act.put, List.setIfInBounds_toArray, List.set_cons_zero, List.set_cons_succ]
  refine wpAnyH_take (i := 6) (oi := ⟨_, _, _, _, _, _⟩) (v := ?v46) rfl (by kernel_rfl) (by kernel_rfl) (by kernel_rfl) (fun _ _ _ h => h) (Or.inl ⟨by rfl, ?hy46⟩) h0 ?rest46
  case hy46 => (intro w hSw; (try dsimp only at hSw); go_simp; try with_reducible rfl)
  simp only [Act.put, List.setIfInBounds_toArray, List.set_cons_zero, List.set_cons_succ]
  refine wpAnyH_take (i := 8) (oi := ⟨_, _, _, _, _, _⟩) (v := ?v47) rfl (by kernel_rfl) (by kernel_rfl) (by kernel_rfl) (fun _ _ _ h => h) (Or.inl ⟨by rfl, ?hy47⟩) h0 ?rest47
  case hy47 => (intro w hSw; (try dsimp only at hSw); go_simp; try with_reducible rfl)
  simp only [Act.put, List.setIfInBounds_toArray, List.set_cons_zero, List.set_cons_succ]
  refine wpAnyH_take (i := 9) (oi := ⟨_, _, _, _, _, _⟩) (v := ?v48) rfl (by kernel_rfl) (by kernel_rfl) (by kernel_rfl) (fun _ _ _ h => h) (Or.inl ⟨by rfl, ?hy48⟩) h0 ?rest48
  case hy48 => (intro w hSw; (try dsimp only at hSw); go_simp; try with_reducible rfl)
  simp only [Act.put, List.setIfInBounds_toArray, List.set_cons_zero, List.set_cons_succ]
  refine wpAnyH_take (i := 12) (oi := ⟨_, _, _, _, _, _⟩) (v := ?v49) rfl (by kernel_rfl) (by kernel_rfl) (by kernel_rfl) (fun _ _ _ h => h) (Or.inl ⟨by rfl, ?hy49⟩) h0 ?rest49
  case hy49 => (intro w hSw; (try dsimp only at hSw); go_simp; try with_reducible rfl)
  simp only [Act.put, List.setIfInBounds_toArray, List.set_cons_zero, List.set_cons_succ]
  refine wpAnyH_ready (rs := [7]) (by kernel_rfl) (by simp) ?_
  refine AllReadyH.cons (o := ⟨_, _, _, _, _, _⟩) rfl (fun K hK => ?_) AllReadyH.nil
  go_simp
  have h1 : ∀ o, Below w.heap.size w (W.alloc o).drew := fun o => (HB.out.1.alloc HB.out.1.size _).drew
  have e1 : ∀ o, (W.alloc o).drew.heap[W.heap.size]? = some o := fun o => heap_alloc_new W _
  refine hK.out _ _ (h1 _) (fun hHeld => ?_)
  clear hK K hHeld
  try simp only [Act.put, List.setIfInBounds_toArray, List.set_cons_zero, List.set_cons_succ]
  refine wpAnyH_mono (S' := fun w' => Below w.heap.size w w' ∧ w'.heap[W.heap.size]? = some fiveO) (fun _ h => h.1) _ _ _ _ ?_
  have PA := fun (w' : World) (h : Below w.heap.size w w' ∧ w'.heap[W.heap.size]? = some fiveO) => (five_cells h.2).2.2.2.1
  refine wpAnyH_take (i := 10) (oi := ⟨_, _, _, _, _, _⟩) (v := ?v50) rfl (by kernel_rfl) (by kernel_rfl) (by kernel_rfl) (fun _ _ _ h => h) (Or.inl ⟨by rfl, ?hy50⟩) ⟨h1 _, e1 _⟩ ?rest50
  case hy50 => (intro w hSw; (try dsimp only at hSw); go_simp; try with_reducible rfl)
  simp only [Act.put, List.setIfInBounds_toArray, List.set_cons_zero, List.set_cons_succ]
  refine wpAnyH_take (i := 11) (oi := ⟨_, _, _, _, _, _⟩) (v := ?v51) rfl (by kernel_rfl) (by kernel_rfl) (by kernel_rfl) (fun _ _ _ h => h) (Or.inl ⟨by rfl, ?hy51⟩) ⟨h1 _, e1 _⟩ ?rest51
  case hy51 => (intro w hSw; (try dsimp only at hSw); go_simp; try with_reducible rfl)
  simp only [Act.put, List.setIfInBounds_toArray, List.set_cons_zero, List.set_cons_succ]
  refine wpAnyH_take (i := 13) (oi := ⟨_, _, _, _, _, _⟩) (v := ?v52) rfl (by kernel_rfl) (by kernel_rfl) (by kernel_rfl) (fun _ _ _ h => h) (Or.inl ⟨by rfl, ?hy52⟩) ⟨h1 _, e1 _⟩ ?rest52
  case hy52 => (intro w hSw; (try dsimp only at hSw); go_simp; try with_reducible rfl)
  simp only [Act.put, List.setIfInBounds_toArray, List.set_cons_zero, List.set_cons_succ]
  clear PA
  obtain ⟨hB, q0⟩ := HB.out
  have q1 : ∀ o, (W.alloc o).heap[w.heap.size]? = some (.cells #[.string ⟨#[]⟩, .string ⟨#[]⟩, .bool false] 23) := fun o => (Below.heap_alloc W o _ (lt_of_heap q0)).trans q0
  have hne : W.heap.size ≠ w.heap.size := by have := lt_of_heap q0; omega
  have h2 : ∀ a b c, Below w.heap.size w ((((W.alloc fiveO).setCell ⟨w.heap.size, 0, none⟩ a).setCell ⟨w.heap.size, 1, none⟩ b).setCell ⟨w.heap.size, 2, none⟩ c).drew ∧ ((((W.alloc fiveO).setCell ⟨w.heap.size, 0, none⟩ a).setCell ⟨w.heap.size, 1, none⟩ b).setCell ⟨w.heap.size, 2, none⟩ c).heap[W.heap.size]? = some fiveO := fun a b c => ⟨((((hB.alloc hB.size _).setCell (Nat.le_refl _) _).setCell (Nat.le_refl _) _).setCell (Nat.le_refl _) _).drew, by rw [heap_setCell_ne _ _ _ hne, heap_setCell_ne _ _ _ hne, heap_setCell_ne _ _ _ hne]; exact heap_alloc_new W _⟩
  have r2 : ∀ o a b c, ((((W.alloc o).setCell ⟨w.heap.size, 0, none⟩ a).setCell ⟨w.heap.size, 1, none⟩ b).setCell ⟨w.heap.size, 2, none⟩ c).heap[w.heap.size]? = some (.cells #[a, b, c] 23 (0, 0)) := fun o a b c => by
    rw [setCell_row (setCell_row (setCell_row (q1 o) _) _) _]; rfl
  have hcat : (⟨#[105]⟩ : ByteArray) ++ (⟨#[48, 49, 50, 51, 52, 53, 54, 55, 56, 57]⟩ : ByteArray).extract 3 4 = ⟨#[105, 51]⟩ := by decide +kernel
  have HC := (show Hid _ from And.intro hcat (And.intro h2 r2))
  have y0 := fun o => (row3 (W := (W.alloc o).drew) (q1 o)).1
  have y1 := fun o => (row3 (W := (W.alloc o).drew) (q1 o)).2.1
  have y2 := fun o => (row3 (W := (W.alloc o).drew) (q1 o)).2.2.1
  have y3 := fun o => (row3 (W := (W.alloc o).drew) (q1 o)).2.2.2
  have x0 := fun o => (row3 (q1 o)).1
  have x1 := fun o => (row3 (q1 o)).2.1
  have x2 := fun o => (row3 (q1 o)).2.2.1
  have x3 := fun o => (row3 (q1 o)).2.2.2
  clear hB q0 h2 r2 hcat q1 HB h0 hne
  refine wpAnyH_ready (rs := [14]) (by kernel_rfl) (by simp) ?_
  refine AllReadyH.cons (o := ⟨_, _, _, _, _, _⟩) rfl (fun K hK => ?_) AllReadyH.nil
  go_simp
  refine hK.out _ _ (HC.out.2.1 _ _ _) (fun hHeld => ?_)
  clear hK K hHeld
  try simp only [Act.put, List.setIfInBounds_toArray, List.set_cons_zero, List.set_cons_succ]
  refine wpAnyH_done (by kernel_rfl) ?_ _
  clear x0 x1 x2 x3 y0 y1 y2 y3
  have z0 := fun o a b c => (row3 (HC.out.2.2 o a b c)).1
  have z1 := fun o a b c => (row3 (HC.out.2.2 o a b c)).2.1
  have z2 := fun o a b c => (row3 (HC.out.2.2 o a b c)).2.2.1
  go_wp2
  refine bodyPost_ret (v := .agg #[.string ((⟨#[105]⟩ : ByteArray) ++ (⟨#[48, 49, 50, 51, 52, 53, 54, 55, 56, 57]⟩ : ByteArray).extract 3 4), .string ⟨#[99, 46, 48]⟩, .bool u]) (by simp [results, Tryz.results15, go_sem, z0, z1, z2]) rfl ⟨by rw [HC.out.1], (HC.out.2.1 _ _ _).1⟩
set_option maxRecDepth 100000 in
theorem spec_4 (n : Int) (h10 : n.tmod 10 = 4) (h5 : n.tmod 5 = 4) (u : Bool) (w : World) :
    Calls Tryz.prog 15 #[.int .u8 n, .bool u] w fun e w' => e = .returned (.agg #[.string ⟨#[105, 52]⟩, .string ⟨#[110]⟩, .bool u]) ∧ Below w.heap.size w w' := by
  obtain ⟨W, hW⟩ : ∃ W, w.alloc (.cells #[.string ⟨#[]⟩, .string ⟨#[]⟩, .bool false] 23) = W := ⟨_, rfl⟩
  have hB : Below w.heap.size w W := by rw [← hW]; exact (Below.refl _ _).alloc (Nat.le_refl _) _
  have q0 : W.heap[w.heap.size]? = some (.cells #[.string ⟨#[]⟩, .string ⟨#[]⟩, .bool false] 23) := by rw [← hW]; exact heap_alloc_new _ _
  have wu : IntKind.u8.wrap 5 = 5 := by decide
  have HB := (show Hid _ from And.intro hB q0)
  clear hB q0
  go_enter Tryz.func15, Tryz.ntmps15
  go_wp2_with fail
  clear hW
  have h0 : (fun w' : World => Below w.heap.size w w') W.drew := HB.out.1.drew
  refine wp_region_held (S := fun w' => Below w.heap.size w w') mixedE ?_
  refine wpAnyH_take (i := 0) (oi := ⟨_, _, _, _, _, _⟩) (v := ?v53) rfl (by kernel_rfl) (by kernel_rfl) (by kernel_rfl) (fun _ _ _ h => h) (Or.inl ⟨by rfl, ?hy53⟩) h0 ?rest53
  case hy53 => (intro w hSw; (try dsimp only at hSw); go_simp; try with_reducible rfl)
  simp only [Act.put, List.setIfInBounds_toArray, List.set_cons_zero, List.set_cons_succ]
  refine wpAnyH_take (i := 1) (oi := ⟨_, _, _, _, _, _⟩) (v := ?v54) rfl (by kernel_rfl) (by kernel_rfl) (by kernel_rfl) (fun _ _ _ h => h) (Or.inl ⟨by rfl, ?hy54⟩) h0 ?rest54
  case hy54 => (intro w hSw; (try dsimp only at hSw); go_simp; try with_reducible rfl)
  simp only [Act.put, List.setIfInBounds_toArray, List.set_cons_zero, List.set_cons_succ]
  refine wpAnyH_take (i := 2) (oi := ⟨_, _, _, _, _, _⟩) (v := ?v55) rfl (by kernel_rfl) (by kernel_rfl) (by kernel_rfl) (fun _ _ _ h => h) (Or.inl ⟨by rfl, ?hy55⟩) h0 ?rest55
  case hy55 => (intro w hSw; (try dsimp only at hSw); go_simp; try with_reducible rfl)
  simp only [Act.put, List.setIfInBounds_toArray, List.set_cons_zero, List.set_cons_succ]
  refine wpAnyH_take (i := 3) (oi := ⟨_, _, _, _, _, _⟩) (v := ?v56) rfl (by kernel_rfl) (by kernel_rfl) (by kernel_rfl) (fun _ _ _ h => h) (Or.inl ⟨by rfl, ?hy56⟩) h0 ?rest56
  case hy56 => (intro w hSw; (try dsimp only at hSw); go_simp; try with_reducible rfl)
  simp only [Act.put, List.setIfInBounds_toArray, List.set_cons_zero, List.set_cons_succ]
  refine wpAnyH_take (i := 4) (oi := ⟨_, _, _, _, _, _⟩) (v := ?v57) rfl (by kernel_rfl) (by kernel_rfl) (by kernel_rfl) (fun _ _ _ h => h) (Or.inl ⟨by rfl, ?hy57⟩) h0 ?rest57
  case hy57 => (intro w hSw; (try dsimp only at hSw); go_simp; try with_reducible rfl)
  simp only [Act.put, List.setIfInBounds_toArray, List.set_cons_zero, List.set_cons_succ]
  refine wpAnyH_take (i := 5) (oi := ⟨_, _, _, _, _, _⟩) (v := ?v58) rfl (by kernel_rfl) (by kernel_rfl) (by kernel_rfl) (fun _ _ _ h => h) (Or.inl ⟨by rfl, ?hy58⟩) h0 ?rest58
  case hy58 => (intro w hSw; (try dsimp only at hSw); go_simp; try with_reducible rfl)
  simp only [Act.put, List.setIfInBounds_toArray, List.set_cons_zero, List.set_cons_succ]
  refine wpAnyH_take (i := 6) (oi := ⟨_, _, _, _, _, _⟩) (v := ?v59) rfl (by kernel_rfl) (by kernel_rfl) (by kernel_rfl) (fun _ _ _ h => h) (Or.inl ⟨by rfl, ?hy59⟩) h0 ?rest59
  case hy59 => (intro w hSw; (try dsimp only at hSw); go_simp; try with_reducible rfl)
  simp only [Act.put, List.setIfInBounds_toArray, List.set_cons_zero, List.set_cons_succ]
  refine wpAnyH_take (i := 8) (oi := ⟨_, _, _, _, _, _⟩) (v := ?v60) rfl (by kernel_rfl) (by kernel_rfl) (by kernel_rfl) (fun _ _ _ h => h) (Or.inl ⟨by rfl, ?hy60⟩) h0 ?rest60
  case hy60 => (intro w hSw; (try dsimp only at hSw); go_simp; try with_reducible rfl)
  simp only [Act.put, List.setIfInBounds_toArray, List.set_cons_zero, List.set_cons_succ]
  refine wpAnyH_take (i := 9) (oi := ⟨_, _, _, _, _, _⟩) (v := ?v61) rfl (by kernel_rfl) (by kernel_rfl) (by kernel_rfl) (fun _ _ _ h => h) (Or.inl ⟨by rfl, ?hy61⟩) h0 ?rest61
  case hy61 => (intro w hSw; (try dsimp only at hSw); go_simp; try with_reducible rfl)
  simp only [Act.put, List.setIfInBounds_toArray, List.set_cons_zero, List.set_cons_succ]
  refine wpAnyH_take (i := 12) (oi := ⟨_, _, _, _, _, _⟩) (v := ?v62) rfl (by kernel_rfl) (by kernel_rfl) (by kernel_rfl) (fun _ _ _ h => h) (Or.inl ⟨by rfl, ?hy62⟩) h0 ?rest62
  case hy62 => (intro w hSw; (try dsimp only at hSw); go_simp; try with_reducible rfl)
  simp only [Act.put, List.setIfInBounds_toArray, List.set_cons_zero, List.set_cons_succ]
  refine wpAnyH_ready (rs := [7]) (by kernel_rfl) (by simp) ?_
  refine AllReadyH.cons (o := ⟨_, _, _, _, _, _⟩) rfl (fun K hK => ?_) AllReadyH.nil
  go_simp
  have h1 : ∀ o, Below w.heap.size w (W.alloc o).drew := fun o => (HB.out.1.alloc HB.out.1.size _).drew
  have e1 : ∀ o, (W.alloc o).drew.heap[W.heap.size]? = some o := fun o => heap_alloc_new W _
  refine hK.out _ _ (h1 _) (fun hHeld => ?_)
  clear hK K hHeld
  try simp only [Act.put, List.setIfInBounds_toArray, List.set_cons_zero, List.set_cons_succ]
  refine wpAnyH_mono (S' := fun w' => Below w.heap.size w w' ∧ w'.heap[W.heap.size]? = some fiveO) (fun _ h => h.1) _ _ _ _ ?_
  have PA := fun (w' : World) (h : Below w.heap.size w w' ∧ w'.heap[W.heap.size]? = some fiveO) => (five_cells h.2).2.2.2.2
  refine wpAnyH_take (i := 10) (oi := ⟨_, _, _, _, _, _⟩) (v := ?v63) rfl (by kernel_rfl) (by kernel_rfl) (by kernel_rfl) (fun _ _ _ h => h) (Or.inl ⟨by rfl, ?hy63⟩) ⟨h1 _, e1 _⟩ ?rest63
  case hy63 => (intro w hSw; (try dsimp only at hSw); go_simp; try with_reducible rfl)
  simp only [Act.put, List.setIfInBounds_toArray, List.set_cons_zero, List.set_cons_succ]
  refine wpAnyH_take (i := 11) (oi := ⟨_, _, _, _, _, _⟩) (v := ?v64) rfl (by kernel_rfl) (by kernel_rfl) (by kernel_rfl) (fun _ _ _ h => h) (Or.inl ⟨by rfl, ?hy64⟩) ⟨h1 _, e1 _⟩ ?rest64
  case hy64 => (intro w hSw; (try dsimp only at hSw); go_simp; try with_reducible rfl)
  simp only [Act.put, List.setIfInBounds_toArray, List.set_cons_zero, List.set_cons_succ]
  refine wpAnyH_take (i := 13) (oi := ⟨_, _, _, _, _, _⟩) (v := ?v65) rfl (by kernel_rfl) (by kernel_rfl) (by kernel_rfl) (fun _ _ _ h => h) (Or.inl ⟨by rfl, ?hy65⟩) ⟨h1 _, e1 _⟩ ?rest65
  case hy65 => (intro w hSw; (try dsimp only at hSw); go_simp; try with_reducible rfl)
  simp only [Act.put, List.setIfInBounds_toArray, List.set_cons_zero, List.set_cons_succ]
  clear PA
  obtain ⟨hB, q0⟩ := HB.out
  have q1 : ∀ o, (W.alloc o).heap[w.heap.size]? = some (.cells #[.string ⟨#[]⟩, .string ⟨#[]⟩, .bool false] 23) := fun o => (Below.heap_alloc W o _ (lt_of_heap q0)).trans q0
  have hne : W.heap.size ≠ w.heap.size := by have := lt_of_heap q0; omega
  have h2 : ∀ a b c, Below w.heap.size w ((((W.alloc fiveO).setCell ⟨w.heap.size, 0, none⟩ a).setCell ⟨w.heap.size, 1, none⟩ b).setCell ⟨w.heap.size, 2, none⟩ c).drew ∧ ((((W.alloc fiveO).setCell ⟨w.heap.size, 0, none⟩ a).setCell ⟨w.heap.size, 1, none⟩ b).setCell ⟨w.heap.size, 2, none⟩ c).heap[W.heap.size]? = some fiveO := fun a b c => ⟨((((hB.alloc hB.size _).setCell (Nat.le_refl _) _).setCell (Nat.le_refl _) _).setCell (Nat.le_refl _) _).drew, by rw [heap_setCell_ne _ _ _ hne, heap_setCell_ne _ _ _ hne, heap_setCell_ne _ _ _ hne]; exact heap_alloc_new W _⟩
  have r2 : ∀ o a b c, ((((W.alloc o).setCell ⟨w.heap.size, 0, none⟩ a).setCell ⟨w.heap.size, 1, none⟩ b).setCell ⟨w.heap.size, 2, none⟩ c).heap[w.heap.size]? = some (.cells #[a, b, c] 23 (0, 0)) := fun o a b c => by
    rw [setCell_row (setCell_row (setCell_row (q1 o) _) _) _]; rfl
  have hcat : (⟨#[105]⟩ : ByteArray) ++ (⟨#[48, 49, 50, 51, 52, 53, 54, 55, 56, 57]⟩ : ByteArray).extract 4 5 = ⟨#[105, 52]⟩ := by decide +kernel
  have HC := (show Hid _ from And.intro hcat (And.intro h2 r2))
  have y0 := fun o => (row3 (W := (W.alloc o).drew) (q1 o)).1
  have y1 := fun o => (row3 (W := (W.alloc o).drew) (q1 o)).2.1
  have y2 := fun o => (row3 (W := (W.alloc o).drew) (q1 o)).2.2.1
  have y3 := fun o => (row3 (W := (W.alloc o).drew) (q1 o)).2.2.2
  have x0 := fun o => (row3 (q1 o)).1
  have x1 := fun o => (row3 (q1 o)).2.1
  have x2 := fun o => (row3 (q1 o)).2.2.1
  have x3 := fun o => (row3 (q1 o)).2.2.2
  clear hB q0 h2 r2 hcat q1 HB h0 hne
  refine wpAnyH_ready (rs := [14]) (by kernel_rfl) (by simp) ?_
  refine AllReadyH.cons (o := ⟨_, _, _, _, _, _⟩) rfl (fun K hK => ?_) AllReadyH.nil
  go_simp
  refine hK.out _ _ (HC.out.2.1 _ _ _) (fun hHeld => ?_)
  clear hK K hHeld
  try simp only [Act.put, List.setIfInBounds_toArray, List.set_cons_zero, List.set_cons_succ]
  refine wpAnyH_done (by kernel_rfl) ?_ _
  clear x0 x1 x2 x3 y0 y1 y2 y3
  have z0 := fun o a b c => (row3 (HC.out.2.2 o a b c)).1
  have z1 := fun o a b c => (row3 (HC.out.2.2 o a b c)).2.1
  have z2 := fun o a b c => (row3 (HC.out.2.2 o a b c)).2.2.1
  go_wp2
  refine bodyPost_ret (v := .agg #[.string ((⟨#[105]⟩ : ByteArray) ++ (⟨#[48, 49, 50, 51, 52, 53, 54, 55, 56, 57]⟩ : ByteArray).extract 4 5), .string ⟨#[110]⟩, .bool u]) (by simp [results, Tryz.results15, go_sem, z0, z1, z2]) rfl ⟨by rw [HC.out.1], (HC.out.2.1 _ _ _).1⟩
set_option maxRecDepth 100000 in
theorem spec_5 (n : Int) (h10 : n.tmod 10 = 5) (h5 : n.tmod 5 = 0) (u : Bool) (w : World) :
    Calls Tryz.prog 15 #[.int .u8 n, .bool u] w fun e w' => e = .returned (.agg #[.string ⟨#[105, 53]⟩, .string ⟨#[97]⟩, .bool u]) ∧ Below w.heap.size w w' := by
  obtain ⟨W, hW⟩ : ∃ W, w.alloc (.cells #[.string ⟨#[]⟩, .string ⟨#[]⟩, .bool false] 23) = W := ⟨_, rfl⟩
  have hB : Below w.heap.size w W := by rw [← hW]; exact (Below.refl _ _).alloc (Nat.le_refl _) _
  have q0 : W.heap[w.heap.size]? = some (.cells #[.string ⟨#[]⟩, .string ⟨#[]⟩, .bool false] 23) := by rw [← hW]; exact heap_alloc_new _ _
  have wu : IntKind.u8.wrap 6 = 6 := by decide
  have HB := (show Hid _ from And.intro hB q0)
  clear hB q0
  go_enter Tryz.func15, Tryz.ntmps15
  go_wp2_with fail
  clear hW
  have h0 : (fun w' : World => Below w.heap.size w w') W.drew := HB.out.1.drew
  refine wp_region_held (S := fun w' => Below w.heap.size w w') mixedE ?_
  refine wpAnyH_take (i := 0) (oi := ⟨_, _, _, _, _, _⟩) (v := ?v66) rfl (by kernel_rfl) (by kernel_rfl) (by kernel_rfl) (fun _ _ _ h => h) (Or.inl ⟨by rfl, ?hy66⟩) h0 ?rest66
  case hy66 => (intro w hSw; (try dsimp only at hSw); go_simp; try with_reducible rfl)
  simp only [Act.put, List.setIfInBounds_toArray, List.set_cons_zero, List.set_cons_succ]
  refine wpAnyH_take (i := 1) (oi := ⟨_, _, _, _, _, _⟩) (v := ?v67) rfl (by kernel_rfl) (by kernel_rfl) (by kernel_rfl) (fun _ _ _ h => h) (Or.inl ⟨by rfl, ?hy67⟩) h0 ?rest67
  case hy67 => (intro w hSw; (try dsimp only at hSw); go_simp; try with_reducible rfl)
  simp only [Act.put, List.setIfInBounds_toArray, List.set_cons_zero, List.set_cons_succ]
  refine wpAnyH_take (i := 2) (oi := ⟨_, _, _, _, _, _⟩) (v := ?v68) rfl (by kernel_rfl) (by kernel_rfl) (by kernel_rfl) (fun _ _ _ h => h) (Or.inl ⟨by rfl, ?hy68⟩) h0 ?rest68
  case hy68 => (intro w hSw; (try dsimp only at hSw); go_simp; try with_reducible rfl)
  simp only [Act.put, List.setIfInBounds_toArray, List.set_cons_zero, List.set_cons_succ]
  refine wpAnyH_take (i := 3) (oi := ⟨_, _, _, _, _, _⟩) (v := ?v69) rfl (by kernel_rfl) (by kernel_rfl) (by kernel_rfl) (fun _ _ _ h => h) (Or.inl ⟨by rfl, ?hy69⟩) h0 ?rest69
  case hy69 => (intro w hSw; (try dsimp only at hSw); go_simp; try with_reducible rfl)
  simp only [Act.put, List.setIfInBounds_toArray, List.set_cons_zero, List.set_cons_succ]
  refine wpAnyH_take (i := 4) (oi := ⟨_, _, _, _, _, _⟩) (v := ?v70) rfl (by kernel_rfl) (by kernel_rfl) (by kernel_rfl) (fun _ _ _ h => h) (Or.inl ⟨by rfl, ?hy70⟩) h0 ?rest70
  case hy70 => (intro w hSw; (try dsimp only at hSw); go_simp; try with_reducible rfl)
  simp only [Act.put, List.setIfInBounds_toArray, List.set_cons_zero, List.set_cons_succ]
  refine wpAnyH_take (i := 5) (oi := ⟨_, _, _, _, _, _⟩) (v := ?v71) rfl (by kernel_rfl) (by kernel_rfl) (by kernel_rfl) (fun _ _ _ h => h) (Or.inl ⟨by rfl, ?hy71⟩) h0 ?rest71
  case hy71 => (intro w hSw; (try dsimp only at hSw); go_simp; try with_reducible rfl)
  simp only [Act.put, List.setIfInBounds_toArray, List.set_cons_zero, List.set_cons_succ]
  refine wpAnyH_take (i := 6) (oi := ⟨_, _, _, _, _, _⟩) (v := ?v72) rfl (by kernel_rfl) (by kernel_rfl) (by kernel_rfl) (fun _ _ _ h => h) (Or.inl ⟨by rfl, ?hy72⟩) h0 ?rest72
  case hy72 => (intro w hSw; (try dsimp only at hSw); go_simp; try with_reducible rfl)
  simp only [Act.put, List.setIfInBounds_toArray, List.set_cons_zero, List.set_cons_succ]
  refine wpAnyH_take (i := 8) (oi := ⟨_, _, _, _, _, _⟩) (v := ?v73) rfl (by kernel_rfl) (by kernel_rfl) (by kernel_rfl) (fun _ _ _ h => h) (Or.inl ⟨by rfl, ?hy73⟩) h0 ?rest73
  case hy73 => (intro w hSw; (try dsimp only at hSw); go_simp; try with_reducible rfl)
  simp only [Act.put, List.setIfInBounds_toArray, List.set_cons_zero, List.set_cons_succ]
  refine wpAnyH_take (i := 9) (oi := ⟨_, _, _, _, _, _⟩) (v := ?v74) rfl (by kernel_rfl) (by kernel_rfl) (by kernel_rfl) (fun _ _ _ h => h) (Or.inl ⟨by rfl, ?hy74⟩) h0 ?rest74
  case hy74 => (intro w hSw; (try dsimp only at hSw); go_simp; try with_reducible rfl)
  simp only [Act.put, List.setIfInBounds_toArray, List.set_cons_zero, List.set_cons_succ]
  refine wpAnyH_take (i := 12) (oi := ⟨_, _, _, _, _, _⟩) (v := ?v75) rfl (by kernel_rfl) (by kernel_rfl) (by kernel_rfl) (fun _ _ _ h => h) (Or.inl ⟨by rfl, ?hy75⟩) h0 ?rest75
  case hy75 => (intro w hSw; (try dsimp only at hSw); go_simp; try with_reducible rfl)
  simp only [Act.put, List.setIfInBounds_toArray, List.set_cons_zero, List.set_cons_succ]
  refine wpAnyH_ready (rs := [7]) (by kernel_rfl) (by simp) ?_
  refine AllReadyH.cons (o := ⟨_, _, _, _, _, _⟩) rfl (fun K hK => ?_) AllReadyH.nil
  go_simp
  have h1 : ∀ o, Below w.heap.size w (W.alloc o).drew := fun o => (HB.out.1.alloc HB.out.1.size _).drew
  have e1 : ∀ o, (W.alloc o).drew.heap[W.heap.size]? = some o := fun o => heap_alloc_new W _
  refine hK.out _ _ (h1 _) (fun hHeld => ?_)
  clear hK K hHeld
  try simp only [Act.put, List.setIfInBounds_toArray, List.set_cons_zero, List.set_cons_succ]
  refine wpAnyH_mono (S' := fun w' => Below w.heap.size w w' ∧ w'.heap[W.heap.size]? = some fiveO) (fun _ h => h.1) _ _ _ _ ?_
  have PA := fun (w' : World) (h : Below w.heap.size w w' ∧ w'.heap[W.heap.size]? = some fiveO) => (five_cells h.2).1
  refine wpAnyH_take (i := 10) (oi := ⟨_, _, _, _, _, _⟩) (v := ?v76) rfl (by kernel_rfl) (by kernel_rfl) (by kernel_rfl) (fun _ _ _ h => h) (Or.inl ⟨by rfl, ?hy76⟩) ⟨h1 _, e1 _⟩ ?rest76
  case hy76 => (intro w hSw; (try dsimp only at hSw); go_simp; try with_reducible rfl)
  simp only [Act.put, List.setIfInBounds_toArray, List.set_cons_zero, List.set_cons_succ]
  refine wpAnyH_take (i := 11) (oi := ⟨_, _, _, _, _, _⟩) (v := ?v77) rfl (by kernel_rfl) (by kernel_rfl) (by kernel_rfl) (fun _ _ _ h => h) (Or.inl ⟨by rfl, ?hy77⟩) ⟨h1 _, e1 _⟩ ?rest77
  case hy77 => (intro w hSw; (try dsimp only at hSw); go_simp; try with_reducible rfl)
  simp only [Act.put, List.setIfInBounds_toArray, List.set_cons_zero, List.set_cons_succ]
  refine wpAnyH_take (i := 13) (oi := ⟨_, _, _, _, _, _⟩) (v := ?v78) rfl (by kernel_rfl) (by kernel_rfl) (by kernel_rfl) (fun _ _ _ h => h) (Or.inl ⟨by rfl, ?hy78⟩) ⟨h1 _, e1 _⟩ ?rest78
  case hy78 => (intro w hSw; (try dsimp only at hSw); go_simp; try with_reducible rfl)
  simp only [Act.put, List.setIfInBounds_toArray, List.set_cons_zero, List.set_cons_succ]
  clear PA
  obtain ⟨hB, q0⟩ := HB.out
  have q1 : ∀ o, (W.alloc o).heap[w.heap.size]? = some (.cells #[.string ⟨#[]⟩, .string ⟨#[]⟩, .bool false] 23) := fun o => (Below.heap_alloc W o _ (lt_of_heap q0)).trans q0
  have hne : W.heap.size ≠ w.heap.size := by have := lt_of_heap q0; omega
  have h2 : ∀ a b c, Below w.heap.size w ((((W.alloc fiveO).setCell ⟨w.heap.size, 0, none⟩ a).setCell ⟨w.heap.size, 1, none⟩ b).setCell ⟨w.heap.size, 2, none⟩ c).drew ∧ ((((W.alloc fiveO).setCell ⟨w.heap.size, 0, none⟩ a).setCell ⟨w.heap.size, 1, none⟩ b).setCell ⟨w.heap.size, 2, none⟩ c).heap[W.heap.size]? = some fiveO := fun a b c => ⟨((((hB.alloc hB.size _).setCell (Nat.le_refl _) _).setCell (Nat.le_refl _) _).setCell (Nat.le_refl _) _).drew, by rw [heap_setCell_ne _ _ _ hne, heap_setCell_ne _ _ _ hne, heap_setCell_ne _ _ _ hne]; exact heap_alloc_new W _⟩
  have r2 : ∀ o a b c, ((((W.alloc o).setCell ⟨w.heap.size, 0, none⟩ a).setCell ⟨w.heap.size, 1, none⟩ b).setCell ⟨w.heap.size, 2, none⟩ c).heap[w.heap.size]? = some (.cells #[a, b, c] 23 (0, 0)) := fun o a b c => by
    rw [setCell_row (setCell_row (setCell_row (q1 o) _) _) _]; rfl
  have hcat : (⟨#[105]⟩ : ByteArray) ++ (⟨#[48, 49, 50, 51, 52, 53, 54, 55, 56, 57]⟩ : ByteArray).extract 5 6 = ⟨#[105, 53]⟩ := by decide +kernel
  have HC := (show Hid _ from And.intro hcat (And.intro h2 r2))
  have y0 := fun o => (row3 (W := (W.alloc o).drew) (q1 o)).1
  have y1 := fun o => (row3 (W := (W.alloc o).drew) (q1 o)).2.1
  have y2 := fun o => (row3 (W := (W.alloc o).drew) (q1 o)).2.2.1
  have y3 := fun o => (row3 (W := (W.alloc o).drew) (q1 o)).2.2.2
  have x0 := fun o => (row3 (q1 o)).1
  have x1 := fun o => (row3 (q1 o)).2.1
  have x2 := fun o => (row3 (q1 o)).2.2.1
  have x3 := fun o => (row3 (q1 o)).2.2.2
  clear hB q0 h2 r2 hcat q1 HB h0 hne
  refine wpAnyH_ready (rs := [14]) (by kernel_rfl) (by simp) ?_
  refine AllReadyH.cons (o := ⟨_, _, _, _, _, _⟩) rfl (fun K hK => ?_) AllReadyH.nil
  go_simp
  refine hK.out _ _ (HC.out.2.1 _ _ _) (fun hHeld => ?_)
  clear hK K hHeld
  try simp only [Act.put, List.setIfInBounds_toArray, List.set_cons_zero, List.set_cons_succ]
  refine wpAnyH_done (by kernel_rfl) ?_ _
  clear x0 x1 x2 x3 y0 y1 y2 y3
  have z0 := fun o a b c => (row3 (HC.out.2.2 o a b c)).1
  have z1 := fun o a b c => (row3 (HC.out.2.2 o a b c)).2.1
  have z2 := fun o a b c => (row3 (HC.out.2.2 o a b c)).2.2.1
  go_wp2
  refine bodyPost_ret (v := .agg #[.string ((⟨#[105]⟩ : ByteArray) ++ (⟨#[48, 49, 50, 51, 52, 53, 54, 55, 56, 57]⟩ : ByteArray).extract 5 6), .string ⟨#[97]⟩, .bool u]) (by simp [results, Tryz.results15, go_sem, z0, z1, z2]) rfl ⟨by rw [HC.out.1], (HC.out.2.1 _ _ _).1⟩
set_option maxRecDepth 100000 in
theorem spec_6 (n : Int) (h10 : n.tmod 10 = 6) (h5 : n.tmod 5 = 1) (u : Bool) (w : World) :
    Calls Tryz.prog 15 #[.int .u8 n, .bool u] w fun e w' => e = .returned (.agg #[.string ⟨#[105, 54]⟩, .string ⟨#[98]⟩, .bool u]) ∧ Below w.heap.size w w' := by
  obtain ⟨W, hW⟩ : ∃ W, w.alloc (.cells #[.string ⟨#[]⟩, .string ⟨#[]⟩, .bool false] 23) = W := ⟨_, rfl⟩
  have hB : Below w.heap.size w W := by rw [← hW]; exact (Below.refl _ _).alloc (Nat.le_refl _) _
  have q0 : W.heap[w.heap.size]? = some (.cells #[.string ⟨#[]⟩, .string ⟨#[]⟩, .bool false] 23) := by rw [← hW]; exact heap_alloc_new _ _
  have wu : IntKind.u8.wrap 7 = 7 := by decide
  have HB := (show Hid _ from And.intro hB q0)
  clear hB q0
  go_enter Tryz.func15, Tryz.ntmps15
  go_wp2_with fail
  clear hW
  have h0 : (fun w' : World => Below w.heap.size w w') W.drew := HB.out.1.drew
  refine wp_region_held (S := fun w' => Below w.heap.size w w') mixedE ?_
  refine wpAnyH_take (i := 0) (oi := ⟨_, _, _, _, _, _⟩) (v := ?v79) rfl (by kernel_rfl) (by kernel_rfl) (by kernel_rfl) (fun _ _ _ h => h) (Or.inl ⟨by rfl, ?hy79⟩) h0 ?rest79
  case hy79 => (intro w hSw; (try dsimp only at hSw); go_simp; try with_reducible rfl)
  simp only [Act.put, List.setIfInBounds_toArray, List.set_cons_zero, List.set_cons_succ]
  refine wpAnyH_take (i := 1) (oi := ⟨_, _, _, _, _, _⟩) (v := ?v80) rfl (by kernel_rfl) (by kernel_rfl) (by kernel_rfl) (fun _ _ _ h => h) (Or.inl ⟨by rfl, ?hy80⟩) h0 ?rest80
  case hy80 => (intro w hSw; (try dsimp only at hSw); go_simp; try with_reducible rfl)
  simp only [Act.put, List.setIfInBounds_toArray, List.set_cons_zero, List.set_cons_succ]
  refine wpAnyH_take (i := 2) (oi := ⟨_, _, _, _, _, _⟩) (v := ?v81) rfl (by kernel_rfl) (by kernel_rfl) (by kernel_rfl) (fun _ _ _ h => h) (Or.inl ⟨by rfl, ?hy81⟩) h0 ?rest81
  case hy81 => (intro w hSw; (try dsimp only at hSw); go_simp; try with_reducible rfl)
  simp only [Act.put, List.setIfInBounds_toArray, List.set_cons_zero, List.set_cons_succ]
  refine wpAnyH_take (i := 3) (oi := ⟨_, _, _, _, _, _⟩) (v := ?v82) rfl (by kernel_rfl) (by kernel_rfl) (by kernel_rfl) (fun _ _ _ h => h) (Or.inl ⟨by rfl, ?hy82⟩) h0 ?rest82
  case hy82 => (intro w hSw; (try dsimp only at hSw); go_simp; try with_reducible rfl)
  simp only [Act.put, List.setIfInBounds_toArray, List.set_cons_zero, List.set_cons_succ]
  refine wpAnyH_take (i := 4) (oi := ⟨_, _, _, _, _, _⟩) (v := ?v83) rfl (by kernel_rfl) (by kernel_rfl) (by kernel_rfl) (fun _ _ _ h => h) (Or.inl ⟨by rfl, ?hy83⟩) h0 ?rest83
  case hy83 => (intro w hSw; (try dsimp only at hSw); go_simp; try with_reducible rfl)
  simp only [Act.put, List.setIfInBounds_toArray, List.set_cons_zero, List.set_cons_succ]
  refine wpAnyH_take (i := 5) (oi := ⟨_, _, _, _, _, _⟩) (v := ?v84) rfl (by kernel_rfl) (by kernel_rfl) (by kernel_rfl) (fun _ _ _ h => h) (Or.inl ⟨by rfl, ?hy84⟩) h0 ?rest84
  case hy84 => (intro w hSw; (try dsimp only at hSw); go_simp; try with_reducible rfl)
  simp only [Act.put, List.setIfInBounds_toArray, List.set_cons_zero, List.set_cons_succ]
  refine wpAnyH_take (i := 6) (oi := ⟨_, _, _, _, _, _⟩) (v := ?v85) rfl (by kernel_rfl) (by kernel_rfl) (by kernel_rfl) (fun _ _ _ h => h) (Or.inl ⟨by rfl, ?hy85⟩) h0 ?rest85
  case hy85 => (intro w hSw; (try dsimp only at hSw); go_simp; try with_reducible rfl)
  simp only [Act.put, List.setIfInBounds_toArray, List.set_cons_zero, List.set_cons_succ]
  refine wpAnyH_take (i := 8) (oi := ⟨_, _, _, _, _, _⟩) (v := ?v86) rfl (by kernel_rfl) (by kernel_rfl) (by kernel_rfl) (fun _ _ _ h => h) (Or.inl ⟨by rfl, ?hy86⟩) h0 ?rest86
  case hy86 => (intro w hSw; (try dsimp only at hSw); go_simp; try with_reducible rfl)
  simp only [Act.put, List.setIfInBounds_toArray, List.set_cons_zero, List.set_cons_succ]
  refine wpAnyH_take (i := 9) (oi := ⟨_, _, _, _, _, _⟩) (v := ?v87) rfl (by kernel_rfl) (by kernel_rfl) (by kernel_rfl) (fun _ _ _ h => h) (Or.inl ⟨by rfl, ?hy87⟩) h0 ?rest87
  case hy87 => (intro w hSw; (try dsimp only at hSw); go_simp; try with_reducible rfl)
  simp only [Act.put, List.setIfInBounds_toArray, List.set_cons_zero, List.set_cons_succ]
  refine wpAnyH_take (i := 12) (oi := ⟨_, _, _, _, _, _⟩) (v := ?v88) rfl (by kernel_rfl) (by kernel_rfl) (by kernel_rfl) (fun _ _ _ h => h) (Or.inl ⟨by rfl, ?hy88⟩) h0 ?rest88
  case hy88 => (intro w hSw; (try dsimp only at hSw); go_simp; try with_reducible rfl)
  simp only [Act.put, List.setIfInBounds_toArray, List.set_cons_zero, List.set_cons_succ]
  refine wpAnyH_ready (rs := [7]) (by kernel_rfl) (by simp) ?_
  refine AllReadyH.cons (o := ⟨_, _, _, _, _, _⟩) rfl (fun K hK => ?_) AllReadyH.nil
  go_simp
  have h1 : ∀ o, Below w.heap.size w (W.alloc o).drew := fun o => (HB.out.1.alloc HB.out.1.size _).drew
  have e1 : ∀ o, (W.alloc o).drew.heap[W.heap.size]? = some o := fun o => heap_alloc_new W _
  refine hK.out _ _ (h1 _) (fun hHeld => ?_)
  clear hK K hHeld
  try simp only [Act.put, List.setIfInBounds_toArray, List.set_cons_zero, List.set_cons_succ]
  refine wpAnyH_mono (S' := fun w' => Below w.heap.size w w' ∧ w'.heap[W.heap.size]? = some fiveO) (fun _ h => h.1) _ _ _ _ ?_
  have PA := fun (w' : World) (h : Below w.heap.size w w' ∧ w'.heap[W.heap.size]? = some fiveO) => (five_cells h.2).2.1
  refine wpAnyH_take (i := 10) (oi := ⟨_, _, _, _, _, _⟩) (v := ?v89) rfl (by kernel_rfl) (by kernel_rfl) (by kernel_rfl) (fun _ _ _ h => h) (Or.inl ⟨by rfl, ?hy89⟩) ⟨h1 _, e1 _⟩ ?rest89
  case hy89 => (intro w hSw; (try dsimp only at hSw); go_simp; try with_reducible rfl)
  simp only [Act.put, List.setIfInBounds_toArray, List.set_cons_zero, List.set_cons_succ]
  refine wpAnyH_take (i := 11) (oi := ⟨_, _, _, _, _, _⟩) (v := ?v90) rfl (by kernel_rfl) (by kernel_rfl) (by kernel_rfl) (fun _ _ _ h => h) (Or.inl ⟨by rfl, ?hy90⟩) ⟨h1 _, e1 _⟩ ?rest90
  case hy90 => (intro w hSw; (try dsimp only at hSw); go_simp; try with_reducible rfl)
  simp only [Act.put, List.setIfInBounds_toArray, List.set_cons_zero, List.set_cons_succ]
  refine wpAnyH_take (i := 13) (oi := ⟨_, _, _, _, _, _⟩) (v := ?v91) rfl (by kernel_rfl) (by kernel_rfl) (by kernel_rfl) (fun _ _ _ h => h) (Or.inl ⟨by rfl, ?hy91⟩) ⟨h1 _, e1 _⟩ ?rest91
  case hy91 => (intro w hSw; (try dsimp only at hSw); go_simp; try with_reducible rfl)
  simp only [Act.put, List.setIfInBounds_toArray, List.set_cons_zero, List.set_cons_succ]
  clear PA
  obtain ⟨hB, q0⟩ := HB.out
  have q1 : ∀ o, (W.alloc o).heap[w.heap.size]? = some (.cells #[.string ⟨#[]⟩, .string ⟨#[]⟩, .bool false] 23) := fun o => (Below.heap_alloc W o _ (lt_of_heap q0)).trans q0
  have hne : W.heap.size ≠ w.heap.size := by have := lt_of_heap q0; omega
  have h2 : ∀ a b c, Below w.heap.size w ((((W.alloc fiveO).setCell ⟨w.heap.size, 0, none⟩ a).setCell ⟨w.heap.size, 1, none⟩ b).setCell ⟨w.heap.size, 2, none⟩ c).drew ∧ ((((W.alloc fiveO).setCell ⟨w.heap.size, 0, none⟩ a).setCell ⟨w.heap.size, 1, none⟩ b).setCell ⟨w.heap.size, 2, none⟩ c).heap[W.heap.size]? = some fiveO := fun a b c => ⟨((((hB.alloc hB.size _).setCell (Nat.le_refl _) _).setCell (Nat.le_refl _) _).setCell (Nat.le_refl _) _).drew, by rw [heap_setCell_ne _ _ _ hne, heap_setCell_ne _ _ _ hne, heap_setCell_ne _ _ _ hne]; exact heap_alloc_new W _⟩
  have r2 : ∀ o a b c, ((((W.alloc o).setCell ⟨w.heap.size, 0, none⟩ a).setCell ⟨w.heap.size, 1, none⟩ b).setCell ⟨w.heap.size, 2, none⟩ c).heap[w.heap.size]? = some (.cells #[a, b, c] 23 (0, 0)) := fun o a b c => by
    rw [setCell_row (setCell_row (setCell_row (q1 o) _) _) _]; rfl
  have hcat : (⟨#[105]⟩ : ByteArray) ++ (⟨#[48, 49, 50, 51, 52, 53, 54, 55, 56, 57]⟩ : ByteArray).extract 6 7 = ⟨#[105, 54]⟩ := by decide +kernel
  have HC := (show Hid _ from And.intro hcat (And.intro h2 r2))
  have y0 := fun o => (row3 (W := (W.alloc o).drew) (q1 o)).1
  have y1 := fun o => (row3 (W := (W.alloc o).drew) (q1 o)).2.1
  have y2 := fun o => (row3 (W := (W.alloc o).drew) (q1 o)).2.2.1
  have y3 := fun o => (row3 (W := (W.alloc o).drew) (q1 o)).2.2.2
  have x0 := fun o => (row3 (q1 o)).1
  have x1 := fun o => (row3 (q1 o)).2.1
  have x2 := fun o => (row3 (q1 o)).2.2.1
  have x3 := fun o => (row3 (q1 o)).2.2.2
  clear hB q0 h2 r2 hcat q1 HB h0 hne
  refine wpAnyH_ready (rs := [14]) (by kernel_rfl) (by simp) ?_
  refine AllReadyH.cons (o := ⟨_, _, _, _, _, _⟩) rfl (fun K hK => ?_) AllReadyH.nil
  go_simp
  refine hK.out _ _ (HC.out.2.1 _ _ _) (fun hHeld => ?_)
  clear hK K hHeld
  try simp only [Act.put, List.setIfInBounds_toArray, List.set_cons_zero, List.set_cons_succ]
  refine wpAnyH_done (by kernel_rfl) ?_ _
  clear x0 x1 x2 x3 y0 y1 y2 y3
  have z0 := fun o a b c => (row3 (HC.out.2.2 o a b c)).1
  have z1 := fun o a b c => (row3 (HC.out.2.2 o a b c)).2.1
  have z2 := fun o a b c => (row3 (HC.out.2.2 o a b c)).2.2.1
  go_wp2
  refine bodyPost_ret (v := .agg #[.string ((⟨#[105]⟩ : ByteArray) ++ (⟨#[48, 49, 50, 51, 52, 53, 54, 55, 56, 57]⟩ : ByteArray).extract 6 7), .string ⟨#[98]⟩, .bool u]) (by simp [results, Tryz.results15, go_sem, z0, z1, z2]) rfl ⟨by rw [HC.out.1], (HC.out.2.1 _ _ _).1⟩
set_option maxRecDepth 100000 in
theorem spec_7 (n : Int) (h10 : n.tmod 10 = 7) (h5 : n.tmod 5 = 2) (u : Bool) (w : World) :
    Calls Tryz.prog 15 #[.int .u8 n, .bool u] w fun e w' => e = .returned (.agg #[.string ⟨#[105, 55]⟩, .string ⟨#[97, 46, 98]⟩, .bool u]) ∧ Below w.heap.size w w' := by
  obtain ⟨W, hW⟩ : ∃ W, w.alloc (.cells #[.string ⟨#[]⟩, .string ⟨#[]⟩, .bool false] 23) = W := ⟨_, rfl⟩
  have hB : Below w.heap.size w W := by rw [← hW]; exact (Below.refl _ _).alloc (Nat.le_refl _) _
  have q0 : W.heap[w.heap.size]? = some (.cells #[.string ⟨#[]⟩, .string ⟨#[]⟩, .bool false] 23) := by rw [← hW]; exact heap_alloc_new _ _
  have wu : IntKind.u8.wrap 8 = 8 := by decide
  have HB := (show Hid _ from And.intro hB q0)
  clear hB q0
  go_enter Tryz.func15, Tryz.ntmps15
  go_wp2_with fail
  clear hW
  have h0 : (fun w' : World => Below w.heap.size w w') W.drew := HB.out.1.drew
  refine wp_region_held (S := fun w' => Below w.heap.size w w') mixedE ?_
  refine wpAnyH_take (i := 0) (oi := ⟨_, _, _, _, _, _⟩) (v := ?v92) rfl (by kernel_rfl) (by kernel_rfl) (by kernel_rfl) (fun _ _ _ h => h) (Or.inl ⟨by rfl, ?hy92⟩) h0 ?rest92
  case hy92 => (intro w hSw; (try dsimp only at hSw); go_simp; try with_reducible rfl)
  simp only [Act.put, List.setIfInBounds_toArray, List.set_cons_zero, List.set_cons_succ]
  refine wpAnyH_take (i := 1) (oi := ⟨_, _, _, _, _, _⟩) (v := ?v93) rfl (by kernel_rfl) (by kernel_rfl) (by kernel_rfl) (fun _ _ _ h => h) (Or.inl ⟨by rfl, ?hy93⟩) h0 ?rest93
  case hy93 => (intro w hSw; (try dsimp only at hSw); go_simp; try with_reducible rfl)
  simp only [Act.put, List.setIfInBounds_toArray, List.set_cons_zero, List.set_cons_succ]
  refine wpAnyH_take (i := 2) (oi := ⟨_, _, _, _, _, _⟩) (v := ?v94) rfl (by kernel_rfl) (by kernel_rfl) (by kernel_rfl) (fun _ _ _ h => h) (Or.inl ⟨by rfl, ?hy94⟩) h0 ?rest94
  case hy94 => (intro w hSw; (try dsimp only at hSw); go_simp; try with_reducible rfl)
  simp only [Act.put, List.setIfInBounds_toArray, List.set_cons_zero, List.set_cons_succ]
  refine wpAnyH_take (i := 3) (oi := ⟨_, _, _, _, _, _⟩) (v := ?v95) rfl (by kernel_rfl) (by kernel_rfl) (by kernel_rfl) (fun _ _ _ h => h) (Or.inl ⟨by rfl, ?hy95⟩) h0 ?rest95
  case hy95 => (intro w hSw; (try dsimp only at hSw); go_simp; try with_reducible rfl)
  simp only [Act.put, List.setIfInBounds_toArray, List.set_cons_zero, List.set_cons_succ]
  refine wpAnyH_take (i := 4) (oi := ⟨_, _, _, _, _, _⟩) (v := ?v96) rfl (by kernel_rfl) (by kernel_rfl) (by kernel_rfl) (fun _ _ _ h => h) (Or.inl ⟨by rfl, ?hy96⟩) h0 ?rest96
  case hy96 => (intro w hSw; (try dsimp only at hSw); go_simp; try with_reducible rfl)
  simp only [Act.put, List.setIfInBounds_toArray, List.set_cons_zero, List.set_cons_succ]
  refine wpAnyH_take (i := 5) (oi := ⟨_, _, _, _, _, _⟩) (v := ?v97) rfl (by kernel_rfl) (by kernel_rfl) (by kernel_rfl) (fun _ _ _ h => h) (Or.inl ⟨by rfl, ?hy97⟩) h0 ?rest97
  case hy97 => (intro w hSw; (try dsimp only at hSw); go_simp; try with_reducible rfl)
  simp only [Act.put, List.setIfInBounds_toArray, List.set_cons_zero, List.set_cons_succ]
  refine wpAnyH_take (i := 6) (oi := ⟨_, _, _, _, _, _⟩) (v := ?v98) rfl (by kernel_rfl) (by kernel_rfl) (by kernel_rfl) (fun _ _ _ h => h) (Or.inl ⟨by rfl, ?hy98⟩) h0 ?rest98
  case hy98 => (intro w hSw; (try dsimp only at hSw); go_simp; try with_reducible rfl)
  simp only [Act.put, List.setIfInBounds_toArray, List.set_cons_zero, List.set_cons_succ]
  refine wpAnyH_take (i := 8) (oi := ⟨_, _, _, _, _, _⟩) (v := ?v99) rfl (by kernel_rfl) (by kernel_rfl) (by kernel_rfl) (fun _ _ _ h => h) (Or.inl ⟨by rfl, ?hy99⟩) h0 ?rest99
  case hy99 => (intro w hSw; (try dsimp only at hSw); go_simp; try with_reducible rfl)
  simp only [Act.put, List.setIfInBounds_toArray, List.set_cons_zero, List.set_cons_succ]
  refine wpAnyH_take (i := 9) (oi := ⟨_, _, _, _, _, _⟩) (v := ?v100) rfl (by kernel_rfl) (by kernel_rfl) (by kernel_rfl) (fun _ _ _ h => h) (Or.inl ⟨by rfl, ?hy100⟩) h0 ?rest100
  case hy100 => (intro w hSw; (try dsimp only at hSw); go_simp; try with_reducible rfl)
  simp only [Act.put, List.setIfInBounds_toArray, List.set_cons_zero, List.set_cons_succ]
  refine wpAnyH_take (i := 12) (oi := ⟨_, _, _, _, _, _⟩) (v := ?v101) rfl (by kernel_rfl) (by kernel_rfl) (by kernel_rfl) (fun _ _ _ h => h) (Or.inl ⟨by rfl, ?hy101⟩) h0 ?rest101
  case hy101 => (intro w hSw; (try dsimp only at hSw); go_simp; try with_reducible rfl)
  simp only [Act.put, List.setIfInBounds_toArray, List.set_cons_zero, List.set_cons_succ]
  refine wpAnyH_ready (rs := [7]) (by kernel_rfl) (by simp) ?_
  refine AllReadyH.cons (o := ⟨_, _, _, _, _, _⟩) rfl (fun K hK => ?_) AllReadyH.nil
  go_simp
  have h1 : ∀ o, Below w.heap.size w (W.alloc o).drew := fun o => (HB.out.1.alloc HB.out.1.size _).drew
  have e1 : ∀ o, (W.alloc o).drew.heap[W.heap.size]? = some o := fun o => heap_alloc_new W _
  refine hK.out _ _ (h1 _) (fun hHeld => ?_)
  clear hK K hHeld
  try simp only [Act.put, List.setIfInBounds_toArray, List.set_cons_zero, List.set_cons_succ]
  refine wpAnyH_mono (S' := fun w' => Below w.heap.size w w' ∧ w'.heap[W.heap.size]? = some fiveO) (fun _ h => h.1) _ _ _ _ ?_
  have PA := fun (w' : World) (h : Below w.heap.size w w' ∧ w'.heap[W.heap.size]? = some fiveO) => (five_cells h.2).2.2.1
  refine wpAnyH_take (i := 10) (oi := ⟨_, _, _, _, _, _⟩) (v := ?v102) rfl (by kernel_rfl) (by kernel_rfl) (by kernel_rfl) (fun _ _ _ h => h) (Or.inl ⟨by rfl, ?hy102⟩) ⟨h1 _, e1 _⟩ ?rest102
  case hy102 => (intro w hSw; (try dsimp only at hSw); go_simp; try with_reducible rfl)
  simp only [Act.put, List.setIfInBounds_toArray, List.set_cons_zero, List.set_cons_succ]
  refine wpAnyH_take (i := 11) (oi := ⟨_, _, _, _, _, _⟩) (v := ?v103) rfl (by kernel_rfl) (by kernel_rfl) (by kernel_rfl) (fun _ _ _ h => h) (Or.inl ⟨by rfl, ?hy103⟩) ⟨h1 _, e1 _⟩ ?rest103
  case hy103 => (intro w hSw; (try dsimp only at hSw); go_simp; try with_reducible rfl)
  simp only [Act.put, List.setIfInBounds_toArray, List.set_cons_zero, List.set_cons_succ]
  refine wpAnyH_take (i := 13) (oi := ⟨_, _, _, _, _, _⟩) (v := ?v104) rfl (by kernel_rfl) (by kernel_rfl) (by kernel_rfl) (fun _ _ _ h => h) (Or.inl ⟨by rfl, ?hy104⟩) ⟨h1 _, e1 _⟩ ?rest104
  case hy104 => (intro w hSw; (try dsimp only at hSw); go_simp; try with_reducible rfl)
  simp only [Act.put, List.setIfInBounds_toArray, List.set_cons_zero, List.set_cons_succ]
  clear PA
  obtain ⟨hB, q0⟩ := HB.out
  have q1 : ∀ o, (W.alloc o).heap[w.heap.size]? = some (.cells #[.string ⟨#[]⟩, .string ⟨#[]⟩, .bool false] 23) := fun o => (Below.heap_alloc W o _ (lt_of_heap q0)).trans q0
  have hne : W.heap.size ≠ w.heap.size := by have := lt_of_heap q0; omega
  have h2 : ∀ a b c, Below w.heap.size w ((((W.alloc fiveO).setCell ⟨w.heap.size, 0, none⟩ a).setCell ⟨w.heap.size, 1, none⟩ b).setCell ⟨w.heap.size, 2, none⟩ c).drew ∧ ((((W.alloc fiveO).setCell ⟨w.heap.size, 0, none⟩ a).setCell ⟨w.heap.size, 1, none⟩ b).setCell ⟨w.heap.size, 2, none⟩ c).heap[W.heap.size]? = some fiveO := fun a b c => ⟨((((hB.alloc hB.size _).setCell (Nat.le_refl _) _).setCell (Nat.le_refl _) _).setCell (Nat.le_refl _) _).drew, by rw [heap_setCell_ne _ _ _ hne, heap_setCell_ne _ _ _ hne, heap_setCell_ne _ _ _ hne]; exact heap_alloc_new W _⟩
  have r2 : ∀ o a b c, ((((W.alloc o).setCell ⟨w.heap.size, 0, none⟩ a).setCell ⟨w.heap.size, 1, none⟩ b).setCell ⟨w.heap.size, 2, none⟩ c).heap[w.heap.size]? = some (.cells #[a, b, c] 23 (0, 0)) := fun o a b c => by
    rw [setCell_row (setCell_row (setCell_row (q1 o) _) _) _]; rfl
  have hcat : (⟨#[105]⟩ : ByteArray) ++ (⟨#[48, 49, 50, 51, 52, 53, 54, 55, 56, 57]⟩ : ByteArray).extract 7 8 = ⟨#[105, 55]⟩ := by decide +kernel
  have HC := (show Hid _ from And.intro hcat (And.intro h2 r2))
  have y0 := fun o => (row3 (W := (W.alloc o).drew) (q1 o)).1
  have y1 := fun o => (row3 (W := (W.alloc o).drew) (q1 o)).2.1
  have y2 := fun o => (row3 (W := (W.alloc o).drew) (q1 o)).2.2.1
  have y3 := fun o => (row3 (W := (W.alloc o).drew) (q1 o)).2.2.2
  have x0 := fun o => (row3 (q1 o)).1
  have x1 := fun o => (row3 (q1 o)).2.1
  have x2 := fun o => (row3 (q1 o)).2.2.1
  have x3 := fun o => (row3 (q1 o)).2.2.2
  clear hB q0 h2 r2 hcat q1 HB h0 hne
  refine wpAnyH_ready (rs := [14]) (by kernel_rfl) (by simp) ?_
  refine AllReadyH.cons (o := ⟨_, _, _, _, _, _⟩) rfl (fun K hK => ?_) AllReadyH.nil
  go_simp
  refine hK.out _ _ (HC.out.2.1 _ _ _) (fun hHeld => ?_)
  clear hK K hHeld
  try simp only [Act.put, List.setIfInBounds_toArray, List.set_cons_zero, List.set_cons_succ]
  refine wpAnyH_done (by kernel_rfl) ?_ _
  clear x0 x1 x2 x3 y0 y1 y2 y3
  have z0 := fun o a b c => (row3 (HC.out.2.2 o a b c)).1
  have z1 := fun o a b c => (row3 (HC.out.2.2 o a b c)).2.1
  have z2 := fun o a b c => (row3 (HC.out.2.2 o a b c)).2.2.1
  go_wp2
  refine bodyPost_ret (v := .agg #[.string ((⟨#[105]⟩ : ByteArray) ++ (⟨#[48, 49, 50, 51, 52, 53, 54, 55, 56, 57]⟩ : ByteArray).extract 7 8), .string ⟨#[97, 46, 98]⟩, .bool u]) (by simp [results, Tryz.results15, go_sem, z0, z1, z2]) rfl ⟨by rw [HC.out.1], (HC.out.2.1 _ _ _).1⟩
set_option maxRecDepth 100000 in
theorem spec_8 (n : Int) (h10 : n.tmod 10 = 8) (h5 : n.tmod 5 = 3) (u : Bool) (w : World) :
    Calls Tryz.prog 15 #[.int .u8 n, .bool u] w fun e w' => e = .returned (.agg #[.string ⟨#[105, 56]⟩, .string ⟨#[99, 46, 48]⟩, .bool u]) ∧ Below w.heap.size w w' := by
  obtain ⟨W, hW⟩ : ∃ W, w.alloc (.cells #[.string ⟨#[]⟩, .string ⟨#[]⟩, .bool false] 23) = W := ⟨_, rfl⟩
  have hB : Below w.heap.size w W := by rw [← hW]; exact (Below.refl _ _).alloc (Nat.le_refl _) _
  have q0 : W.heap[w.heap.size]? = some (.cells #[.string ⟨#[]⟩, .string ⟨#[]⟩, .bool false] 23) := by rw [← hW]; exact heap_alloc_new _ _
  have wu : IntKind.u8.wrap 9 = 9 := by decide
  have HB := (show Hid _ from And.intro hB q0)
  clear hB q0
  go_enter Tryz.func15, Tryz.ntmps15
  go_wp2_with fail
  clear hW
  have h0 : (fun w' : World => Below w.heap.size w w') W.drew := HB.out.1.drew
  refine wp_region_held (S := fun w' => Below w.heap.size w w') mixedE ?_
  refine wpAnyH_take (i := 0) (oi := ⟨_, _, _, _, _, _⟩) (v := ?v105) rfl (by kernel_rfl) (by kernel_rfl) (by kernel_rfl) (fun _ _ _ h => h) (Or.inl ⟨by rfl, ?hy105⟩) h0 ?rest105
  case hy105 => (intro w hSw; (try dsimp only at hSw); go_simp; try with_reducible rfl)
  simp only [Act.put, List.setIfInBounds_toArray, List.set_cons_zero, List.set_cons_succ]
  refine wpAnyH_take (i := 1) (oi := ⟨_, _, _, _, _, _⟩) (v := ?v106) rfl (by kernel_rfl) (by kernel_rfl) (by kernel_rfl) (fun _ _ _ h => h) (Or.inl ⟨by rfl, ?hy106⟩) h0 ?rest106
  case hy106 => (intro w hSw; (try dsimp only at hSw); go_simp; try with_reducible rfl)
  simp only [Act.put, List.setIfInBounds_toArray, List.set_cons_zero, List.set_cons_succ]
  refine wpAnyH_take (i := 2) (oi := ⟨_, _, _, _, _, _⟩) (v := ?v107) rfl (by kernel_rfl) (by kernel_rfl) (by kernel_rfl) (fun _ _ _ h => h) (Or.inl ⟨by rfl, ?hy107⟩) h0 ?rest107
  case hy107 => (intro w hSw; (try dsimp only at hSw); go_simp; try with_reducible rfl)
  simp only [Act.put, List.setIfInBounds_toArray, List.set_cons_zero, List.set_cons_succ]
  refine wpAnyH_take (i := 3) (oi := ⟨_, _, _, _, _, _⟩) (v := ?v108) rfl (by kernel_rfl) (by kernel_rfl) (by kernel_rfl) (fun _ _ _ h => h) (Or.inl ⟨by rfl, ?hy108⟩) h0 ?rest108
  case hy108 => (intro w hSw; (try dsimp only at hSw); go_simp; try with_reducible rfl)
  simp only [Act.put, List.setIfInBounds_toArray, List.set_cons_zero, List.set_cons_succ]
  refine wpAnyH_take (i := 4) (oi := ⟨_, _, _, _, _, _⟩) (v := ?v109) rfl (by kernel_rfl) (by kernel_rfl) (by kernel_rfl) (fun _ _ _ h => h) (Or.inl ⟨by rfl, ?hy109⟩) h0 ?rest109
  case hy109 => (intro w hSw; (try dsimp only at hSw); go_simp; try with_reducible rfl)
  simp only [Act.put, List.setIfInBounds_toArray, List.set_cons_zero, List.set_cons_succ]
  refine wpAnyH_take (i := 5) (oi := ⟨_, _, _, _, _, _⟩) (v := ?v110) rfl (by kernel_rfl) (by kernel_rfl) (by kernel_rfl) (fun _ _ _ h => h) (Or.inl ⟨by rfl, ?hy110⟩) h0 ?rest110
  case hy110 => (intro w hSw; (try dsimp only at hSw); go_simp; try with_reducible rfl)
  simp only [Act.put, List.setIfInBounds_toArray, List.set_cons_zero, List.set_cons_succ]
  refine wpAnyH_take (i := 6) (oi := ⟨_, _, _, _, _, _⟩) (v := ?v111) rfl (by kernel_rfl) (by kernel_rfl) (by kernel_rfl) (fun _ _ _ h => h) (Or.inl ⟨by rfl, ?hy111⟩) h0 ?rest111
  case hy111 => (intro w hSw; (try dsimp only at hSw); go_simp; try with_reducible rfl)
  simp only [Act.put, List.setIfInBounds_toArray, List.set_cons_zero, List.set_cons_succ]
  refine wpAnyH_take (i := 8) (oi := ⟨_, _, _, _, _, _⟩) (v := ?v112) rfl (by kernel_rfl) (by kernel_rfl) (by kernel_rfl) (fun _ _ _ h => h) (Or.inl ⟨by rfl, ?hy112⟩) h0 ?rest112
  case hy112 => (intro w hSw; (try dsimp only at hSw); go_simp; try with_reducible rfl)
  simp only [Act.put, List.setIfInBounds_toArray, List.set_cons_zero, List.set_cons_succ]
  refine wpAnyH_take (i := 9) (oi := ⟨_, _, _, _, _, _⟩) (v := ?v113) rfl (by kernel_rfl) (by kernel_rfl) (by kernel_rfl) (fun _ _ _ h => h) (Or.inl ⟨by rfl, ?hy113⟩) h0 ?rest113
  case hy113 => (intro w hSw; (try dsimp only at hSw); go_simp; try with_reducible rfl)
  simp only [Act.put, List.setIfInBounds_toArray, List.set_cons_zero, List.set_cons_succ]
  refine wpAnyH_take (i := 12) (oi := ⟨_, _, _, _, _, _⟩) (v := ?v114) rfl (by kernel_rfl) (by kernel_rfl) (by kernel_rfl) (fun _ _ _ h => h) (Or.inl ⟨by rfl, ?hy114⟩) h0 ?rest114
  case hy114 => (intro w hSw; (try dsimp only at hSw); go_simp; try with_reducible rfl)
  simp only [Act.put, List.setIfInBounds_toArray, List.set_cons_zero, List.set_cons_succ]
  refine wpAnyH_ready (rs := [7]) (by kernel_rfl) (by simp) ?_
  refine AllReadyH.cons (o := ⟨_, _, _, _, _, _⟩) rfl (fun K hK => ?_) AllReadyH.nil
  go_simp
  have h1 : ∀ o, Below w.heap.size w (W.alloc o).drew := fun o => (HB.out.1.alloc HB.out.1.size _).drew
  have e1 : ∀ o, (W.alloc o).drew.heap[W.heap.size]? = some o := fun o => heap_alloc_new W _
  refine hK.out _ _ (h1 _) (fun hHeld => ?_)
  clear hK K hHeld
  try simp only [Act.put, List.setIfInBounds_toArray, List.set_cons_zero, List.set_cons_succ]
  refine wpAnyH_mono (S' := fun w' => Below w.heap.size w w' ∧ w'.heap[W.heap.size]? = some fiveO) (fun _ h => h.1) _ _ _ _ ?_
  have PA := fun (w' : World) (h : Below w.heap.size w w' ∧ w'.heap[W.heap.size]? = some fiveO) => (five_cells h.2).2.2.2.1
  refine wpAnyH_take (i := 10) (oi := ⟨_, _, _, _, _, _⟩) (v := ?v115) rfl (by kernel_rfl) (by kernel_rfl) (by kernel_rfl) (fun _ _ _ h => h) (Or.inl ⟨by rfl, ?hy115⟩) ⟨h1 _, e1 _⟩ ?rest115
  case hy115 => (intro w hSw; (try dsimp only at hSw); go_simp; try with_reducible rfl)
  simp only [Act.put, List.setIfInBounds_toArray, List.set_cons_zero, List.set_cons_succ]
  refine wpAnyH_take (i := 11) (oi := ⟨_, _, _, _, _, _⟩) (v := ?v116) rfl (by kernel_rfl) (by kernel_rfl) (by kernel_rfl) (fun _ _ _ h => h) (Or.inl ⟨by rfl, ?hy116⟩) ⟨h1 _, e1 _⟩ ?rest116
  case hy116 => (intro w hSw; (try dsimp only at hSw); go_simp; try with_reducible rfl)
  simp only [Act.put, List.setIfInBounds_toArray, List.set_cons_zero, List.set_cons_succ]
  refine wpAnyH_take (i := 13) (oi := ⟨_, _, _, _, _, _⟩) (v := ?v117) rfl (by kernel_rfl) (by kernel_rfl) (by kernel_rfl) (fun _ _ _ h => h) (Or.inl ⟨by rfl, ?hy117⟩) ⟨h1 _, e1 _⟩ ?rest117
  case hy117 => (intro w hSw; (try dsimp only at hSw); go_simp; try with_reducible rfl)
  simp only [Act.put, List.setIfInBounds_toArray, List.set_cons_zero, List.set_cons_succ]
  clear PA
  obtain ⟨hB, q0⟩ := HB.out
  have q1 : ∀ o, (W.alloc o).heap[w.heap.size]? = some (.cells #[.string ⟨#[]⟩, .string ⟨#[]⟩, .bool false] 23) := fun o => (Below.heap_alloc W o _ (lt_of_heap q0)).trans q0
  have hne : W.heap.size ≠ w.heap.size := by have := lt_of_heap q0; omega
  have h2 : ∀ a b c, Below w.heap.size w ((((W.alloc fiveO).setCell ⟨w.heap.size, 0, none⟩ a).setCell ⟨w.heap.size, 1, none⟩ b).setCell ⟨w.heap.size, 2, none⟩ c).drew ∧ ((((W.alloc fiveO).setCell ⟨w.heap.size, 0, none⟩ a).setCell ⟨w.heap.size, 1, none⟩ b).setCell ⟨w.heap.size, 2, none⟩ c).heap[W.heap.size]? = some fiveO := fun a b c => ⟨((((hB.alloc hB.size _).setCell (Nat.le_refl _) _).setCell (Nat.le_refl _) _).setCell (Nat.le_refl _) _).drew, by rw [heap_setCell_ne _ _ _ hne, heap_setCell_ne _ _ _ hne, heap_setCell_ne _ _ _ hne]; exact heap_alloc_new W _⟩
  have r2 : ∀ o a b c, ((((W.alloc o).setCell ⟨w.heap.size, 0, none⟩ a).setCell ⟨w.heap.size, 1, none⟩ b).setCell ⟨w.heap.size, 2, none⟩ c).heap[w.heap.size]? = some (.cells #[a, b, c] 23 (0, 0)) := fun o a b c => by
    rw [setCell_row (setCell_row (setCell_row (q1 o) _) _) _]; rfl
  have hcat : (⟨#[105]⟩ : ByteArray) ++ (⟨#[48, 49, 50, 51, 52, 53, 54, 55, 56, 57]⟩ : ByteArray).extract 8 9 = ⟨#[105, 56]⟩ := by decide +kernel
  have HC := (show Hid _ from And.intro hcat (And.intro h2 r2))
  have y0 := fun o => (row3 (W := (W.alloc o).drew) (q1 o)).1
  have y1 := fun o => (row3 (W := (W.alloc o).drew) (q1 o)).2.1
  have y2 := fun o => (row3 (W := (W.alloc o).drew) (q1 o)).2.2.1
  have y3 := fun o => (row3 (W := (W.alloc o).drew) (q1 o)).2.2.2
  have x0 := fun o => (row3 (q1 o)).1
  have x1 := fun o => (row3 (q1 o)).2.1
  have x2 := fun o => (row3 (q1 o)).2.2.1
  have x3 := fun o => (row3 (q1 o)).2.2.2
  clear hB q0 h2 r2 hcat q1 HB h0 hne
  refine wpAnyH_ready (rs := [14]) (by kernel_rfl) (by simp) ?_
  refine AllReadyH.cons (o := ⟨_, _, _, _, _, _⟩) rfl (fun K hK => ?_) AllReadyH.nil
  go_simp
  refine hK.out _ _ (HC.out.2.1 _ _ _) (fun hHeld => ?_)
  clear hK K hHeld
  try simp only [Act.put, List.setIfInBounds_toArray, List.set_cons_zero, List.set_cons_succ]
  refine wpAnyH_done (by kernel_rfl) ?_ _
  clear x0 x1 x2 x3 y0 y1 y2 y3
  have z0 := fun o a b c => (row3 (HC.out.2.2 o a b c)).1
  have z1 := fun o a b c => (row3 (HC.out.2.2 o a b c)).2.1
  have z2 := fun o a b c => (row3 (HC.out.2.2 o a b c)).2.2.1
  go_wp2
  refine bodyPost_ret (v := .agg #[.string ((⟨#[105]⟩ : ByteArray) ++ (⟨#[48, 49, 50, 51, 52, 53, 54, 55, 56, 57]⟩ : ByteArray).extract 8 9), .string ⟨#[99, 46, 48]⟩, .bool u]) (by simp [results, Tryz.results15, go_sem, z0, z1, z2]) rfl ⟨by rw [HC.out.1], (HC.out.2.1 _ _ _).1⟩
set_option maxRecDepth 100000 in
theorem spec_9 (n : Int) (h10 : n.tmod 10 = 9) (h5 : n.tmod 5 = 4) (u : Bool) (w : World) :
    Calls Tryz.prog 15 #[.int .u8 n, .bool u] w fun e w' => e = .returned (.agg #[.string ⟨#[105, 57]⟩, .string ⟨#[110]⟩, .bool u]) ∧ Below w.heap.size w w' := by
  obtain ⟨W, hW⟩ : ∃ W, w.alloc (.cells #[.string ⟨#[]⟩, .string ⟨#[]⟩, .bool false] 23) = W := ⟨_, rfl⟩
  have hB : Below w.heap.size w W := by rw [← hW]; exact (Below.refl _ _).alloc (Nat.le_refl _) _
  have q0 : W.heap[w.heap.size]? = some (.cells #[.string ⟨#[]⟩, .string ⟨#[]⟩, .bool false] 23) := by rw [← hW]; exact heap_alloc_new _ _
  have wu : IntKind.u8.wrap 10 = 10 := by decide
  have HB := (show Hid _ from And.intro hB q0)
  clear hB q0
  go_enter Tryz.func15, Tryz.ntmps15
  go_wp2_with fail
  clear hW
  have h0 : (fun w' : World => Below w.heap.size w w') W.drew := HB.out.1.drew
  refine wp_region_held (S := fun w' => Below w.heap.size w w') mixedE ?_
  refine wpAnyH_take (i := 0) (oi := ⟨_, _, _, _, _, _⟩) (v := ?v118) rfl (by kernel_rfl) (by kernel_rfl) (by kernel_rfl) (fun _ _ _ h => h) (Or.inl ⟨by rfl, ?hy118⟩) h0 ?rest118
  case hy118 => (intro w hSw; (try dsimp only at hSw); go_simp; try with_reducible rfl)
  simp only [Act.put, List.setIfInBounds_toArray, List.set_cons_zero, List.set_cons_succ]
  refine wpAnyH_take (i := 1) (oi := ⟨_, _, _, _, _, _⟩) (v := ?v119) rfl (by kernel_rfl) (by kernel_rfl) (by kernel_rfl) (fun _ _ _ h => h) (Or.inl ⟨by rfl, ?hy119⟩) h0 ?rest119
  case hy119 => (intro w hSw; (try dsimp only at hSw); go_simp; try with_reducible rfl)
  simp only [Act.put, List.setIfInBounds_toArray, List.set_cons_zero, List.set_cons_succ]
  refine wpAnyH_take (i := 2) (oi := ⟨_, _, _, _, _, _⟩) (v := ?v120) rfl (by kernel_rfl) (by kernel_rfl) (by kernel_rfl) (fun _ _ _ h => h) (Or.inl ⟨by rfl, ?hy120⟩) h0 ?rest120
  case hy120 => (intro w hSw; (try dsimp only at hSw); go_simp; try with_reducible rfl)
  simp only [Act.put, List.setIfInBounds_toArray, List.set_cons_zero, List.set_cons_succ]
  refine wpAnyH_take (i := 3) (oi := ⟨_, _, _, _, _, _⟩) (v := ?v121) rfl (by kernel_rfl) (by kernel_rfl) (by kernel_rfl) (fun _ _ _ h => h) (Or.inl ⟨by rfl, ?hy121⟩) h0 ?rest121
  case hy121 => (intro w hSw; (try dsimp only at hSw); go_simp; try with_reducible rfl)
  simp only [Act.put, List.setIfInBounds_toArray, List.set_cons_zero, List.set_cons_succ]
  refine wpAnyH_take (i := 4) (oi := ⟨_, _, _, _, _, _⟩) (v := ?v122) rfl (by kernel_rfl) (by kernel_rfl) (by kernel_rfl) (fun _ _ _ h => h) (Or.inl ⟨by rfl, ?hy122⟩) h0 ?rest122
  case hy122 => (intro w hSw; (try dsimp only at hSw); go_simp; try with_reducible rfl)
  simp only [Act.put, List.setIfInBounds_toArray, List.set_cons_zero, List.set_cons_succ]
  refine wpAnyH_take (i := 5) (oi := ⟨_, _, _, _, _, _⟩) (v := ?v123) rfl (by kernel_rfl) (by kernel_rfl) (by kernel_rfl) (fun _ _ _ h => h) (Or.inl ⟨by rfl, ?hy123⟩) h0 ?rest123
  case hy123 => (intro w hSw; (try dsimp only at hSw); go_simp; try with_reducible rfl)
  simp only [Act.put, List.setIfInBounds_toArray, List.set_cons_zero, List.set_cons_succ]
  refine wpAnyH_take (i := 6) (oi := ⟨_, _, _, _, _, _⟩) (v := ?v124) rfl (by kernel_rfl) (by kernel_rfl) (by kernel_rfl) (fun _ _ _ h => h) (Or.inl ⟨by rfl, ?hy124⟩) h0 ?rest124
  case hy124 => (intro w hSw; (try dsimp only at hSw); go_simp; try with_reducible rfl)
  simp only [Act.put, List.setIfInBounds_toArray, List.set_cons_zero, List.set_cons_succ]
  refine wpAnyH_take (i := 8) (oi := ⟨_, _, _, _, _, _⟩) (v := ?v125) rfl (by kernel_rfl) (by kernel_rfl) (by kernel_rfl) (fun _ _ _ h => h) (Or.inl ⟨by rfl, ?hy125⟩) h0 ?rest125
  case hy125 => (intro w hSw; (try dsimp only at hSw); go_simp; try with_reducible rfl)
  simp only [Act.put, List.setIfInBounds_toArray, List.set_cons_zero, List.set_cons_succ]
  refine wpAnyH_take (i := 9) (oi := ⟨_, _, _, _, _, _⟩) (v := ?v126) rfl (by kernel_rfl) (by kernel_rfl) (by kernel_rfl) (fun _ _ _ h => h) (Or.inl ⟨by rfl, ?hy126⟩) h0 ?rest126
  case hy126 => (intro w hSw; (try dsimp only at hSw); go_simp; try with_reducible rfl)
  simp only [Act.put, List.setIfInBounds_toArray, List.set_cons_zero, List.set_cons_succ]
  refine wpAnyH_take (i := 12) (oi := ⟨_, _, _, _, _, _⟩) (v := ?v127) rfl (by kernel_rfl) (by kernel_rfl) (by kernel_rfl) (fun _ _ _ h => h) (Or.inl ⟨by rfl, ?hy127⟩) h0 ?rest127
  case hy127 => (intro w hSw; (try dsimp only at hSw); go_simp; try with_reducible rfl)
  simp only [Act.put, List.setIfInBounds_toArray, List.set_cons_zero, List.set_cons_succ]
  refine wpAnyH_ready (rs := [7]) (by kernel_rfl) (by simp) ?_
  refine AllReadyH.cons (o := ⟨_, _, _, _, _, _⟩) rfl (fun K hK => ?_) AllReadyH.nil
  go_simp
  have h1 : ∀ o, Below w.heap.size w (W.alloc o).drew := fun o => (HB.out.1.alloc HB.out.1.size _).drew
  have e1 : ∀ o, (W.alloc o).drew.heap[W.heap.size]? = some o := fun o => heap_alloc_new W _
  refine hK.out _ _ (h1 _) (fun hHeld => ?_)
  clear hK K hHeld
  try simp only [Act.put, List.setIfInBounds_toArray, List.set_cons_zero, List.set_cons_succ]
  refine wpAnyH_mono (S' := fun w' => Below w.heap.size w w' ∧ w'.heap[W.heap.size]? = some fiveO) (fun _ h => h.1) _ _ _ _ ?_
  have PA := fun (w' : World) (h : Below w.heap.size w w' ∧ w'.heap[W.heap.size]? = some fiveO) => (five_cells h.2).2.2.2.2
  refine wpAnyH_take (i := 10) (oi := ⟨_, _, _, _, _, _⟩) (v := ?v128) rfl (by kernel_rfl) (by kernel_rfl) (by kernel_rfl) (fun _ _ _ h => h) (Or.inl ⟨by rfl, ?hy128⟩) ⟨h1 _, e1 _⟩ ?rest128
  case hy128 => (intro w hSw; (try dsimp only at hSw); go_simp; try with_reducible rfl)
  simp only [Act.put, List.setIfInBounds_toArray, List.set_cons_zero, List.set_cons_succ]
  refine wpAnyH_take (i := 11) (oi := ⟨_, _, _, _, _, _⟩) (v := ?v129) rfl (by kernel_rfl) (by kernel_rfl) (by kernel_rfl) (fun _ _ _ h => h) (Or.inl ⟨by rfl, ?hy129⟩) ⟨h1 _, e1 _⟩ ?rest129
  case hy129 => (intro w hSw; (try dsimp only at hSw); go_simp; try with_reducible rfl)
  simp only [Act.put, List.setIfInBounds_toArray, List.set_cons_zero, List.set_cons_succ]
  refine wpAnyH_take (i := 13) (oi := ⟨_, _, _, _, _, _⟩) (v := ?v130) rfl (by kernel_rfl) (by kernel_rfl) (by kernel_rfl) (fun _ _ _ h => h) (Or.inl ⟨by rfl, ?hy130⟩) ⟨h1 _, e1 _⟩ ?rest130
  case hy130 => (intro w hSw; (try dsimp only at hSw); go_simp; try with_reducible rfl)
  simp only [Act.put, List.setIfInBounds_toArray, List.set_cons_zero, List.set_cons_succ]
  clear PA
  obtain ⟨hB, q0⟩ := HB.out
  have q1 : ∀ o, (W.alloc o).heap[w.heap.size]? = some (.cells #[.string ⟨#[]⟩, .string ⟨#[]⟩, .bool false] 23) := fun o => (Below.heap_alloc W o _ (lt_of_heap q0)).trans q0
  have hne : W.heap.size ≠ w.heap.size := by have := lt_of_heap q0; omega
  have h2 : ∀ a b c, Below w.heap.size w ((((W.alloc fiveO).setCell ⟨w.heap.size, 0, none⟩ a).setCell ⟨w.heap.size, 1, none⟩ b).setCell ⟨w.heap.size, 2, none⟩ c).drew ∧ ((((W.alloc fiveO).setCell ⟨w.heap.size, 0, none⟩ a).setCell ⟨w.heap.size, 1, none⟩ b).setCell ⟨w.heap.size, 2, none⟩ c).heap[W.heap.size]? = some fiveO := fun a b c => ⟨((((hB.alloc hB.size _).setCell (Nat.le_refl _) _).setCell (Nat.le_refl _) _).setCell (Nat.le_refl _) _).drew, by rw [heap_setCell_ne _ _ _ hne, heap_setCell_ne _ _ _ hne, heap_setCell_ne _ _ _ hne]; exact heap_alloc_new W _⟩
  have r2 : ∀ o a b c, ((((W.alloc o).setCell ⟨w.heap.size, 0, none⟩ a).setCell ⟨w.heap.size, 1, none⟩ b).setCell ⟨w.heap.size, 2, none⟩ c).heap[w.heap.size]? = some (.cells #[a, b, c] 23 (0, 0)) := fun o a b c => by
    rw [setCell_row (setCell_row (setCell_row (q1 o) _) _) _]; rfl
  have hcat : (⟨#[105]⟩ : ByteArray) ++ (⟨#[48, 49, 50, 51, 52, 53, 54, 55, 56, 57]⟩ : ByteArray).extract 9 10 = ⟨#[105, 57]⟩ := by decide +kernel
  have HC := (show Hid _ from And.intro hcat (And.intro h2 r2))
  have y0 := fun o => (row3 (W := (W.alloc o).drew) (q1 o)).1
  have y1 := fun o => (row3 (W := (W.alloc o).drew) (q1 o)).2.1
  have y2 := fun o => (row3 (W := (W.alloc o).drew) (q1 o)).2.2.1
  have y3 := fun o => (row3 (W := (W.alloc o).drew) (q1 o)).2.2.2
  have x0 := fun o => (row3 (q1 o)).1
  have x1 := fun o => (row3 (q1 o)).2.1
  have x2 := fun o => (row3 (q1 o)).2.2.1
  have x3 := fun o => (row3 (q1 o)).2.2.2
  clear hB q0 h2 r2 hcat q1 HB h0 hne
  refine wpAnyH_ready (rs := [14]) (by kernel_rfl) (by simp) ?_
  refine AllReadyH.cons (o := ⟨_, _, _, _, _, _⟩) rfl (fun K hK => ?_) AllReadyH.nil
  go_simp
  refine hK.out _ _ (HC.out.2.1 _ _ _) (fun hHeld => ?_)
  clear hK K hHeld
  try simp only [Act.put, List.setIfInBounds_toArray, List.set_cons_zero, List.set_cons_succ]
  refine wpAnyH_done (by kernel_rfl) ?_ _
  clear x0 x1 x2 x3 y0 y1 y2 y3
  have z0 := fun o a b c => (row3 (HC.out.2.2 o a b c)).1
  have z1 := fun o a b c => (row3 (HC.out.2.2 o a b c)).2.1
  have z2 := fun o a b c => (row3 (HC.out.2.2 o a b c)).2.2.1
  go_wp2
  refine bodyPost_ret (v := .agg #[.string ((⟨#[105]⟩ : ByteArray) ++ (⟨#[48, 49, 50, 51, 52, 53, 54, 55, 56, 57]⟩ : ByteArray).extract 9 10), .string ⟨#[110]⟩, .bool u]) (by simp [results, Tryz.results15, go_sem, z0, z1, z2]) rfl ⟨by rw [HC.out.1], (HC.out.2.1 _ _ _).1⟩
theorem Spec_any (n : Int) (u : Bool) (w : World) (h0 : 0 ≤ n) :
    Calls Tryz.prog 15 #[.int .u8 n, .bool u] w fun e w' => e = .returned (.agg #[.string (specName n), .string (specPath n), .bool u]) ∧ Below w.heap.size w w' := by
  have e10 := Int.tmod_eq_emod_of_nonneg (b := 10) h0
  have e5 := Int.tmod_eq_emod_of_nonneg (b := 5) h0
  rcases tenM n with h | h | h | h | h | h | h | h | h | h
  · rw [show specName n = ⟨#[105, 48]⟩ by unfold specName; rw [h]; rfl, show specPath n = ⟨#[97]⟩ by unfold specPath; simp [show n % 5 = 0 by omega]]; exact spec_0 n (e10.trans h) (e5.trans (by omega)) u w
  · rw [show specName n = ⟨#[105, 49]⟩ by unfold specName; rw [h]; rfl, show specPath n = ⟨#[98]⟩ by unfold specPath; simp [show n % 5 = 1 by omega]]; exact spec_1 n (e10.trans h) (e5.trans (by omega)) u w
  · rw [show specName n = ⟨#[105, 50]⟩ by unfold specName; rw [h]; rfl, show specPath n = ⟨#[97, 46, 98]⟩ by unfold specPath; simp [show n % 5 = 2 by omega]]; exact spec_2 n (e10.trans h) (e5.trans (by omega)) u w
  · rw [show specName n = ⟨#[105, 51]⟩ by unfold specName; rw [h]; rfl, show specPath n = ⟨#[99, 46, 48]⟩ by unfold specPath; simp [show n % 5 = 3 by omega]]; exact spec_3 n (e10.trans h) (e5.trans (by omega)) u w
  · rw [show specName n = ⟨#[105, 52]⟩ by unfold specName; rw [h]; rfl, show specPath n = ⟨#[110]⟩ by unfold specPath; simp [show n % 5 = 4 by omega]]; exact spec_4 n (e10.trans h) (e5.trans (by omega)) u w
  · rw [show specName n = ⟨#[105, 53]⟩ by unfold specName; rw [h]; rfl, show specPath n = ⟨#[97]⟩ by unfold specPath; simp [show n % 5 = 0 by omega]]; exact spec_5 n (e10.trans h) (e5.trans (by omega)) u w
  · rw [show specName n = ⟨#[105, 54]⟩ by unfold specName; rw [h]; rfl, show specPath n = ⟨#[98]⟩ by unfold specPath; simp [show n % 5 = 1 by omega]]; exact spec_6 n (e10.trans h) (e5.trans (by omega)) u w
  · rw [show specName n = ⟨#[105, 55]⟩ by unfold specName; rw [h]; rfl, show specPath n = ⟨#[97, 46, 98]⟩ by unfold specPath; simp [show n % 5 = 2 by omega]]; exact spec_7 n (e10.trans h) (e5.trans (by omega)) u w
  · rw [show specName n = ⟨#[105, 56]⟩ by unfold specName; rw [h]; rfl, show specPath n = ⟨#[99, 46, 48]⟩ by unfold specPath; simp [show n % 5 = 3 by omega]]; exact spec_8 n (e10.trans h) (e5.trans (by omega)) u w
  · rw [show specName n = ⟨#[105, 57]⟩ by unfold specName; rw [h]; rfl, show specPath n = ⟨#[110]⟩ by unfold specPath; simp [show n % 5 = 4 by omega]]; exact spec_9 n (e10.trans h) (e5.trans (by omega)) u w
end Go.Proofs.YtfpkkobclkdniaaGreatDoor
