/-
  The law's parts and Key by their contracts. Conditions: as stated.
-/
import Derived.Test.YtfpkkobclkdniaaGreatDoorU15
import Derived.Test.YtfpkkobclkdniaaGreatDoorU17
import Derived.Deep.Cut
import Derived.Deep.RegionHeld3
namespace Go.Proofs.YtfpkkobclkdniaaGreatDoor
open Go.RowKit

theorem strs_one {W : World} {B : Nat} {x : ByteArray} (h : W.heap[B]? = some (.cells #[.string x] 9 (0, 0))) : StrsAt W (.slice (some ⟨B, 0, none⟩) 1 1) [x] := by
  refine ⟨_, _, rfl, Nat.le_refl _, by decide, fun _ => ⟨B, 0, rfl, fun j u hj => ?_⟩⟩
  have : j = 0 := by have := (List.getElem?_eq_some_iff.1 hj).1; simpa using this
  subst this
  cases hj
  simp [World.cell?, h]
theorem strs_two {W : World} {B : Nat} {x y : ByteArray} (h : W.heap[B]? = some (.cells #[.string x, .string y] 9 (0, 0))) : StrsAt W (.slice (some ⟨B, 0, none⟩) 2 2) [x, y] := by
  refine ⟨_, _, rfl, Nat.le_refl _, by decide, fun _ => ⟨B, 0, rfl, fun j u hj => ?_⟩⟩
  have hj2 := (List.getElem?_eq_some_iff.1 hj).1
  have : j = 0 ∨ j = 1 := by have : j < 2 := hj2; omega
  rcases this with rfl | rfl <;> cases hj <;> simp [World.cell?, h]
theorem parts_one (x : ByteArray) (hx : x.size = 1) (w : World) : Calls Tryz.prog 39 #[.string x] w fun e w' => ∃ v, e = .returned v ∧ StrsAt w' v [x] ∧ Below w.heap.size w w' := by
  go_enter Tryz.func39, Tryz.ntmps39
  go_wp2
  go_ret
  exact ⟨_, rfl, strs_one (heap_alloc_new w _), (Below.refl _ _).alloc (Nat.le_refl _) _⟩
theorem parts_ab (w : World) : Calls Tryz.prog 39 #[.string ⟨#[97, 46, 98]⟩] w fun e w' => ∃ v, e = .returned v ∧ StrsAt w' v [⟨#[97]⟩, ⟨#[98]⟩] ∧ Below w.heap.size w w' := by
  go_enter Tryz.func39, Tryz.ntmps39
  go_wp2_with fail
  have h0 : (fun w' : World => Below w.heap.size w w') w.drew := (Below.refl _ _).drew
  refine wp_region_held (S := fun w' => Below w.heap.size w w') mixedE ?_
  refine wpAnyH_take (i := 0) (oi := ⟨_, _, _, _, _, _⟩) (v := ?v1) rfl (by kernel_rfl) (by kernel_rfl) (by kernel_rfl) (fun _ _ _ h => h) (Or.inl ⟨by rfl, ?hy1⟩) h0 ?rest1
  case hy1 => (intro w hSw; (try dsimp only at hSw); go_simp; try with_reducible rfl)
  simp only [Act.put, List.setIfInBounds_toArray, List.set_cons_zero, List.set_cons_succ]
  refine wpAnyH_take (i := 1) (oi := ⟨_, _, _, _, _, _⟩) (v := ?v2) rfl (by kernel_rfl) (by kernel_rfl) (by kernel_rfl) (fun _ _ _ h => h) (Or.inl ⟨by rfl, ?hy2⟩) h0 ?rest2
  case hy2 => (intro w hSw; (try dsimp only at hSw); go_simp; try with_reducible rfl)
  simp only [Act.put, List.setIfInBounds_toArray, List.set_cons_zero, List.set_cons_succ]
  refine wpAnyH_take (i := 2) (oi := ⟨_, _, _, _, _, _⟩) (v := ?v3) rfl (by kernel_rfl) (by kernel_rfl) (by kernel_rfl) (fun _ _ _ h => h) (Or.inl ⟨by rfl, ?hy3⟩) h0 ?rest3
  case hy3 => (intro w hSw; (try dsimp only at hSw); go_simp; try with_reducible rfl)
  simp only [Act.put, List.setIfInBounds_toArray, List.set_cons_zero, List.set_cons_succ]
  refine wpAnyH_take (i := 3) (oi := ⟨_, _, _, _, _, _⟩) (v := ?v4) rfl (by kernel_rfl) (by kernel_rfl) (by kernel_rfl) (fun _ _ _ h => h) (Or.inl ⟨by rfl, ?hy4⟩) h0 ?rest4
  case hy4 => (intro w hSw; (try dsimp only at hSw); go_simp; try with_reducible rfl)
  simp only [Act.put, List.setIfInBounds_toArray, List.set_cons_zero, List.set_cons_succ]
  refine wpAnyH_ready (rs := [4]) (by kernel_rfl) (by simp) ?_
  refine AllReadyH.cons (o := ⟨_, _, _, _, _, _⟩) rfl (fun K hK => ?_) AllReadyH.nil
  go_simp
  have h1 : ∀ o, Below w.heap.size w (w.alloc o).drew := fun o => ((Below.refl _ _).alloc (Nat.le_refl _) _).drew
  refine hK.out _ _ (h1 _) (fun hHeld => ?_)
  clear hK K hHeld
  try simp only [Act.put, List.setIfInBounds_toArray, List.set_cons_zero, List.set_cons_succ]
  refine wpAnyH_ready (rs := [5]) (by kernel_rfl) (by simp) ?_
  refine AllReadyH.cons (o := ⟨_, _, _, _, _, _⟩) rfl (fun K hK => ?_) AllReadyH.nil
  go_simp
  refine hK.out _ _ (h1 _) (fun hHeld => ?_)
  clear hK K hHeld
  try simp only [Act.put, List.setIfInBounds_toArray, List.set_cons_zero, List.set_cons_succ]
  refine wpAnyH_done (by kernel_rfl) ?_ _
  go_wp2
  go_ret
  exact ⟨_, rfl, strs_two (heap_alloc_new w _), h1 _⟩
theorem parts_c0 (w : World) : Calls Tryz.prog 39 #[.string ⟨#[99, 46, 48]⟩] w fun e w' => ∃ v, e = .returned v ∧ StrsAt w' v [⟨#[99]⟩, ⟨#[48]⟩] ∧ Below w.heap.size w w' := by
  go_enter Tryz.func39, Tryz.ntmps39
  go_wp2_with fail
  have h0 : (fun w' : World => Below w.heap.size w w') w.drew := (Below.refl _ _).drew
  refine wp_region_held (S := fun w' => Below w.heap.size w w') mixedE ?_
  refine wpAnyH_take (i := 0) (oi := ⟨_, _, _, _, _, _⟩) (v := ?v5) rfl (by kernel_rfl) (by kernel_rfl) (by kernel_rfl) (fun _ _ _ h => h) (Or.inl ⟨by rfl, ?hy5⟩) h0 ?rest5
  case hy5 => (intro w hSw; (try dsimp only at hSw); go_simp; try with_reducible rfl)
  simp only [Act.put, List.setIfInBounds_toArray, List.set_cons_zero, List.set_cons_succ]
  refine wpAnyH_take (i := 1) (oi := ⟨_, _, _, _, _, _⟩) (v := ?v6) rfl (by kernel_rfl) (by kernel_rfl) (by kernel_rfl) (fun _ _ _ h => h) (Or.inl ⟨by rfl, ?hy6⟩) h0 ?rest6
  case hy6 => (intro w hSw; (try dsimp only at hSw); go_simp; try with_reducible rfl)
  simp only [Act.put, List.setIfInBounds_toArray, List.set_cons_zero, List.set_cons_succ]
  refine wpAnyH_take (i := 2) (oi := ⟨_, _, _, _, _, _⟩) (v := ?v7) rfl (by kernel_rfl) (by kernel_rfl) (by kernel_rfl) (fun _ _ _ h => h) (Or.inl ⟨by rfl, ?hy7⟩) h0 ?rest7
  case hy7 => (intro w hSw; (try dsimp only at hSw); go_simp; try with_reducible rfl)
  simp only [Act.put, List.setIfInBounds_toArray, List.set_cons_zero, List.set_cons_succ]
  refine wpAnyH_take (i := 3) (oi := ⟨_, _, _, _, _, _⟩) (v := ?v8) rfl (by kernel_rfl) (by kernel_rfl) (by kernel_rfl) (fun _ _ _ h => h) (Or.inl ⟨by rfl, ?hy8⟩) h0 ?rest8
  case hy8 => (intro w hSw; (try dsimp only at hSw); go_simp; try with_reducible rfl)
  simp only [Act.put, List.setIfInBounds_toArray, List.set_cons_zero, List.set_cons_succ]
  refine wpAnyH_ready (rs := [4]) (by kernel_rfl) (by simp) ?_
  refine AllReadyH.cons (o := ⟨_, _, _, _, _, _⟩) rfl (fun K hK => ?_) AllReadyH.nil
  go_simp
  have h1 : ∀ o, Below w.heap.size w (w.alloc o).drew := fun o => ((Below.refl _ _).alloc (Nat.le_refl _) _).drew
  refine hK.out _ _ (h1 _) (fun hHeld => ?_)
  clear hK K hHeld
  try simp only [Act.put, List.setIfInBounds_toArray, List.set_cons_zero, List.set_cons_succ]
  refine wpAnyH_ready (rs := [5]) (by kernel_rfl) (by simp) ?_
  refine AllReadyH.cons (o := ⟨_, _, _, _, _, _⟩) rfl (fun K hK => ?_) AllReadyH.nil
  go_simp
  refine hK.out _ _ (h1 _) (fun hHeld => ?_)
  clear hK K hHeld
  try simp only [Act.put, List.setIfInBounds_toArray, List.set_cons_zero, List.set_cons_succ]
  refine wpAnyH_done (by kernel_rfl) ?_ _
  go_wp2
  go_ret
  exact ⟨_, rfl, strs_two (heap_alloc_new w _), h1 _⟩
theorem parts_any (n : Int) (w : World) : Calls Tryz.prog 39 #[.string (specPath n)] w fun e w' => ∃ v, e = .returned v ∧ StrsAt w' v (specParts n) ∧ Below w.heap.size w w' := by
  rcases spec_at n with ⟨-, h1, h2⟩ | ⟨-, h1, h2⟩ | ⟨-, h1, h2⟩ | ⟨-, h1, h2⟩ | ⟨-, h1, h2⟩ <;> rw [h1, h2]
  · exact parts_one _ rfl w
  · exact parts_one _ rfl w
  · exact parts_ab w
  · exact parts_c0 w
  · exact parts_one _ rfl w

set_option maxRecDepth 100000 in
set_option maxHeartbeats 4000000 in
theorem LKey_any (m : Nat) (n : Int) (name : ByteArray) (u : Bool) (v : V) (l f : Value) (w : World) (hL : Lies m w v l f) (hN : Nice 3 v) :
    Calls Tryz.prog 17 #[.agg #[.string name, .string (specPath n), .bool u], .agg #[.int .i64 v.kind, .int .i64 v.num, .string v.text, l, f]] w fun e w' => KeyAns (keyP (specParts n) v) e ∧ Below w.heap.size w w' := by
  obtain ⟨a1, c1, a3, c3, rfl, rfl⟩ := hL.slices
  have hpt := fun W' => parts_any n W'
  obtain ⟨path, hpath⟩ : ∃ p, specPath n = p := ⟨_, rfl⟩
  obtain ⟨ps, hps⟩ : ∃ ps, specParts n = ps := ⟨_, rfl⟩
  have hT : Ten ps.length v := by rw [← hps]; exact tenI_le (by have := parts_len n; omega) (niceI_ten 3 v hN)
  rw [hpath] at hpt ⊢
  rw [hps] at hpt ⊢
  clear hpath hps
  obtain ⟨W, hW⟩ : ∃ W, (w.alloc (.cells #[.string name, .string path, .bool u] 23)).alloc (.cells #[.int .i64 v.kind, .int .i64 v.num, .string v.text, .slice a1 v.list.length c1, .slice a3 v.fields.length c3] 40) = W := ⟨_, rfl⟩
  have hB : Below w.heap.size w W := by rw [← hW]; exact ((Below.refl _ _).alloc (Nat.le_refl _) _).alloc (by simp) _
  have q0 : W.heap[w.heap.size]? = some (.cells #[.string name, .string path, .bool u] 23) := by rw [← hW]; exact heap_alloc2_old
  have r0 : W.heap[w.heap.size + 1]? = some (.cells #[.int .i64 v.kind, .int .i64 v.num, .string v.text, .slice a1 v.list.length c1, .slice a3 v.fields.length c3] 40) := by rw [← hW]; exact heap_alloc2_new
  have hs2 : W.heap.size = w.heap.size + 2 := by rw [← hW]; simp
  obtain ⟨x0, x1, x2, x3, x4, xf⟩ := row5 r0
  have PQ := fun (w' : World) (h : Below W.heap.size W w') => (h.cell (p := ⟨w.heap.size, 1, none⟩) (by rw [hs2]; simp)).trans (show W.cell? ⟨w.heap.size, 1, none⟩ = some (.string path) by simp [World.cell?, q0])
  have P0 := fun (w' : World) (h : Below W.heap.size W w') => (h.cell (p := ⟨w.heap.size + 1, 0, none⟩) (by rw [hs2]; simp)).trans x0
  have P1 := fun (w' : World) (h : Below W.heap.size W w') => (h.cell (p := ⟨w.heap.size + 1, 1, none⟩) (by rw [hs2]; simp)).trans x1
  have P2 := fun (w' : World) (h : Below W.heap.size W w') => (h.cell (p := ⟨w.heap.size + 1, 2, none⟩) (by rw [hs2]; simp)).trans x2
  have P3 := fun (w' : World) (h : Below W.heap.size W w') => (h.cell (p := ⟨w.heap.size + 1, 3, none⟩) (by rw [hs2]; simp)).trans x3
  have P4 := fun (w' : World) (h : Below W.heap.size W w') => (h.cell (p := ⟨w.heap.size + 1, 4, none⟩) (by rw [hs2]; simp)).trans x4
  obtain ⟨x, hx⟩ : ∃ x, (findP v ps).getD zeroV = x := ⟨_, rfl⟩
  obtain ⟨b, hb⟩ : ∃ b, (findP v ps).isSome = b := ⟨_, rfl⟩
  have hfd := fun (s : Value) (w1 : World) (hb1 : Below W.heap.size W w1) (hs : StrsAt w1 s ps) => (show Calls Tryz.prog 38 #[.agg #[.int .i64 v.kind, .int .i64 v.num, .string v.text, .slice a1 v.list.length c1, .slice a3 v.fields.length c3], s] w1 fun e w' => ∃ l' f' m, e = .returned (.tuple #[.agg #[.int .i64 x.kind, .int .i64 x.num, .string x.text, l', f'], .bool b]) ∧ Lies m W x l' f' ∧ Below w1.heap.size w1 w' by rw [← hx, ← hb]; exact LFind_from m ps s v _ _ W w1 hb1 hs (hL.below hB) hT)
  have HX := (show Hid _ from And.intro hx (And.intro hb (And.intro hB hN)))
  clear hx hb hB hN hT q0 r0 x0 x1 x2 x3 x4 xf hL hs2
  go_enter Tryz.func17, Tryz.ntmps17
  go_wp2_with fail
  try rw [hW]
  clear hW
  go_cut [6, 7] from 16 (fun s6 s7 wr => ∃ (P : Nat) (al : Option Addr) (cl : Nat) (af : Option Addr) (cf : Nat), s6 = .pointer (some ⟨P, 0, none⟩) ∧ s7 = .bool b ∧ Aside (Below W.heap.size W wr ∧ (∃ m, Lies m wr x (.slice al x.list.length cl) (.slice af x.fields.length cf)) ∧ wr.heap[P]? = some (.cells #[.int .i64 x.kind, .int .i64 x.num, .string x.text, .slice al x.list.length cl, .slice af x.fields.length cf] 40 (0, 0))))
  case first =>
    have h0 : (fun w' : World => Below W.heap.size W w') W.drew := (Below.refl _ _).drew
    refine wp_region_held (S := fun w' => Below W.heap.size W w') mixedE ?_
    refine wpAnyH_take (i := 0) (oi := ⟨_, _, _, _, _, _⟩) (v := ?v9) rfl (by kernel_rfl) (by kernel_rfl) (by kernel_rfl) (fun _ _ _ h => h) (Or.inl ⟨by rfl, ?hy9⟩) h0 ?rest9
    case hy9 => (intro w hSw; (try dsimp only at hSw); go_simp; try with_reducible rfl)
    simp only [Act.put, List.setIfInBounds_toArray, List.set_cons_zero, List.set_cons_succ]
    refine wpAnyH_take (i := 1) (oi := ⟨_, _, _, _, _, _⟩) (v := ?v10) rfl (by kernel_rfl) (by kernel_rfl) (by kernel_rfl) (fun _ _ _ h => h) (Or.inl ⟨by rfl, ?hy10⟩) h0 ?rest10
    case hy10 => (intro w hSw; (try dsimp only at hSw); go_simp; try with_reducible rfl)
    simp only [Act.put, List.setIfInBounds_toArray, List.set_cons_zero, List.set_cons_succ]
    refine wpAnyH_take (i := 2) (oi := ⟨_, _, _, _, _, _⟩) (v := ?v11) rfl (by kernel_rfl) (by kernel_rfl) (by kernel_rfl) (fun _ _ _ h => h) (Or.inl ⟨by rfl, ?hy11⟩) h0 ?rest11
    case hy11 => (intro w hSw; (try dsimp only at hSw); go_simp; try with_reducible rfl)
    simp only [Act.put, List.setIfInBounds_toArray, List.set_cons_zero, List.set_cons_succ]
    clear PQ P0 P1 P2 P3 P4
    refine wpAnyH_ready (rs := [3, 8]) (by kernel_rfl) (by simp) ?_
    refine AllReadyH.cons (o := ⟨_, _, _, _, _, _⟩) rfl (fun K hK => ?_) (AllReadyH.cons (o := ⟨_, _, _, _, _, _⟩) rfl (fun K hK => ?_) AllReadyH.nil)
    · go_simp
      refine (hpt W.drew).mono ?_
      rintro e w1 ⟨v1, rfl, hst1, hb1⟩
      obtain ⟨sa, sc, rfl, -⟩ := id hst1
      have h1 : Below W.heap.size W w1 := Below.drop_drewE hb1
      refine hK.out _ _ h1 (fun hHeld => ?_)
      clear hK K hHeld h0 hpt hb1
      try simp only [Act.put, List.setIfInBounds_toArray, List.set_cons_zero, List.set_cons_succ]
      refine wpAnyH_ready (rs := [4, 8]) (by kernel_rfl) (by simp) ?_
      refine AllReadyH.cons (o := ⟨_, _, _, _, _, _⟩) rfl (fun K hK => ?_) (AllReadyH.cons (o := ⟨_, _, _, _, _, _⟩) rfl (fun K hK => ?_) AllReadyH.nil)
      · go_simp
        refine (hfd _ w1 h1 hst1).mono ?_
        rintro e w2 ⟨l2, f2, m2, rfl, hl2, hb2⟩
        obtain ⟨z1, d1, z3, d3, rfl, rfl⟩ := Rep.slices hl2
        have h2 : Below W.heap.size W w2 := h1.trans (hb2.mono h1.size)
        refine hK.out _ _ h2 (fun hHeld => ?_)
        clear hK K hHeld hfd hst1 h1 hb2
        try simp only [Act.put, List.setIfInBounds_toArray, List.set_cons_zero, List.set_cons_succ]
        refine wpAnyH_take (i := 5) (oi := ⟨_, _, _, _, _, _⟩) (v := ?v12) rfl (by kernel_rfl) (by kernel_rfl) (by kernel_rfl) (fun _ _ _ h => h) (Or.inl ⟨by rfl, ?hy12⟩) h2 ?rest12
        case hy12 => (intro w hSw; (try dsimp only at hSw); go_simp; try with_reducible rfl)
        simp only [Act.put, List.setIfInBounds_toArray, List.set_cons_zero, List.set_cons_succ]
        refine wpAnyH_take (i := 6) (oi := ⟨_, _, _, _, _, _⟩) (v := ?v13) rfl (by kernel_rfl) (by kernel_rfl) (by kernel_rfl) (fun _ _ _ h => h) (Or.inl ⟨by rfl, ?hy13⟩) h2 ?rest13
        case hy13 => (intro w hSw; (try dsimp only at hSw); go_simp; try with_reducible rfl)
        simp only [Act.put, List.setIfInBounds_toArray, List.set_cons_zero, List.set_cons_succ]
        refine wpAnyH_take (i := 7) (oi := ⟨_, _, _, _, _, _⟩) (v := ?v14) rfl (by kernel_rfl) (by kernel_rfl) (by kernel_rfl) (fun _ _ _ h => h) (Or.inl ⟨by rfl, ?hy14⟩) h2 ?rest14
        case hy14 => (intro w hSw; (try dsimp only at hSw); go_simp; try with_reducible rfl)
        simp only [Act.put, List.setIfInBounds_toArray, List.set_cons_zero, List.set_cons_succ]
        have h3 : ∀ o, Below W.heap.size W (w2.alloc o) := fun o => h2.alloc h2.size _
        refine wpAnyH_ready (rs := [8]) (by kernel_rfl) (by simp) ?_
        refine AllReadyH.cons (o := ⟨_, _, _, _, _, _⟩) rfl (fun K hK => ?_) AllReadyH.nil
        go_simp
        refine hK.out _ _ (h3 _) (fun hHeld => ?_)
        clear hK K hHeld
        try simp only [Act.put, List.setIfInBounds_toArray, List.set_cons_zero, List.set_cons_succ]
        refine wpAnyH_ready (rs := [9]) (by kernel_rfl) (by simp) ?_
        refine AllReadyH.cons (o := ⟨_, _, _, _, _, _⟩) rfl (fun K hK => ?_) AllReadyH.nil
        go_simp
        refine hK.out _ _ (h3 _) (fun hHeld => ?_)
        clear hK K hHeld
        try simp only [Act.put, List.setIfInBounds_toArray, List.set_cons_zero, List.set_cons_succ]
        refine wpAnyH_ready (rs := [10]) (by kernel_rfl) (by simp) ?_
        refine AllReadyH.cons (o := ⟨_, _, _, _, _, _⟩) rfl (fun K hK => ?_) AllReadyH.nil
        go_simp
        refine hK.out _ _ (h3 _) (fun hHeld => ?_)
        clear hK K hHeld
        try simp only [Act.put, List.setIfInBounds_toArray, List.set_cons_zero, List.set_cons_succ]
        refine wpAnyH_done (by kernel_rfl) ?_ _
        go_wp2
        go_meet
        exact ⟨_, _, _, _, _, rfl, rfl, h3 _, ⟨m2, Lies.below (h3 _) hl2⟩, heap_alloc_new w2 _⟩
      · go_simp
        have h2 : ∀ o, Below W.heap.size W (w1.alloc o) := fun o => h1.alloc h1.size _
        have e2 : ∀ o, (w1.alloc o).heap[w1.heap.size]? = some o := fun o => heap_alloc_new w1 _
        have g2 : ∀ o, StrsAt (w1.alloc o) (.slice sa ps.length sc) ps := fun o => hst1.below ((Below.refl _ _).alloc (Nat.le_refl _) _)
        refine hK.out _ _ (h2 _) (fun hHeld => ?_)
        clear hK K hHeld
        try simp only [Act.put, List.setIfInBounds_toArray, List.set_cons_zero, List.set_cons_succ]
        refine wpAnyH_ready (rs := [4]) (by kernel_rfl) (by simp) ?_
        refine AllReadyH.cons (o := ⟨_, _, _, _, _, _⟩) rfl (fun K hK => ?_) AllReadyH.nil
        go_simp
        refine (hfd _ _ (h2 _) (g2 _)).mono ?_
        rintro e w2 ⟨l2, f2, m2, rfl, hl2, hb2⟩
        obtain ⟨z1, d1, z3, d3, rfl, rfl⟩ := Rep.slices hl2
        have h3 : Below W.heap.size W w2 := (h2 _).trans (hb2.mono (h2 _).size)
        have q2 := (hb2.block w1.heap.size (by simp)).trans (e2 _)
        have zP := h1.size
        clear hfd hst1 h1 hb2 h2 e2 g2
        refine hK.out _ _ h3 (fun hHeld => ?_)
        clear hK K hHeld
        try simp only [Act.put, List.setIfInBounds_toArray, List.set_cons_zero, List.set_cons_succ]
        refine wpAnyH_take (i := 5) (oi := ⟨_, _, _, _, _, _⟩) (v := ?v15) rfl (by kernel_rfl) (by kernel_rfl) (by kernel_rfl) (fun _ _ _ h => h) (Or.inl ⟨by rfl, ?hy15⟩) h3 ?rest15
        case hy15 => (intro w hSw; (try dsimp only at hSw); go_simp; try with_reducible rfl)
        simp only [Act.put, List.setIfInBounds_toArray, List.set_cons_zero, List.set_cons_succ]
        refine wpAnyH_take (i := 6) (oi := ⟨_, _, _, _, _, _⟩) (v := ?v16) rfl (by kernel_rfl) (by kernel_rfl) (by kernel_rfl) (fun _ _ _ h => h) (Or.inl ⟨by rfl, ?hy16⟩) h3 ?rest16
        case hy16 => (intro w hSw; (try dsimp only at hSw); go_simp; try with_reducible rfl)
        simp only [Act.put, List.setIfInBounds_toArray, List.set_cons_zero, List.set_cons_succ]
        refine wpAnyH_take (i := 7) (oi := ⟨_, _, _, _, _, _⟩) (v := ?v17) rfl (by kernel_rfl) (by kernel_rfl) (by kernel_rfl) (fun _ _ _ h => h) (Or.inl ⟨by rfl, ?hy17⟩) h3 ?rest17
        case hy17 => (intro w hSw; (try dsimp only at hSw); go_simp; try with_reducible rfl)
        simp only [Act.put, List.setIfInBounds_toArray, List.set_cons_zero, List.set_cons_succ]
        obtain ⟨y0, y1, y2, y3, y4, yf⟩ := row5 q2
        refine wpAnyH_ready (rs := [9]) (by kernel_rfl) (by simp) ?_
        refine AllReadyH.cons (o := ⟨_, _, _, _, _, _⟩) rfl (fun K hK => ?_) AllReadyH.nil
        go_simp
        have h4 : ∀ a0 a1 a2 a3 a4, Below W.heap.size W (set5W w2 w1.heap.size 0 1 2 3 4 a0 a1 a2 a3 a4) := fun a0 a1 a2 a3 a4 => set5W_below h3 zP _ _ _ _ _ _ _ _ _ _
        refine hK.out _ _ (h4 _ _ _ _ _) (fun hHeld => ?_)
        clear hK K hHeld
        try simp only [Act.put, List.setIfInBounds_toArray, List.set_cons_zero, List.set_cons_succ]
        refine wpAnyH_ready (rs := [10]) (by kernel_rfl) (by simp) ?_
        refine AllReadyH.cons (o := ⟨_, _, _, _, _, _⟩) rfl (fun K hK => ?_) AllReadyH.nil
        go_simp
        refine hK.out _ _ (h4 _ _ _ _ _) (fun hHeld => ?_)
        clear hK K hHeld
        try simp only [Act.put, List.setIfInBounds_toArray, List.set_cons_zero, List.set_cons_succ]
        refine wpAnyH_done (by kernel_rfl) ?_ _
        go_wp2
        go_meet
        exact ⟨_, _, _, _, _, rfl, rfl, h4 _ _ _ _ _, ⟨m2, Lies.below (h4 _ _ _ _ _) hl2⟩, box_set q2 _ _ _ _ _⟩
    · go_simp
      have h1 : ∀ o, Below W.heap.size W (W.drew.alloc o) := fun o => (Below.refl _ _).drew.alloc (Nat.le_refl _) _
      have e1 : ∀ o, (W.drew.alloc o).heap[W.heap.size]? = some o := fun o => heap_alloc_new W.drew _
      refine hK.out _ _ (h1 _) (fun hHeld => ?_)
      clear hK K hHeld h0
      try simp only [Act.put, List.setIfInBounds_toArray, List.set_cons_zero, List.set_cons_succ]
      refine wpAnyH_ready (rs := [3]) (by kernel_rfl) (by simp) ?_
      refine AllReadyH.cons (o := ⟨_, _, _, _, _, _⟩) rfl (fun K hK => ?_) AllReadyH.nil
      go_simp
      refine (hpt _).mono ?_
      rintro e w1 ⟨v1, rfl, hst1, hb1⟩
      obtain ⟨sa, sc, rfl, -⟩ := id hst1
      have h2 : Below W.heap.size W w1 := (h1 _).trans (hb1.mono (h1 _).size)
      have q1 := (hb1.block W.heap.size (by simp)).trans (e1 _)
      clear hpt hb1 h1 e1
      refine hK.out _ _ h2 (fun hHeld => ?_)
      clear hK K hHeld
      try simp only [Act.put, List.setIfInBounds_toArray, List.set_cons_zero, List.set_cons_succ]
      refine wpAnyH_ready (rs := [4]) (by kernel_rfl) (by simp) ?_
      refine AllReadyH.cons (o := ⟨_, _, _, _, _, _⟩) rfl (fun K hK => ?_) AllReadyH.nil
      go_simp
      refine (hfd _ _ h2 hst1).mono ?_
      rintro e w2 ⟨l2, f2, m2, rfl, hl2, hb2⟩
      obtain ⟨z1, d1, z3, d3, rfl, rfl⟩ := Rep.slices hl2
      have h3 : Below W.heap.size W w2 := h2.trans (hb2.mono h2.size)
      have q2 := (hb2.block W.heap.size (lt_of_heap q1)).trans q1
      clear hfd hst1 hb2 h2 q1
      refine hK.out _ _ h3 (fun hHeld => ?_)
      clear hK K hHeld
      try simp only [Act.put, List.setIfInBounds_toArray, List.set_cons_zero, List.set_cons_succ]
      refine wpAnyH_take (i := 5) (oi := ⟨_, _, _, _, _, _⟩) (v := ?v18) rfl (by kernel_rfl) (by kernel_rfl) (by kernel_rfl) (fun _ _ _ h => h) (Or.inl ⟨by rfl, ?hy18⟩) h3 ?rest18
      case hy18 => (intro w hSw; (try dsimp only at hSw); go_simp; try with_reducible rfl)
      simp only [Act.put, List.setIfInBounds_toArray, List.set_cons_zero, List.set_cons_succ]
      refine wpAnyH_take (i := 6) (oi := ⟨_, _, _, _, _, _⟩) (v := ?v19) rfl (by kernel_rfl) (by kernel_rfl) (by kernel_rfl) (fun _ _ _ h => h) (Or.inl ⟨by rfl, ?hy19⟩) h3 ?rest19
      case hy19 => (intro w hSw; (try dsimp only at hSw); go_simp; try with_reducible rfl)
      simp only [Act.put, List.setIfInBounds_toArray, List.set_cons_zero, List.set_cons_succ]
      refine wpAnyH_take (i := 7) (oi := ⟨_, _, _, _, _, _⟩) (v := ?v20) rfl (by kernel_rfl) (by kernel_rfl) (by kernel_rfl) (fun _ _ _ h => h) (Or.inl ⟨by rfl, ?hy20⟩) h3 ?rest20
      case hy20 => (intro w hSw; (try dsimp only at hSw); go_simp; try with_reducible rfl)
      simp only [Act.put, List.setIfInBounds_toArray, List.set_cons_zero, List.set_cons_succ]
      obtain ⟨y0, y1, y2, y3, y4, yf⟩ := row5 q2
      refine wpAnyH_ready (rs := [9]) (by kernel_rfl) (by simp) ?_
      refine AllReadyH.cons (o := ⟨_, _, _, _, _, _⟩) rfl (fun K hK => ?_) AllReadyH.nil
      go_simp
      have h4 : ∀ a0 a1 a2 a3 a4, Below W.heap.size W (set5W w2 W.heap.size 0 1 2 3 4 a0 a1 a2 a3 a4) := fun a0 a1 a2 a3 a4 => set5W_below h3 (Nat.le_refl _) _ _ _ _ _ _ _ _ _ _
      refine hK.out _ _ (h4 _ _ _ _ _) (fun hHeld => ?_)
      clear hK K hHeld
      try simp only [Act.put, List.setIfInBounds_toArray, List.set_cons_zero, List.set_cons_succ]
      refine wpAnyH_ready (rs := [10]) (by kernel_rfl) (by simp) ?_
      refine AllReadyH.cons (o := ⟨_, _, _, _, _, _⟩) rfl (fun K hK => ?_) AllReadyH.nil
      go_simp
      refine hK.out _ _ (h4 _ _ _ _ _) (fun hHeld => ?_)
      clear hK K hHeld
      try simp only [Act.put, List.setIfInBounds_toArray, List.set_cons_zero, List.set_cons_succ]
      refine wpAnyH_done (by kernel_rfl) ?_ _
      go_wp2
      go_meet
      exact ⟨_, _, _, _, _, rfl, rfl, h4 _ _ _ _ _, ⟨m2, Lies.below (h4 _ _ _ _ _) hl2⟩, box_set q2 _ _ _ _ _⟩
  case rest =>
    obtain ⟨P, al, cl, af, cf, rfl, rfl, A⟩ := hcut
    obtain ⟨hbc, ⟨mc, hlc⟩, hqc⟩ := A.out
    obtain ⟨x0, x1, x2, x3, x4, xf⟩ := row5 hqc
    obtain ⟨hx, hb, hB, hN⟩ := HX.out
    have HB := (show Hid _ from hB.trans (hbc.mono hB.size))
    clear hpt hfd PQ P0 P1 P2 P3 P4 hqc hbc hB
    cases b with
    | false =>
      have : keyP ps v = none := by
        unfold keyP
        cases hf : findP v ps with
        | none => rfl
        | some y => rw [hf] at hb; cases hb
      have HK := (show Hid _ from this)
      clear hx hb hN hlc this
      go_wp2
      go_ret2
      exact ⟨by rw [HK.out]; rfl, HB.out⟩
    | true =>
      have hf : findP v ps = some x := by
        cases hf : findP v ps with
        | none => rw [hf] at hb; cases hb
        | some y => rw [hf] at hx; exact congrArg some hx
      have : keyP ps v = some (keyT x) := by unfold keyP; rw [hf]; rfl
      have hput := lput_key mc x _ _ wc (nice_find ps hN hf) hlc
      obtain ⟨kx, hk⟩ : ∃ kx, keyT x = kx := ⟨_, rfl⟩
      rw [hk] at hput this
      have HK := (show Hid _ from this)
      clear hx hb hN hlc this hf hk
      go_wp2_with fail
      refine hput.mono ?_
      rintro e w3 ⟨rfl, hb3⟩
      have H3 := (show Hid _ from hb3)
      clear hput hb3
      go_wp2
      go_ret2
      exact ⟨by rw [HK.out]; rfl, HB.out.trans (H3.out.mono HB.out.size)⟩
end Go.Proofs.YtfpkkobclkdniaaGreatDoor
