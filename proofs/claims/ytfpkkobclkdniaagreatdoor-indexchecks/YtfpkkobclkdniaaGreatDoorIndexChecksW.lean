/-
  IndexChecks's walk. No conditions beyond those stated.
-/
import Derived.Test.YtfpkkobclkdniaaGreatDoorU24
import Derived.Test.YtfpkkobclkdniaaGreatDoorU13
import Derived.Deep.Cut
namespace Go.Proofs.YtfpkkobclkdniaaGreatDoor
open Go.RowKit

theorem bad_step {l : List UInt8} {k : Nat} {x : UInt8} {B b : Bool} (h : l[k]? = some x) (hb : b = (B || !nameB (l.take k))) : (b || !inN x.toNat) = (B || !nameB (l.take (k + 1))) := by
  rw [nameB_take h, hb]
  cases B <;> cases nameB (l.take k) <;> cases inN (x.toNat : Int) <;> rfl
theorem ok_not {s : ByteArray} {b : Bool} (h : b = ((decide (s.size = 0) || decide (16 < s.size)) || !nameB s.data.toList)) : nameOK s = !b := by
  unfold nameOK
  rw [h]
  by_cases h0 : s.size = 0
  · simp [h0]
  · by_cases h1 : 16 < s.size
    · simp [h1, show ¬ s.size ≤ 16 by omega]
    · simp [h0, h1, show s.size ≤ 16 by omega]
theorem errC_bad {a p : ByteArray} (h : nameOK a = false) : errC a p = 5 := by unfold errC; rw [h]; rfl
theorem errC_none {a p : ByteArray} (h : nameOK a = true) (h2 : parsePP p = none) : errC a p = 6 := by unfold errC; rw [h, h2]; rfl
theorem errC_some {a p : ByteArray} {ps : List ByteArray} (h : nameOK a = true) (h2 : parsePP p = some ps) : errC a p = 0 := by unfold errC; rw [h, h2]; rfl
theorem cut_size (s : ByteArray) : (s.extract 0 (min (s.size : Int) 100).toNat).size ≤ 100 := by simp; omega
set_option maxRecDepth 100000 in
set_option maxHeartbeats 64000000 in
theorem IndexChecks_walk (name path : ByteArray) (u : Bool) (v1 : Value) (bs : List UInt8) (w : World) (hb : BytesAt w v1 bs) (hE : PEnv w ∧ Tabs w) :
    Calls Tryz.prog 3 #[.agg #[.string name, .string path, .bool u], v1] w fun e w' => e = .returned (.bool true) ∧ Below w.heap.size w w' := by
  obtain ⟨hE, hT⟩ := hE
  obtain ⟨ba, bc, rfl, -⟩ := id hb
  obtain ⟨W, hW⟩ : ∃ W, w.alloc (.cells #[.string name, .string path, .bool u] 23) = W := ⟨_, rfl⟩
  obtain ⟨hB, r0⟩ := box3 hW
  obtain ⟨Z, hZ⟩ : ∃ Z, w.heap.size = Z := ⟨_, rfl⟩
  have haw := iawake_true W (hE.below hB)
  have m0 : 0 ≤ min (name.size : Int) 100 := by omega
  have m1 : min (name.size : Int) 100 ≤ (name.size : Int) := by omega
  have p0 : 0 ≤ min (path.size : Int) 100 := by omega
  have p1 : min (path.size : Int) 100 ≤ (path.size : Int) := by omega
  rw [hZ] at r0
  have HH := (show Hid _ from And.intro hB (And.intro r0 (And.intro hb (And.intro hE (And.intro hT hZ)))))
  clear hB r0 hb hE hT
  go_enter Tryz.func3, Tryz.ntmps3
  go_wp2_with fail
  clear hW
  try rw [hZ]
  refine haw.mono ?_
  rintro e w1 ⟨rfl, hb1⟩
  obtain ⟨hB, r0, hb, hE, hT, -⟩ := HH.out
  have r1 := (hb1.block _ (lt_of_heap r0)).trans r0
  obtain ⟨x0, x1, x2, xf⟩ := row3 r1
  have hB1 : Below w.heap.size w w1 := hB.trans (hb1.mono hB.size)
  have H1 := (show Hid _ from And.intro hB1 (And.intro r1 (And.intro hb (And.intro hE (And.intro hT hZ)))))
  clear haw hb1 hB r0 hb hE hT r1 hB1 HH hZ
  go_wp2_with fail
  go_cut [4] from 31 (fun s4 wr => s4 = .bool false ∧ Aside (Below w.heap.size w wr ∧ wr.heap[Z]? = some (.cells #[.string (name.extract 0 (min (name.size : Int) 100).toNat), .string (path.extract 0 (min (path.size : Int) 100).toNat), .bool u] 23 (0, 0))))
  case first =>
    have h0 : (fun w' : World => Below w.heap.size w w') w1.drew := H1.out.1.drew
    have y0 : w1.drew.cell? ⟨Z, 0, none⟩ = some (.string name) := x0
    have y1 : w1.drew.cell? ⟨Z, 1, none⟩ = some (.string path) := x1
    have yf : ∀ j, w1.drew.frozen? ⟨Z, j, none⟩ = false := xf
    have HL := (show Hid _ from And.intro (show ∀ a, Below w.heap.size w (w1.drew.setCell ⟨Z, 0, none⟩ a) from fun a => h0.setCell (Nat.le_of_eq H1.out.2.2.2.2.2) _) (And.intro (show ∀ a b, Below w.heap.size w ((w1.drew.setCell ⟨Z, 0, none⟩ a).setCell ⟨Z, 1, none⟩ b) from fun a b => (h0.setCell (Nat.le_of_eq H1.out.2.2.2.2.2) _).setCell (Nat.le_of_eq H1.out.2.2.2.2.2) _) (show ∀ a b, ((w1.drew.setCell ⟨Z, 0, none⟩ a).setCell ⟨Z, 1, none⟩ b).heap[Z]? = some (.cells #[a, b, .bool u] 23 (0, 0)) from fun a b => by rw [setCell_row (setCell_row (W := w1.drew) (show w1.drew.heap[Z]? = some _ from H1.out.2.1) _) _]; rfl)))
    refine wp_region_held (S := fun w' => Below w.heap.size w w') mixedE ?_
    refine wpAnyH_take (i := 0) (oi := ⟨_, _, _, _, _, _⟩) (v := ?v1) rfl (by kernel_rfl) (by kernel_rfl) (by kernel_rfl) (fun _ _ _ h => h) (Or.inl ⟨by rfl, ?hy1⟩) h0 ?rest1
    case hy1 => (intro w hSw; (try dsimp only at hSw); go_simp; try with_reducible rfl)
    simp only [Act.put, List.setIfInBounds_toArray, List.set_cons_zero, List.set_cons_succ]
    refine wpAnyH_take (i := 2) (oi := ⟨_, _, _, _, _, _⟩) (v := ?v2) rfl (by kernel_rfl) (by kernel_rfl) (by kernel_rfl) (fun _ _ _ h => h) (Or.inl ⟨by rfl, ?hy2⟩) h0 ?rest2
    case hy2 => (intro w hSw; (try dsimp only at hSw); go_simp; try with_reducible rfl)
    simp only [Act.put, List.setIfInBounds_toArray, List.set_cons_zero, List.set_cons_succ]
    refine wpAnyH_take (i := 7) (oi := ⟨_, _, _, _, _, _⟩) (v := ?v3) rfl (by kernel_rfl) (by kernel_rfl) (by kernel_rfl) (fun _ _ _ h => h) (Or.inl ⟨by rfl, ?hy3⟩) h0 ?rest3
    case hy3 => (intro w hSw; (try dsimp only at hSw); go_simp; try with_reducible rfl)
    simp only [Act.put, List.setIfInBounds_toArray, List.set_cons_zero, List.set_cons_succ]
    refine wpAnyH_take (i := 9) (oi := ⟨_, _, _, _, _, _⟩) (v := ?v4) rfl (by kernel_rfl) (by kernel_rfl) (by kernel_rfl) (fun _ _ _ h => h) (Or.inl ⟨by rfl, ?hy4⟩) h0 ?rest4
    case hy4 => (intro w hSw; (try dsimp only at hSw); go_simp; try with_reducible rfl)
    simp only [Act.put, List.setIfInBounds_toArray, List.set_cons_zero, List.set_cons_succ]
    refine wpAnyH_ready (rs := [1, 3, 8, 10]) (by kernel_rfl) (by simp) ?_
    refine AllReadyH.cons (o := ⟨_, _, _, _, _, _⟩) rfl (fun K hK => ?_) (AllReadyH.cons (o := ⟨_, _, _, _, _, _⟩) rfl (fun K hK => ?_) (AllReadyH.cons (o := ⟨_, _, _, _, _, _⟩) rfl (fun K hK => ?_) (AllReadyH.cons (o := ⟨_, _, _, _, _, _⟩) rfl (fun K hK => ?_) AllReadyH.nil)))
    · go_simp
      refine hK.out _ _ h0 (fun hHeld => ?_)
      clear hK K hHeld
      try simp only [Act.put, List.setIfInBounds_toArray, List.set_cons_zero, List.set_cons_succ]
      refine wpAnyH_ready (rs := [3, 8, 10]) (by kernel_rfl) (by simp) ?_
      refine AllReadyH.cons (o := ⟨_, _, _, _, _, _⟩) rfl (fun K hK => ?_) (AllReadyH.cons (o := ⟨_, _, _, _, _, _⟩) rfl (fun K hK => ?_) (AllReadyH.cons (o := ⟨_, _, _, _, _, _⟩) rfl (fun K hK => ?_) AllReadyH.nil))
      · go_simp
        refine hK.out _ _ h0 (fun hHeld => ?_)
        clear hK K hHeld
        try simp only [Act.put, List.setIfInBounds_toArray, List.set_cons_zero, List.set_cons_succ]
        refine wpAnyH_take (i := 4) (oi := ⟨_, _, _, _, _, _⟩) (v := ?v5) rfl (by kernel_rfl) (by kernel_rfl) (by kernel_rfl) (fun _ _ _ h => h) (Or.inl ⟨by rfl, ?hy5⟩) h0 ?rest5
        case hy5 => (intro w hSw; (try dsimp only at hSw); go_simp; try with_reducible rfl)
        simp only [Act.put, List.setIfInBounds_toArray, List.set_cons_zero, List.set_cons_succ]
        refine wpAnyH_take (i := 5) (oi := ⟨_, _, _, _, _, _⟩) (v := ?v6) rfl (by kernel_rfl) (by kernel_rfl) (by kernel_rfl) (fun _ _ _ h => h) (Or.inl ⟨by rfl, ?hy6⟩) h0 ?rest6
        case hy6 => (intro w hSw; (try dsimp only at hSw); go_simp; try with_reducible rfl)
        simp only [Act.put, List.setIfInBounds_toArray, List.set_cons_zero, List.set_cons_succ]
        refine wpAnyH_take (i := 6) (oi := ⟨_, _, _, _, _, _⟩) (v := ?v7) rfl (by kernel_rfl) (by kernel_rfl) (by kernel_rfl) (fun _ _ _ h => h) (Or.inl ⟨by rfl, ?hy7⟩) h0 ?rest7
        case hy7 => (intro w hSw; (try dsimp only at hSw); go_simp; try with_reducible rfl)
        simp only [Act.put, List.setIfInBounds_toArray, List.set_cons_zero, List.set_cons_succ]
        refine wpAnyH_ready (rs := [8, 10]) (by kernel_rfl) (by simp) ?_
        refine AllReadyH.cons (o := ⟨_, _, _, _, _, _⟩) rfl (fun K hK => ?_) (AllReadyH.cons (o := ⟨_, _, _, _, _, _⟩) rfl (fun K hK => ?_) AllReadyH.nil)
        · go_simp
          refine hK.out _ _ h0 (fun hHeld => ?_)
          clear hK K hHeld
          try simp only [Act.put, List.setIfInBounds_toArray, List.set_cons_zero, List.set_cons_succ]
          refine wpAnyH_ready (rs := [10]) (by kernel_rfl) (by simp) ?_
          refine AllReadyH.cons (o := ⟨_, _, _, _, _, _⟩) rfl (fun K hK => ?_) AllReadyH.nil
          go_simp
          refine hK.out _ _ h0 (fun hHeld => ?_)
          clear hK K hHeld
          try simp only [Act.put, List.setIfInBounds_toArray, List.set_cons_zero, List.set_cons_succ]
          refine wpAnyH_take (i := 11) (oi := ⟨_, _, _, _, _, _⟩) (v := ?v8) rfl (by kernel_rfl) (by kernel_rfl) (by kernel_rfl) (fun _ _ _ h => h) (Or.inl ⟨by rfl, ?hy8⟩) h0 ?rest8
          case hy8 => (intro w hSw; (try dsimp only at hSw); go_simp; try with_reducible rfl)
          simp only [Act.put, List.setIfInBounds_toArray, List.set_cons_zero, List.set_cons_succ]
          refine wpAnyH_take (i := 12) (oi := ⟨_, _, _, _, _, _⟩) (v := ?v9) rfl (by kernel_rfl) (by kernel_rfl) (by kernel_rfl) (fun _ _ _ h => h) (Or.inl ⟨by rfl, ?hy9⟩) h0 ?rest9
          case hy9 => (intro w hSw; (try dsimp only at hSw); go_simp; try with_reducible rfl)
          simp only [Act.put, List.setIfInBounds_toArray, List.set_cons_zero, List.set_cons_succ]
          refine wpAnyH_take (i := 13) (oi := ⟨_, _, _, _, _, _⟩) (v := ?v10) rfl (by kernel_rfl) (by kernel_rfl) (by kernel_rfl) (fun _ _ _ h => h) (Or.inl ⟨by rfl, ?hy10⟩) h0 ?rest10
          case hy10 => (intro w hSw; (try dsimp only at hSw); go_simp; try with_reducible rfl)
          simp only [Act.put, List.setIfInBounds_toArray, List.set_cons_zero, List.set_cons_succ]
          refine wpAnyH_take (i := 14) (oi := ⟨_, _, _, _, _, _⟩) (v := ?v11) rfl (by kernel_rfl) (by kernel_rfl) (by kernel_rfl) (fun _ _ _ h => h) (Or.inl ⟨by rfl, ?hy11⟩) h0 ?rest11
          case hy11 => (intro w hSw; (try dsimp only at hSw); go_simp; try with_reducible rfl)
          simp only [Act.put, List.setIfInBounds_toArray, List.set_cons_zero, List.set_cons_succ]
          refine wpAnyH_ready (rs := [15]) (by kernel_rfl) (by simp) ?_
          refine AllReadyH.cons (o := ⟨_, _, _, _, _, _⟩) rfl (fun K hK => ?_) AllReadyH.nil
          go_simp
          refine hK.out _ _ (HL.out.1 _) (fun hHeld => ?_)
          clear hK K hHeld
          try simp only [Act.put, List.setIfInBounds_toArray, List.set_cons_zero, List.set_cons_succ]
          refine wpAnyH_take (i := 16) (oi := ⟨_, _, _, _, _, _⟩) (v := ?v12) rfl (by kernel_rfl) (by kernel_rfl) (by kernel_rfl) (fun _ _ _ h => h) (Or.inl ⟨by rfl, ?hy12⟩) (HL.out.1 _) ?rest12
          case hy12 => (intro w hSw; (try dsimp only at hSw); go_simp; try with_reducible rfl)
          simp only [Act.put, List.setIfInBounds_toArray, List.set_cons_zero, List.set_cons_succ]
          refine wpAnyH_ready (rs := [17]) (by kernel_rfl) (by simp) ?_
          refine AllReadyH.cons (o := ⟨_, _, _, _, _, _⟩) rfl (fun K hK => ?_) AllReadyH.nil
          go_simp
          refine hK.out _ _ (HL.out.2.1 _ _) (fun hHeld => ?_)
          clear hK K hHeld
          try simp only [Act.put, List.setIfInBounds_toArray, List.set_cons_zero, List.set_cons_succ]
          refine wpAnyH_done (by kernel_rfl) ?_ _
          go_wp2
          go_meet
          exact ⟨rfl, HL.out.2.1 _ _, HL.out.2.2 _ _⟩
        · go_simp
          refine hK.out _ _ h0 (fun hHeld => ?_)
          clear hK K hHeld
          try simp only [Act.put, List.setIfInBounds_toArray, List.set_cons_zero, List.set_cons_succ]
          refine wpAnyH_take (i := 11) (oi := ⟨_, _, _, _, _, _⟩) (v := ?v13) rfl (by kernel_rfl) (by kernel_rfl) (by kernel_rfl) (fun _ _ _ h => h) (Or.inl ⟨by rfl, ?hy13⟩) h0 ?rest13
          case hy13 => (intro w hSw; (try dsimp only at hSw); go_simp; try with_reducible rfl)
          simp only [Act.put, List.setIfInBounds_toArray, List.set_cons_zero, List.set_cons_succ]
          refine wpAnyH_take (i := 12) (oi := ⟨_, _, _, _, _, _⟩) (v := ?v14) rfl (by kernel_rfl) (by kernel_rfl) (by kernel_rfl) (fun _ _ _ h => h) (Or.inl ⟨by rfl, ?hy14⟩) h0 ?rest14
          case hy14 => (intro w hSw; (try dsimp only at hSw); go_simp; try with_reducible rfl)
          simp only [Act.put, List.setIfInBounds_toArray, List.set_cons_zero, List.set_cons_succ]
          refine wpAnyH_ready (rs := [8]) (by kernel_rfl) (by simp) ?_
          refine AllReadyH.cons (o := ⟨_, _, _, _, _, _⟩) rfl (fun K hK => ?_) AllReadyH.nil
          go_simp
          refine hK.out _ _ h0 (fun hHeld => ?_)
          clear hK K hHeld
          try simp only [Act.put, List.setIfInBounds_toArray, List.set_cons_zero, List.set_cons_succ]
          refine wpAnyH_take (i := 13) (oi := ⟨_, _, _, _, _, _⟩) (v := ?v15) rfl (by kernel_rfl) (by kernel_rfl) (by kernel_rfl) (fun _ _ _ h => h) (Or.inl ⟨by rfl, ?hy15⟩) h0 ?rest15
          case hy15 => (intro w hSw; (try dsimp only at hSw); go_simp; try with_reducible rfl)
          simp only [Act.put, List.setIfInBounds_toArray, List.set_cons_zero, List.set_cons_succ]
          refine wpAnyH_take (i := 14) (oi := ⟨_, _, _, _, _, _⟩) (v := ?v16) rfl (by kernel_rfl) (by kernel_rfl) (by kernel_rfl) (fun _ _ _ h => h) (Or.inl ⟨by rfl, ?hy16⟩) h0 ?rest16
          case hy16 => (intro w hSw; (try dsimp only at hSw); go_simp; try with_reducible rfl)
          simp only [Act.put, List.setIfInBounds_toArray, List.set_cons_zero, List.set_cons_succ]
          refine wpAnyH_ready (rs := [15]) (by kernel_rfl) (by simp) ?_
          refine AllReadyH.cons (o := ⟨_, _, _, _, _, _⟩) rfl (fun K hK => ?_) AllReadyH.nil
          go_simp
          refine hK.out _ _ (HL.out.1 _) (fun hHeld => ?_)
          clear hK K hHeld
          try simp only [Act.put, List.setIfInBounds_toArray, List.set_cons_zero, List.set_cons_succ]
          refine wpAnyH_take (i := 16) (oi := ⟨_, _, _, _, _, _⟩) (v := ?v17) rfl (by kernel_rfl) (by kernel_rfl) (by kernel_rfl) (fun _ _ _ h => h) (Or.inl ⟨by rfl, ?hy17⟩) (HL.out.1 _) ?rest17
          case hy17 => (intro w hSw; (try dsimp only at hSw); go_simp; try with_reducible rfl)
          simp only [Act.put, List.setIfInBounds_toArray, List.set_cons_zero, List.set_cons_succ]
          refine wpAnyH_ready (rs := [17]) (by kernel_rfl) (by simp) ?_
          refine AllReadyH.cons (o := ⟨_, _, _, _, _, _⟩) rfl (fun K hK => ?_) AllReadyH.nil
          go_simp
          refine hK.out _ _ (HL.out.2.1 _ _) (fun hHeld => ?_)
          clear hK K hHeld
          try simp only [Act.put, List.setIfInBounds_toArray, List.set_cons_zero, List.set_cons_succ]
          refine wpAnyH_done (by kernel_rfl) ?_ _
          go_wp2
          go_meet
          exact ⟨rfl, HL.out.2.1 _ _, HL.out.2.2 _ _⟩
      · go_simp
        refine hK.out _ _ h0 (fun hHeld => ?_)
        clear hK K hHeld
        try simp only [Act.put, List.setIfInBounds_toArray, List.set_cons_zero, List.set_cons_succ]
        refine wpAnyH_ready (rs := [3, 10]) (by kernel_rfl) (by simp) ?_
        refine AllReadyH.cons (o := ⟨_, _, _, _, _, _⟩) rfl (fun K hK => ?_) (AllReadyH.cons (o := ⟨_, _, _, _, _, _⟩) rfl (fun K hK => ?_) AllReadyH.nil)
        · go_simp
          refine hK.out _ _ h0 (fun hHeld => ?_)
          clear hK K hHeld
          try simp only [Act.put, List.setIfInBounds_toArray, List.set_cons_zero, List.set_cons_succ]
          refine wpAnyH_take (i := 4) (oi := ⟨_, _, _, _, _, _⟩) (v := ?v18) rfl (by kernel_rfl) (by kernel_rfl) (by kernel_rfl) (fun _ _ _ h => h) (Or.inl ⟨by rfl, ?hy18⟩) h0 ?rest18
          case hy18 => (intro w hSw; (try dsimp only at hSw); go_simp; try with_reducible rfl)
          simp only [Act.put, List.setIfInBounds_toArray, List.set_cons_zero, List.set_cons_succ]
          refine wpAnyH_take (i := 5) (oi := ⟨_, _, _, _, _, _⟩) (v := ?v19) rfl (by kernel_rfl) (by kernel_rfl) (by kernel_rfl) (fun _ _ _ h => h) (Or.inl ⟨by rfl, ?hy19⟩) h0 ?rest19
          case hy19 => (intro w hSw; (try dsimp only at hSw); go_simp; try with_reducible rfl)
          simp only [Act.put, List.setIfInBounds_toArray, List.set_cons_zero, List.set_cons_succ]
          refine wpAnyH_take (i := 6) (oi := ⟨_, _, _, _, _, _⟩) (v := ?v20) rfl (by kernel_rfl) (by kernel_rfl) (by kernel_rfl) (fun _ _ _ h => h) (Or.inl ⟨by rfl, ?hy20⟩) h0 ?rest20
          case hy20 => (intro w hSw; (try dsimp only at hSw); go_simp; try with_reducible rfl)
          simp only [Act.put, List.setIfInBounds_toArray, List.set_cons_zero, List.set_cons_succ]
          refine wpAnyH_ready (rs := [10]) (by kernel_rfl) (by simp) ?_
          refine AllReadyH.cons (o := ⟨_, _, _, _, _, _⟩) rfl (fun K hK => ?_) AllReadyH.nil
          go_simp
          refine hK.out _ _ h0 (fun hHeld => ?_)
          clear hK K hHeld
          try simp only [Act.put, List.setIfInBounds_toArray, List.set_cons_zero, List.set_cons_succ]
          refine wpAnyH_take (i := 11) (oi := ⟨_, _, _, _, _, _⟩) (v := ?v21) rfl (by kernel_rfl) (by kernel_rfl) (by kernel_rfl) (fun _ _ _ h => h) (Or.inl ⟨by rfl, ?hy21⟩) h0 ?rest21
          case hy21 => (intro w hSw; (try dsimp only at hSw); go_simp; try with_reducible rfl)
          simp only [Act.put, List.setIfInBounds_toArray, List.set_cons_zero, List.set_cons_succ]
          refine wpAnyH_take (i := 12) (oi := ⟨_, _, _, _, _, _⟩) (v := ?v22) rfl (by kernel_rfl) (by kernel_rfl) (by kernel_rfl) (fun _ _ _ h => h) (Or.inl ⟨by rfl, ?hy22⟩) h0 ?rest22
          case hy22 => (intro w hSw; (try dsimp only at hSw); go_simp; try with_reducible rfl)
          simp only [Act.put, List.setIfInBounds_toArray, List.set_cons_zero, List.set_cons_succ]
          refine wpAnyH_take (i := 13) (oi := ⟨_, _, _, _, _, _⟩) (v := ?v23) rfl (by kernel_rfl) (by kernel_rfl) (by kernel_rfl) (fun _ _ _ h => h) (Or.inl ⟨by rfl, ?hy23⟩) h0 ?rest23
          case hy23 => (intro w hSw; (try dsimp only at hSw); go_simp; try with_reducible rfl)
          simp only [Act.put, List.setIfInBounds_toArray, List.set_cons_zero, List.set_cons_succ]
          refine wpAnyH_take (i := 14) (oi := ⟨_, _, _, _, _, _⟩) (v := ?v24) rfl (by kernel_rfl) (by kernel_rfl) (by kernel_rfl) (fun _ _ _ h => h) (Or.inl ⟨by rfl, ?hy24⟩) h0 ?rest24
          case hy24 => (intro w hSw; (try dsimp only at hSw); go_simp; try with_reducible rfl)
          simp only [Act.put, List.setIfInBounds_toArray, List.set_cons_zero, List.set_cons_succ]
          refine wpAnyH_ready (rs := [15]) (by kernel_rfl) (by simp) ?_
          refine AllReadyH.cons (o := ⟨_, _, _, _, _, _⟩) rfl (fun K hK => ?_) AllReadyH.nil
          go_simp
          refine hK.out _ _ (HL.out.1 _) (fun hHeld => ?_)
          clear hK K hHeld
          try simp only [Act.put, List.setIfInBounds_toArray, List.set_cons_zero, List.set_cons_succ]
          refine wpAnyH_take (i := 16) (oi := ⟨_, _, _, _, _, _⟩) (v := ?v25) rfl (by kernel_rfl) (by kernel_rfl) (by kernel_rfl) (fun _ _ _ h => h) (Or.inl ⟨by rfl, ?hy25⟩) (HL.out.1 _) ?rest25
          case hy25 => (intro w hSw; (try dsimp only at hSw); go_simp; try with_reducible rfl)
          simp only [Act.put, List.setIfInBounds_toArray, List.set_cons_zero, List.set_cons_succ]
          refine wpAnyH_ready (rs := [17]) (by kernel_rfl) (by simp) ?_
          refine AllReadyH.cons (o := ⟨_, _, _, _, _, _⟩) rfl (fun K hK => ?_) AllReadyH.nil
          go_simp
          refine hK.out _ _ (HL.out.2.1 _ _) (fun hHeld => ?_)
          clear hK K hHeld
          try simp only [Act.put, List.setIfInBounds_toArray, List.set_cons_zero, List.set_cons_succ]
          refine wpAnyH_done (by kernel_rfl) ?_ _
          go_wp2
          go_meet
          exact ⟨rfl, HL.out.2.1 _ _, HL.out.2.2 _ _⟩
        · go_simp
          refine hK.out _ _ h0 (fun hHeld => ?_)
          clear hK K hHeld
          try simp only [Act.put, List.setIfInBounds_toArray, List.set_cons_zero, List.set_cons_succ]
          refine wpAnyH_take (i := 11) (oi := ⟨_, _, _, _, _, _⟩) (v := ?v26) rfl (by kernel_rfl) (by kernel_rfl) (by kernel_rfl) (fun _ _ _ h => h) (Or.inl ⟨by rfl, ?hy26⟩) h0 ?rest26
          case hy26 => (intro w hSw; (try dsimp only at hSw); go_simp; try with_reducible rfl)
          simp only [Act.put, List.setIfInBounds_toArray, List.set_cons_zero, List.set_cons_succ]
          refine wpAnyH_take (i := 12) (oi := ⟨_, _, _, _, _, _⟩) (v := ?v27) rfl (by kernel_rfl) (by kernel_rfl) (by kernel_rfl) (fun _ _ _ h => h) (Or.inl ⟨by rfl, ?hy27⟩) h0 ?rest27
          case hy27 => (intro w hSw; (try dsimp only at hSw); go_simp; try with_reducible rfl)
          simp only [Act.put, List.setIfInBounds_toArray, List.set_cons_zero, List.set_cons_succ]
          refine wpAnyH_take (i := 13) (oi := ⟨_, _, _, _, _, _⟩) (v := ?v28) rfl (by kernel_rfl) (by kernel_rfl) (by kernel_rfl) (fun _ _ _ h => h) (Or.inl ⟨by rfl, ?hy28⟩) h0 ?rest28
          case hy28 => (intro w hSw; (try dsimp only at hSw); go_simp; try with_reducible rfl)
          simp only [Act.put, List.setIfInBounds_toArray, List.set_cons_zero, List.set_cons_succ]
          refine wpAnyH_ready (rs := [3]) (by kernel_rfl) (by simp) ?_
          refine AllReadyH.cons (o := ⟨_, _, _, _, _, _⟩) rfl (fun K hK => ?_) AllReadyH.nil
          go_simp
          refine hK.out _ _ h0 (fun hHeld => ?_)
          clear hK K hHeld
          try simp only [Act.put, List.setIfInBounds_toArray, List.set_cons_zero, List.set_cons_succ]
          refine wpAnyH_take (i := 4) (oi := ⟨_, _, _, _, _, _⟩) (v := ?v29) rfl (by kernel_rfl) (by kernel_rfl) (by kernel_rfl) (fun _ _ _ h => h) (Or.inl ⟨by rfl, ?hy29⟩) h0 ?rest29
          case hy29 => (intro w hSw; (try dsimp only at hSw); go_simp; try with_reducible rfl)
          simp only [Act.put, List.setIfInBounds_toArray, List.set_cons_zero, List.set_cons_succ]
          refine wpAnyH_take (i := 5) (oi := ⟨_, _, _, _, _, _⟩) (v := ?v30) rfl (by kernel_rfl) (by kernel_rfl) (by kernel_rfl) (fun _ _ _ h => h) (Or.inl ⟨by rfl, ?hy30⟩) h0 ?rest30
          case hy30 => (intro w hSw; (try dsimp only at hSw); go_simp; try with_reducible rfl)
          simp only [Act.put, List.setIfInBounds_toArray, List.set_cons_zero, List.set_cons_succ]
          refine wpAnyH_take (i := 6) (oi := ⟨_, _, _, _, _, _⟩) (v := ?v31) rfl (by kernel_rfl) (by kernel_rfl) (by kernel_rfl) (fun _ _ _ h => h) (Or.inl ⟨by rfl, ?hy31⟩) h0 ?rest31
          case hy31 => (intro w hSw; (try dsimp only at hSw); go_simp; try with_reducible rfl)
          simp only [Act.put, List.setIfInBounds_toArray, List.set_cons_zero, List.set_cons_succ]
          refine wpAnyH_take (i := 14) (oi := ⟨_, _, _, _, _, _⟩) (v := ?v32) rfl (by kernel_rfl) (by kernel_rfl) (by kernel_rfl) (fun _ _ _ h => h) (Or.inl ⟨by rfl, ?hy32⟩) h0 ?rest32
          case hy32 => (intro w hSw; (try dsimp only at hSw); go_simp; try with_reducible rfl)
          simp only [Act.put, List.setIfInBounds_toArray, List.set_cons_zero, List.set_cons_succ]
          refine wpAnyH_ready (rs := [15]) (by kernel_rfl) (by simp) ?_
          refine AllReadyH.cons (o := ⟨_, _, _, _, _, _⟩) rfl (fun K hK => ?_) AllReadyH.nil
          go_simp
          refine hK.out _ _ (HL.out.1 _) (fun hHeld => ?_)
          clear hK K hHeld
          try simp only [Act.put, List.setIfInBounds_toArray, List.set_cons_zero, List.set_cons_succ]
          refine wpAnyH_take (i := 16) (oi := ⟨_, _, _, _, _, _⟩) (v := ?v33) rfl (by kernel_rfl) (by kernel_rfl) (by kernel_rfl) (fun _ _ _ h => h) (Or.inl ⟨by rfl, ?hy33⟩) (HL.out.1 _) ?rest33
          case hy33 => (intro w hSw; (try dsimp only at hSw); go_simp; try with_reducible rfl)
          simp only [Act.put, List.setIfInBounds_toArray, List.set_cons_zero, List.set_cons_succ]
          refine wpAnyH_ready (rs := [17]) (by kernel_rfl) (by simp) ?_
          refine AllReadyH.cons (o := ⟨_, _, _, _, _, _⟩) rfl (fun K hK => ?_) AllReadyH.nil
          go_simp
          refine hK.out _ _ (HL.out.2.1 _ _) (fun hHeld => ?_)
          clear hK K hHeld
          try simp only [Act.put, List.setIfInBounds_toArray, List.set_cons_zero, List.set_cons_succ]
          refine wpAnyH_done (by kernel_rfl) ?_ _
          go_wp2
          go_meet
          exact ⟨rfl, HL.out.2.1 _ _, HL.out.2.2 _ _⟩
      · go_simp
        refine hK.out _ _ h0 (fun hHeld => ?_)
        clear hK K hHeld
        try simp only [Act.put, List.setIfInBounds_toArray, List.set_cons_zero, List.set_cons_succ]
        refine wpAnyH_take (i := 11) (oi := ⟨_, _, _, _, _, _⟩) (v := ?v34) rfl (by kernel_rfl) (by kernel_rfl) (by kernel_rfl) (fun _ _ _ h => h) (Or.inl ⟨by rfl, ?hy34⟩) h0 ?rest34
        case hy34 => (intro w hSw; (try dsimp only at hSw); go_simp; try with_reducible rfl)
        simp only [Act.put, List.setIfInBounds_toArray, List.set_cons_zero, List.set_cons_succ]
        refine wpAnyH_take (i := 12) (oi := ⟨_, _, _, _, _, _⟩) (v := ?v35) rfl (by kernel_rfl) (by kernel_rfl) (by kernel_rfl) (fun _ _ _ h => h) (Or.inl ⟨by rfl, ?hy35⟩) h0 ?rest35
        case hy35 => (intro w hSw; (try dsimp only at hSw); go_simp; try with_reducible rfl)
        simp only [Act.put, List.setIfInBounds_toArray, List.set_cons_zero, List.set_cons_succ]
        refine wpAnyH_ready (rs := [3, 8]) (by kernel_rfl) (by simp) ?_
        refine AllReadyH.cons (o := ⟨_, _, _, _, _, _⟩) rfl (fun K hK => ?_) (AllReadyH.cons (o := ⟨_, _, _, _, _, _⟩) rfl (fun K hK => ?_) AllReadyH.nil)
        · go_simp
          refine hK.out _ _ h0 (fun hHeld => ?_)
          clear hK K hHeld
          try simp only [Act.put, List.setIfInBounds_toArray, List.set_cons_zero, List.set_cons_succ]
          refine wpAnyH_take (i := 4) (oi := ⟨_, _, _, _, _, _⟩) (v := ?v36) rfl (by kernel_rfl) (by kernel_rfl) (by kernel_rfl) (fun _ _ _ h => h) (Or.inl ⟨by rfl, ?hy36⟩) h0 ?rest36
          case hy36 => (intro w hSw; (try dsimp only at hSw); go_simp; try with_reducible rfl)
          simp only [Act.put, List.setIfInBounds_toArray, List.set_cons_zero, List.set_cons_succ]
          refine wpAnyH_take (i := 5) (oi := ⟨_, _, _, _, _, _⟩) (v := ?v37) rfl (by kernel_rfl) (by kernel_rfl) (by kernel_rfl) (fun _ _ _ h => h) (Or.inl ⟨by rfl, ?hy37⟩) h0 ?rest37
          case hy37 => (intro w hSw; (try dsimp only at hSw); go_simp; try with_reducible rfl)
          simp only [Act.put, List.setIfInBounds_toArray, List.set_cons_zero, List.set_cons_succ]
          refine wpAnyH_take (i := 6) (oi := ⟨_, _, _, _, _, _⟩) (v := ?v38) rfl (by kernel_rfl) (by kernel_rfl) (by kernel_rfl) (fun _ _ _ h => h) (Or.inl ⟨by rfl, ?hy38⟩) h0 ?rest38
          case hy38 => (intro w hSw; (try dsimp only at hSw); go_simp; try with_reducible rfl)
          simp only [Act.put, List.setIfInBounds_toArray, List.set_cons_zero, List.set_cons_succ]
          refine wpAnyH_ready (rs := [8]) (by kernel_rfl) (by simp) ?_
          refine AllReadyH.cons (o := ⟨_, _, _, _, _, _⟩) rfl (fun K hK => ?_) AllReadyH.nil
          go_simp
          refine hK.out _ _ h0 (fun hHeld => ?_)
          clear hK K hHeld
          try simp only [Act.put, List.setIfInBounds_toArray, List.set_cons_zero, List.set_cons_succ]
          refine wpAnyH_take (i := 13) (oi := ⟨_, _, _, _, _, _⟩) (v := ?v39) rfl (by kernel_rfl) (by kernel_rfl) (by kernel_rfl) (fun _ _ _ h => h) (Or.inl ⟨by rfl, ?hy39⟩) h0 ?rest39
          case hy39 => (intro w hSw; (try dsimp only at hSw); go_simp; try with_reducible rfl)
          simp only [Act.put, List.setIfInBounds_toArray, List.set_cons_zero, List.set_cons_succ]
          refine wpAnyH_take (i := 14) (oi := ⟨_, _, _, _, _, _⟩) (v := ?v40) rfl (by kernel_rfl) (by kernel_rfl) (by kernel_rfl) (fun _ _ _ h => h) (Or.inl ⟨by rfl, ?hy40⟩) h0 ?rest40
          case hy40 => (intro w hSw; (try dsimp only at hSw); go_simp; try with_reducible rfl)
          simp only [Act.put, List.setIfInBounds_toArray, List.set_cons_zero, List.set_cons_succ]
          refine wpAnyH_ready (rs := [15]) (by kernel_rfl) (by simp) ?_
          refine AllReadyH.cons (o := ⟨_, _, _, _, _, _⟩) rfl (fun K hK => ?_) AllReadyH.nil
          go_simp
          refine hK.out _ _ (HL.out.1 _) (fun hHeld => ?_)
          clear hK K hHeld
          try simp only [Act.put, List.setIfInBounds_toArray, List.set_cons_zero, List.set_cons_succ]
          refine wpAnyH_take (i := 16) (oi := ⟨_, _, _, _, _, _⟩) (v := ?v41) rfl (by kernel_rfl) (by kernel_rfl) (by kernel_rfl) (fun _ _ _ h => h) (Or.inl ⟨by rfl, ?hy41⟩) (HL.out.1 _) ?rest41
          case hy41 => (intro w hSw; (try dsimp only at hSw); go_simp; try with_reducible rfl)
          simp only [Act.put, List.setIfInBounds_toArray, List.set_cons_zero, List.set_cons_succ]
          refine wpAnyH_ready (rs := [17]) (by kernel_rfl) (by simp) ?_
          refine AllReadyH.cons (o := ⟨_, _, _, _, _, _⟩) rfl (fun K hK => ?_) AllReadyH.nil
          go_simp
          refine hK.out _ _ (HL.out.2.1 _ _) (fun hHeld => ?_)
          clear hK K hHeld
          try simp only [Act.put, List.setIfInBounds_toArray, List.set_cons_zero, List.set_cons_succ]
          refine wpAnyH_done (by kernel_rfl) ?_ _
          go_wp2
          go_meet
          exact ⟨rfl, HL.out.2.1 _ _, HL.out.2.2 _ _⟩
        · go_simp
          refine hK.out _ _ h0 (fun hHeld => ?_)
          clear hK K hHeld
          try simp only [Act.put, List.setIfInBounds_toArray, List.set_cons_zero, List.set_cons_succ]
          refine wpAnyH_take (i := 13) (oi := ⟨_, _, _, _, _, _⟩) (v := ?v42) rfl (by kernel_rfl) (by kernel_rfl) (by kernel_rfl) (fun _ _ _ h => h) (Or.inl ⟨by rfl, ?hy42⟩) h0 ?rest42
          case hy42 => (intro w hSw; (try dsimp only at hSw); go_simp; try with_reducible rfl)
          simp only [Act.put, List.setIfInBounds_toArray, List.set_cons_zero, List.set_cons_succ]
          refine wpAnyH_ready (rs := [3]) (by kernel_rfl) (by simp) ?_
          refine AllReadyH.cons (o := ⟨_, _, _, _, _, _⟩) rfl (fun K hK => ?_) AllReadyH.nil
          go_simp
          refine hK.out _ _ h0 (fun hHeld => ?_)
          clear hK K hHeld
          try simp only [Act.put, List.setIfInBounds_toArray, List.set_cons_zero, List.set_cons_succ]
          refine wpAnyH_take (i := 4) (oi := ⟨_, _, _, _, _, _⟩) (v := ?v43) rfl (by kernel_rfl) (by kernel_rfl) (by kernel_rfl) (fun _ _ _ h => h) (Or.inl ⟨by rfl, ?hy43⟩) h0 ?rest43
          case hy43 => (intro w hSw; (try dsimp only at hSw); go_simp; try with_reducible rfl)
          simp only [Act.put, List.setIfInBounds_toArray, List.set_cons_zero, List.set_cons_succ]
          refine wpAnyH_take (i := 5) (oi := ⟨_, _, _, _, _, _⟩) (v := ?v44) rfl (by kernel_rfl) (by kernel_rfl) (by kernel_rfl) (fun _ _ _ h => h) (Or.inl ⟨by rfl, ?hy44⟩) h0 ?rest44
          case hy44 => (intro w hSw; (try dsimp only at hSw); go_simp; try with_reducible rfl)
          simp only [Act.put, List.setIfInBounds_toArray, List.set_cons_zero, List.set_cons_succ]
          refine wpAnyH_take (i := 6) (oi := ⟨_, _, _, _, _, _⟩) (v := ?v45) rfl (by kernel_rfl) (by kernel_rfl) (by kernel_rfl) (fun _ _ _ h => h) (Or.inl ⟨by rfl, ?hy45⟩) h0 ?rest45
          case hy45 => (intro w hSw; (try dsimp only at hSw); go_simp; try with_reducible rfl)
          simp only [Act.put, List.setIfInBounds_toArray, List.set_cons_zero, List.set_cons_succ]
          refine wpAnyH_take (i := 14) (oi := ⟨_, _, _, _, _, _⟩) (v := ?v46) rfl (by kernel_rfl) (by kernel_rfl) (by kernel_rfl) (fun _ _ _ h => h) (Or.inl ⟨by rfl, ?hy46⟩) h0 ?rest46
          case hy46 => (intro w hSw; (try dsimp only at hSw); go_simp; try with_reducible rfl)
          simp only [Act.put, List.setIfInBounds_toArray, List.set_cons_zero, List.set_cons_succ]
          refine wpAnyH_ready (rs := [15]) (by kernel_rfl) (by simp) ?_
          refine AllReadyH.cons (o := ⟨_, _, _, _, _, _⟩) rfl (fun K hK => ?_) AllReadyH.nil
          go_simp
          refine hK.out _ _ (HL.out.1 _) (fun hHeld => ?_)
          clear hK K hHeld
          try simp only [Act.put, List.setIfInBounds_toArray, List.set_cons_zero, List.set_cons_succ]
          refine wpAnyH_take (i := 16) (oi := ⟨_, _, _, _, _, _⟩) (v := ?v47) rfl (by kernel_rfl) (by kernel_rfl) (by kernel_rfl) (fun _ _ _ h => h) (Or.inl ⟨by rfl, ?hy47⟩) (HL.out.1 _) ?rest47
          case hy47 => (intro w hSw; (try dsimp only at hSw); go_simp; try with_reducible rfl)
          simp only [Act.put, List.setIfInBounds_toArray, List.set_cons_zero, List.set_cons_succ]
          refine wpAnyH_ready (rs := [17]) (by kernel_rfl) (by simp) ?_
          refine AllReadyH.cons (o := ⟨_, _, _, _, _, _⟩) rfl (fun K hK => ?_) AllReadyH.nil
          go_simp
          refine hK.out _ _ (HL.out.2.1 _ _) (fun hHeld => ?_)
          clear hK K hHeld
          try simp only [Act.put, List.setIfInBounds_toArray, List.set_cons_zero, List.set_cons_succ]
          refine wpAnyH_done (by kernel_rfl) ?_ _
          go_wp2
          go_meet
          exact ⟨rfl, HL.out.2.1 _ _, HL.out.2.2 _ _⟩
    · go_simp
      refine hK.out _ _ h0 (fun hHeld => ?_)
      clear hK K hHeld
      try simp only [Act.put, List.setIfInBounds_toArray, List.set_cons_zero, List.set_cons_succ]
      refine wpAnyH_take (i := 4) (oi := ⟨_, _, _, _, _, _⟩) (v := ?v48) rfl (by kernel_rfl) (by kernel_rfl) (by kernel_rfl) (fun _ _ _ h => h) (Or.inl ⟨by rfl, ?hy48⟩) h0 ?rest48
      case hy48 => (intro w hSw; (try dsimp only at hSw); go_simp; try with_reducible rfl)
      simp only [Act.put, List.setIfInBounds_toArray, List.set_cons_zero, List.set_cons_succ]
      refine wpAnyH_take (i := 5) (oi := ⟨_, _, _, _, _, _⟩) (v := ?v49) rfl (by kernel_rfl) (by kernel_rfl) (by kernel_rfl) (fun _ _ _ h => h) (Or.inl ⟨by rfl, ?hy49⟩) h0 ?rest49
      case hy49 => (intro w hSw; (try dsimp only at hSw); go_simp; try with_reducible rfl)
      simp only [Act.put, List.setIfInBounds_toArray, List.set_cons_zero, List.set_cons_succ]
      refine wpAnyH_ready (rs := [1, 8, 10]) (by kernel_rfl) (by simp) ?_
      refine AllReadyH.cons (o := ⟨_, _, _, _, _, _⟩) rfl (fun K hK => ?_) (AllReadyH.cons (o := ⟨_, _, _, _, _, _⟩) rfl (fun K hK => ?_) (AllReadyH.cons (o := ⟨_, _, _, _, _, _⟩) rfl (fun K hK => ?_) AllReadyH.nil))
      · go_simp
        refine hK.out _ _ h0 (fun hHeld => ?_)
        clear hK K hHeld
        try simp only [Act.put, List.setIfInBounds_toArray, List.set_cons_zero, List.set_cons_succ]
        refine wpAnyH_take (i := 6) (oi := ⟨_, _, _, _, _, _⟩) (v := ?v50) rfl (by kernel_rfl) (by kernel_rfl) (by kernel_rfl) (fun _ _ _ h => h) (Or.inl ⟨by rfl, ?hy50⟩) h0 ?rest50
        case hy50 => (intro w hSw; (try dsimp only at hSw); go_simp; try with_reducible rfl)
        simp only [Act.put, List.setIfInBounds_toArray, List.set_cons_zero, List.set_cons_succ]
        refine wpAnyH_ready (rs := [8, 10]) (by kernel_rfl) (by simp) ?_
        refine AllReadyH.cons (o := ⟨_, _, _, _, _, _⟩) rfl (fun K hK => ?_) (AllReadyH.cons (o := ⟨_, _, _, _, _, _⟩) rfl (fun K hK => ?_) AllReadyH.nil)
        · go_simp
          refine hK.out _ _ h0 (fun hHeld => ?_)
          clear hK K hHeld
          try simp only [Act.put, List.setIfInBounds_toArray, List.set_cons_zero, List.set_cons_succ]
          refine wpAnyH_ready (rs := [10]) (by kernel_rfl) (by simp) ?_
          refine AllReadyH.cons (o := ⟨_, _, _, _, _, _⟩) rfl (fun K hK => ?_) AllReadyH.nil
          go_simp
          refine hK.out _ _ h0 (fun hHeld => ?_)
          clear hK K hHeld
          try simp only [Act.put, List.setIfInBounds_toArray, List.set_cons_zero, List.set_cons_succ]
          refine wpAnyH_take (i := 11) (oi := ⟨_, _, _, _, _, _⟩) (v := ?v51) rfl (by kernel_rfl) (by kernel_rfl) (by kernel_rfl) (fun _ _ _ h => h) (Or.inl ⟨by rfl, ?hy51⟩) h0 ?rest51
          case hy51 => (intro w hSw; (try dsimp only at hSw); go_simp; try with_reducible rfl)
          simp only [Act.put, List.setIfInBounds_toArray, List.set_cons_zero, List.set_cons_succ]
          refine wpAnyH_take (i := 12) (oi := ⟨_, _, _, _, _, _⟩) (v := ?v52) rfl (by kernel_rfl) (by kernel_rfl) (by kernel_rfl) (fun _ _ _ h => h) (Or.inl ⟨by rfl, ?hy52⟩) h0 ?rest52
          case hy52 => (intro w hSw; (try dsimp only at hSw); go_simp; try with_reducible rfl)
          simp only [Act.put, List.setIfInBounds_toArray, List.set_cons_zero, List.set_cons_succ]
          refine wpAnyH_take (i := 13) (oi := ⟨_, _, _, _, _, _⟩) (v := ?v53) rfl (by kernel_rfl) (by kernel_rfl) (by kernel_rfl) (fun _ _ _ h => h) (Or.inl ⟨by rfl, ?hy53⟩) h0 ?rest53
          case hy53 => (intro w hSw; (try dsimp only at hSw); go_simp; try with_reducible rfl)
          simp only [Act.put, List.setIfInBounds_toArray, List.set_cons_zero, List.set_cons_succ]
          refine wpAnyH_take (i := 14) (oi := ⟨_, _, _, _, _, _⟩) (v := ?v54) rfl (by kernel_rfl) (by kernel_rfl) (by kernel_rfl) (fun _ _ _ h => h) (Or.inl ⟨by rfl, ?hy54⟩) h0 ?rest54
          case hy54 => (intro w hSw; (try dsimp only at hSw); go_simp; try with_reducible rfl)
          simp only [Act.put, List.setIfInBounds_toArray, List.set_cons_zero, List.set_cons_succ]
          refine wpAnyH_ready (rs := [15]) (by kernel_rfl) (by simp) ?_
          refine AllReadyH.cons (o := ⟨_, _, _, _, _, _⟩) rfl (fun K hK => ?_) AllReadyH.nil
          go_simp
          refine hK.out _ _ (HL.out.1 _) (fun hHeld => ?_)
          clear hK K hHeld
          try simp only [Act.put, List.setIfInBounds_toArray, List.set_cons_zero, List.set_cons_succ]
          refine wpAnyH_take (i := 16) (oi := ⟨_, _, _, _, _, _⟩) (v := ?v55) rfl (by kernel_rfl) (by kernel_rfl) (by kernel_rfl) (fun _ _ _ h => h) (Or.inl ⟨by rfl, ?hy55⟩) (HL.out.1 _) ?rest55
          case hy55 => (intro w hSw; (try dsimp only at hSw); go_simp; try with_reducible rfl)
          simp only [Act.put, List.setIfInBounds_toArray, List.set_cons_zero, List.set_cons_succ]
          refine wpAnyH_ready (rs := [17]) (by kernel_rfl) (by simp) ?_
          refine AllReadyH.cons (o := ⟨_, _, _, _, _, _⟩) rfl (fun K hK => ?_) AllReadyH.nil
          go_simp
          refine hK.out _ _ (HL.out.2.1 _ _) (fun hHeld => ?_)
          clear hK K hHeld
          try simp only [Act.put, List.setIfInBounds_toArray, List.set_cons_zero, List.set_cons_succ]
          refine wpAnyH_done (by kernel_rfl) ?_ _
          go_wp2
          go_meet
          exact ⟨rfl, HL.out.2.1 _ _, HL.out.2.2 _ _⟩
        · go_simp
          refine hK.out _ _ h0 (fun hHeld => ?_)
          clear hK K hHeld
          try simp only [Act.put, List.setIfInBounds_toArray, List.set_cons_zero, List.set_cons_succ]
          refine wpAnyH_take (i := 11) (oi := ⟨_, _, _, _, _, _⟩) (v := ?v56) rfl (by kernel_rfl) (by kernel_rfl) (by kernel_rfl) (fun _ _ _ h => h) (Or.inl ⟨by rfl, ?hy56⟩) h0 ?rest56
          case hy56 => (intro w hSw; (try dsimp only at hSw); go_simp; try with_reducible rfl)
          simp only [Act.put, List.setIfInBounds_toArray, List.set_cons_zero, List.set_cons_succ]
          refine wpAnyH_take (i := 12) (oi := ⟨_, _, _, _, _, _⟩) (v := ?v57) rfl (by kernel_rfl) (by kernel_rfl) (by kernel_rfl) (fun _ _ _ h => h) (Or.inl ⟨by rfl, ?hy57⟩) h0 ?rest57
          case hy57 => (intro w hSw; (try dsimp only at hSw); go_simp; try with_reducible rfl)
          simp only [Act.put, List.setIfInBounds_toArray, List.set_cons_zero, List.set_cons_succ]
          refine wpAnyH_ready (rs := [8]) (by kernel_rfl) (by simp) ?_
          refine AllReadyH.cons (o := ⟨_, _, _, _, _, _⟩) rfl (fun K hK => ?_) AllReadyH.nil
          go_simp
          refine hK.out _ _ h0 (fun hHeld => ?_)
          clear hK K hHeld
          try simp only [Act.put, List.setIfInBounds_toArray, List.set_cons_zero, List.set_cons_succ]
          refine wpAnyH_take (i := 13) (oi := ⟨_, _, _, _, _, _⟩) (v := ?v58) rfl (by kernel_rfl) (by kernel_rfl) (by kernel_rfl) (fun _ _ _ h => h) (Or.inl ⟨by rfl, ?hy58⟩) h0 ?rest58
          case hy58 => (intro w hSw; (try dsimp only at hSw); go_simp; try with_reducible rfl)
          simp only [Act.put, List.setIfInBounds_toArray, List.set_cons_zero, List.set_cons_succ]
          refine wpAnyH_take (i := 14) (oi := ⟨_, _, _, _, _, _⟩) (v := ?v59) rfl (by kernel_rfl) (by kernel_rfl) (by kernel_rfl) (fun _ _ _ h => h) (Or.inl ⟨by rfl, ?hy59⟩) h0 ?rest59
          case hy59 => (intro w hSw; (try dsimp only at hSw); go_simp; try with_reducible rfl)
          simp only [Act.put, List.setIfInBounds_toArray, List.set_cons_zero, List.set_cons_succ]
          refine wpAnyH_ready (rs := [15]) (by kernel_rfl) (by simp) ?_
          refine AllReadyH.cons (o := ⟨_, _, _, _, _, _⟩) rfl (fun K hK => ?_) AllReadyH.nil
          go_simp
          refine hK.out _ _ (HL.out.1 _) (fun hHeld => ?_)
          clear hK K hHeld
          try simp only [Act.put, List.setIfInBounds_toArray, List.set_cons_zero, List.set_cons_succ]
          refine wpAnyH_take (i := 16) (oi := ⟨_, _, _, _, _, _⟩) (v := ?v60) rfl (by kernel_rfl) (by kernel_rfl) (by kernel_rfl) (fun _ _ _ h => h) (Or.inl ⟨by rfl, ?hy60⟩) (HL.out.1 _) ?rest60
          case hy60 => (intro w hSw; (try dsimp only at hSw); go_simp; try with_reducible rfl)
          simp only [Act.put, List.setIfInBounds_toArray, List.set_cons_zero, List.set_cons_succ]
          refine wpAnyH_ready (rs := [17]) (by kernel_rfl) (by simp) ?_
          refine AllReadyH.cons (o := ⟨_, _, _, _, _, _⟩) rfl (fun K hK => ?_) AllReadyH.nil
          go_simp
          refine hK.out _ _ (HL.out.2.1 _ _) (fun hHeld => ?_)
          clear hK K hHeld
          try simp only [Act.put, List.setIfInBounds_toArray, List.set_cons_zero, List.set_cons_succ]
          refine wpAnyH_done (by kernel_rfl) ?_ _
          go_wp2
          go_meet
          exact ⟨rfl, HL.out.2.1 _ _, HL.out.2.2 _ _⟩
      · go_simp
        refine hK.out _ _ h0 (fun hHeld => ?_)
        clear hK K hHeld
        try simp only [Act.put, List.setIfInBounds_toArray, List.set_cons_zero, List.set_cons_succ]
        refine wpAnyH_ready (rs := [1, 10]) (by kernel_rfl) (by simp) ?_
        refine AllReadyH.cons (o := ⟨_, _, _, _, _, _⟩) rfl (fun K hK => ?_) (AllReadyH.cons (o := ⟨_, _, _, _, _, _⟩) rfl (fun K hK => ?_) AllReadyH.nil)
        · go_simp
          refine hK.out _ _ h0 (fun hHeld => ?_)
          clear hK K hHeld
          try simp only [Act.put, List.setIfInBounds_toArray, List.set_cons_zero, List.set_cons_succ]
          refine wpAnyH_take (i := 6) (oi := ⟨_, _, _, _, _, _⟩) (v := ?v61) rfl (by kernel_rfl) (by kernel_rfl) (by kernel_rfl) (fun _ _ _ h => h) (Or.inl ⟨by rfl, ?hy61⟩) h0 ?rest61
          case hy61 => (intro w hSw; (try dsimp only at hSw); go_simp; try with_reducible rfl)
          simp only [Act.put, List.setIfInBounds_toArray, List.set_cons_zero, List.set_cons_succ]
          refine wpAnyH_ready (rs := [10]) (by kernel_rfl) (by simp) ?_
          refine AllReadyH.cons (o := ⟨_, _, _, _, _, _⟩) rfl (fun K hK => ?_) AllReadyH.nil
          go_simp
          refine hK.out _ _ h0 (fun hHeld => ?_)
          clear hK K hHeld
          try simp only [Act.put, List.setIfInBounds_toArray, List.set_cons_zero, List.set_cons_succ]
          refine wpAnyH_take (i := 11) (oi := ⟨_, _, _, _, _, _⟩) (v := ?v62) rfl (by kernel_rfl) (by kernel_rfl) (by kernel_rfl) (fun _ _ _ h => h) (Or.inl ⟨by rfl, ?hy62⟩) h0 ?rest62
          case hy62 => (intro w hSw; (try dsimp only at hSw); go_simp; try with_reducible rfl)
          simp only [Act.put, List.setIfInBounds_toArray, List.set_cons_zero, List.set_cons_succ]
          refine wpAnyH_take (i := 12) (oi := ⟨_, _, _, _, _, _⟩) (v := ?v63) rfl (by kernel_rfl) (by kernel_rfl) (by kernel_rfl) (fun _ _ _ h => h) (Or.inl ⟨by rfl, ?hy63⟩) h0 ?rest63
          case hy63 => (intro w hSw; (try dsimp only at hSw); go_simp; try with_reducible rfl)
          simp only [Act.put, List.setIfInBounds_toArray, List.set_cons_zero, List.set_cons_succ]
          refine wpAnyH_take (i := 13) (oi := ⟨_, _, _, _, _, _⟩) (v := ?v64) rfl (by kernel_rfl) (by kernel_rfl) (by kernel_rfl) (fun _ _ _ h => h) (Or.inl ⟨by rfl, ?hy64⟩) h0 ?rest64
          case hy64 => (intro w hSw; (try dsimp only at hSw); go_simp; try with_reducible rfl)
          simp only [Act.put, List.setIfInBounds_toArray, List.set_cons_zero, List.set_cons_succ]
          refine wpAnyH_take (i := 14) (oi := ⟨_, _, _, _, _, _⟩) (v := ?v65) rfl (by kernel_rfl) (by kernel_rfl) (by kernel_rfl) (fun _ _ _ h => h) (Or.inl ⟨by rfl, ?hy65⟩) h0 ?rest65
          case hy65 => (intro w hSw; (try dsimp only at hSw); go_simp; try with_reducible rfl)
          simp only [Act.put, List.setIfInBounds_toArray, List.set_cons_zero, List.set_cons_succ]
          refine wpAnyH_ready (rs := [15]) (by kernel_rfl) (by simp) ?_
          refine AllReadyH.cons (o := ⟨_, _, _, _, _, _⟩) rfl (fun K hK => ?_) AllReadyH.nil
          go_simp
          refine hK.out _ _ (HL.out.1 _) (fun hHeld => ?_)
          clear hK K hHeld
          try simp only [Act.put, List.setIfInBounds_toArray, List.set_cons_zero, List.set_cons_succ]
          refine wpAnyH_take (i := 16) (oi := ⟨_, _, _, _, _, _⟩) (v := ?v66) rfl (by kernel_rfl) (by kernel_rfl) (by kernel_rfl) (fun _ _ _ h => h) (Or.inl ⟨by rfl, ?hy66⟩) (HL.out.1 _) ?rest66
          case hy66 => (intro w hSw; (try dsimp only at hSw); go_simp; try with_reducible rfl)
          simp only [Act.put, List.setIfInBounds_toArray, List.set_cons_zero, List.set_cons_succ]
          refine wpAnyH_ready (rs := [17]) (by kernel_rfl) (by simp) ?_
          refine AllReadyH.cons (o := ⟨_, _, _, _, _, _⟩) rfl (fun K hK => ?_) AllReadyH.nil
          go_simp
          refine hK.out _ _ (HL.out.2.1 _ _) (fun hHeld => ?_)
          clear hK K hHeld
          try simp only [Act.put, List.setIfInBounds_toArray, List.set_cons_zero, List.set_cons_succ]
          refine wpAnyH_done (by kernel_rfl) ?_ _
          go_wp2
          go_meet
          exact ⟨rfl, HL.out.2.1 _ _, HL.out.2.2 _ _⟩
        · go_simp
          refine hK.out _ _ h0 (fun hHeld => ?_)
          clear hK K hHeld
          try simp only [Act.put, List.setIfInBounds_toArray, List.set_cons_zero, List.set_cons_succ]
          refine wpAnyH_take (i := 11) (oi := ⟨_, _, _, _, _, _⟩) (v := ?v67) rfl (by kernel_rfl) (by kernel_rfl) (by kernel_rfl) (fun _ _ _ h => h) (Or.inl ⟨by rfl, ?hy67⟩) h0 ?rest67
          case hy67 => (intro w hSw; (try dsimp only at hSw); go_simp; try with_reducible rfl)
          simp only [Act.put, List.setIfInBounds_toArray, List.set_cons_zero, List.set_cons_succ]
          refine wpAnyH_take (i := 12) (oi := ⟨_, _, _, _, _, _⟩) (v := ?v68) rfl (by kernel_rfl) (by kernel_rfl) (by kernel_rfl) (fun _ _ _ h => h) (Or.inl ⟨by rfl, ?hy68⟩) h0 ?rest68
          case hy68 => (intro w hSw; (try dsimp only at hSw); go_simp; try with_reducible rfl)
          simp only [Act.put, List.setIfInBounds_toArray, List.set_cons_zero, List.set_cons_succ]
          refine wpAnyH_take (i := 13) (oi := ⟨_, _, _, _, _, _⟩) (v := ?v69) rfl (by kernel_rfl) (by kernel_rfl) (by kernel_rfl) (fun _ _ _ h => h) (Or.inl ⟨by rfl, ?hy69⟩) h0 ?rest69
          case hy69 => (intro w hSw; (try dsimp only at hSw); go_simp; try with_reducible rfl)
          simp only [Act.put, List.setIfInBounds_toArray, List.set_cons_zero, List.set_cons_succ]
          refine wpAnyH_ready (rs := [1]) (by kernel_rfl) (by simp) ?_
          refine AllReadyH.cons (o := ⟨_, _, _, _, _, _⟩) rfl (fun K hK => ?_) AllReadyH.nil
          go_simp
          refine hK.out _ _ h0 (fun hHeld => ?_)
          clear hK K hHeld
          try simp only [Act.put, List.setIfInBounds_toArray, List.set_cons_zero, List.set_cons_succ]
          refine wpAnyH_take (i := 6) (oi := ⟨_, _, _, _, _, _⟩) (v := ?v70) rfl (by kernel_rfl) (by kernel_rfl) (by kernel_rfl) (fun _ _ _ h => h) (Or.inl ⟨by rfl, ?hy70⟩) h0 ?rest70
          case hy70 => (intro w hSw; (try dsimp only at hSw); go_simp; try with_reducible rfl)
          simp only [Act.put, List.setIfInBounds_toArray, List.set_cons_zero, List.set_cons_succ]
          refine wpAnyH_take (i := 14) (oi := ⟨_, _, _, _, _, _⟩) (v := ?v71) rfl (by kernel_rfl) (by kernel_rfl) (by kernel_rfl) (fun _ _ _ h => h) (Or.inl ⟨by rfl, ?hy71⟩) h0 ?rest71
          case hy71 => (intro w hSw; (try dsimp only at hSw); go_simp; try with_reducible rfl)
          simp only [Act.put, List.setIfInBounds_toArray, List.set_cons_zero, List.set_cons_succ]
          refine wpAnyH_ready (rs := [15]) (by kernel_rfl) (by simp) ?_
          refine AllReadyH.cons (o := ⟨_, _, _, _, _, _⟩) rfl (fun K hK => ?_) AllReadyH.nil
          go_simp
          refine hK.out _ _ (HL.out.1 _) (fun hHeld => ?_)
          clear hK K hHeld
          try simp only [Act.put, List.setIfInBounds_toArray, List.set_cons_zero, List.set_cons_succ]
          refine wpAnyH_take (i := 16) (oi := ⟨_, _, _, _, _, _⟩) (v := ?v72) rfl (by kernel_rfl) (by kernel_rfl) (by kernel_rfl) (fun _ _ _ h => h) (Or.inl ⟨by rfl, ?hy72⟩) (HL.out.1 _) ?rest72
          case hy72 => (intro w hSw; (try dsimp only at hSw); go_simp; try with_reducible rfl)
          simp only [Act.put, List.setIfInBounds_toArray, List.set_cons_zero, List.set_cons_succ]
          refine wpAnyH_ready (rs := [17]) (by kernel_rfl) (by simp) ?_
          refine AllReadyH.cons (o := ⟨_, _, _, _, _, _⟩) rfl (fun K hK => ?_) AllReadyH.nil
          go_simp
          refine hK.out _ _ (HL.out.2.1 _ _) (fun hHeld => ?_)
          clear hK K hHeld
          try simp only [Act.put, List.setIfInBounds_toArray, List.set_cons_zero, List.set_cons_succ]
          refine wpAnyH_done (by kernel_rfl) ?_ _
          go_wp2
          go_meet
          exact ⟨rfl, HL.out.2.1 _ _, HL.out.2.2 _ _⟩
      · go_simp
        refine hK.out _ _ h0 (fun hHeld => ?_)
        clear hK K hHeld
        try simp only [Act.put, List.setIfInBounds_toArray, List.set_cons_zero, List.set_cons_succ]
        refine wpAnyH_take (i := 11) (oi := ⟨_, _, _, _, _, _⟩) (v := ?v73) rfl (by kernel_rfl) (by kernel_rfl) (by kernel_rfl) (fun _ _ _ h => h) (Or.inl ⟨by rfl, ?hy73⟩) h0 ?rest73
        case hy73 => (intro w hSw; (try dsimp only at hSw); go_simp; try with_reducible rfl)
        simp only [Act.put, List.setIfInBounds_toArray, List.set_cons_zero, List.set_cons_succ]
        refine wpAnyH_take (i := 12) (oi := ⟨_, _, _, _, _, _⟩) (v := ?v74) rfl (by kernel_rfl) (by kernel_rfl) (by kernel_rfl) (fun _ _ _ h => h) (Or.inl ⟨by rfl, ?hy74⟩) h0 ?rest74
        case hy74 => (intro w hSw; (try dsimp only at hSw); go_simp; try with_reducible rfl)
        simp only [Act.put, List.setIfInBounds_toArray, List.set_cons_zero, List.set_cons_succ]
        refine wpAnyH_ready (rs := [1, 8]) (by kernel_rfl) (by simp) ?_
        refine AllReadyH.cons (o := ⟨_, _, _, _, _, _⟩) rfl (fun K hK => ?_) (AllReadyH.cons (o := ⟨_, _, _, _, _, _⟩) rfl (fun K hK => ?_) AllReadyH.nil)
        · go_simp
          refine hK.out _ _ h0 (fun hHeld => ?_)
          clear hK K hHeld
          try simp only [Act.put, List.setIfInBounds_toArray, List.set_cons_zero, List.set_cons_succ]
          refine wpAnyH_take (i := 6) (oi := ⟨_, _, _, _, _, _⟩) (v := ?v75) rfl (by kernel_rfl) (by kernel_rfl) (by kernel_rfl) (fun _ _ _ h => h) (Or.inl ⟨by rfl, ?hy75⟩) h0 ?rest75
          case hy75 => (intro w hSw; (try dsimp only at hSw); go_simp; try with_reducible rfl)
          simp only [Act.put, List.setIfInBounds_toArray, List.set_cons_zero, List.set_cons_succ]
          refine wpAnyH_ready (rs := [8]) (by kernel_rfl) (by simp) ?_
          refine AllReadyH.cons (o := ⟨_, _, _, _, _, _⟩) rfl (fun K hK => ?_) AllReadyH.nil
          go_simp
          refine hK.out _ _ h0 (fun hHeld => ?_)
          clear hK K hHeld
          try simp only [Act.put, List.setIfInBounds_toArray, List.set_cons_zero, List.set_cons_succ]
          refine wpAnyH_take (i := 13) (oi := ⟨_, _, _, _, _, _⟩) (v := ?v76) rfl (by kernel_rfl) (by kernel_rfl) (by kernel_rfl) (fun _ _ _ h => h) (Or.inl ⟨by rfl, ?hy76⟩) h0 ?rest76
          case hy76 => (intro w hSw; (try dsimp only at hSw); go_simp; try with_reducible rfl)
          simp only [Act.put, List.setIfInBounds_toArray, List.set_cons_zero, List.set_cons_succ]
          refine wpAnyH_take (i := 14) (oi := ⟨_, _, _, _, _, _⟩) (v := ?v77) rfl (by kernel_rfl) (by kernel_rfl) (by kernel_rfl) (fun _ _ _ h => h) (Or.inl ⟨by rfl, ?hy77⟩) h0 ?rest77
          case hy77 => (intro w hSw; (try dsimp only at hSw); go_simp; try with_reducible rfl)
          simp only [Act.put, List.setIfInBounds_toArray, List.set_cons_zero, List.set_cons_succ]
          refine wpAnyH_ready (rs := [15]) (by kernel_rfl) (by simp) ?_
          refine AllReadyH.cons (o := ⟨_, _, _, _, _, _⟩) rfl (fun K hK => ?_) AllReadyH.nil
          go_simp
          refine hK.out _ _ (HL.out.1 _) (fun hHeld => ?_)
          clear hK K hHeld
          try simp only [Act.put, List.setIfInBounds_toArray, List.set_cons_zero, List.set_cons_succ]
          refine wpAnyH_take (i := 16) (oi := ⟨_, _, _, _, _, _⟩) (v := ?v78) rfl (by kernel_rfl) (by kernel_rfl) (by kernel_rfl) (fun _ _ _ h => h) (Or.inl ⟨by rfl, ?hy78⟩) (HL.out.1 _) ?rest78
          case hy78 => (intro w hSw; (try dsimp only at hSw); go_simp; try with_reducible rfl)
          simp only [Act.put, List.setIfInBounds_toArray, List.set_cons_zero, List.set_cons_succ]
          refine wpAnyH_ready (rs := [17]) (by kernel_rfl) (by simp) ?_
          refine AllReadyH.cons (o := ⟨_, _, _, _, _, _⟩) rfl (fun K hK => ?_) AllReadyH.nil
          go_simp
          refine hK.out _ _ (HL.out.2.1 _ _) (fun hHeld => ?_)
          clear hK K hHeld
          try simp only [Act.put, List.setIfInBounds_toArray, List.set_cons_zero, List.set_cons_succ]
          refine wpAnyH_done (by kernel_rfl) ?_ _
          go_wp2
          go_meet
          exact ⟨rfl, HL.out.2.1 _ _, HL.out.2.2 _ _⟩
        · go_simp
          refine hK.out _ _ h0 (fun hHeld => ?_)
          clear hK K hHeld
          try simp only [Act.put, List.setIfInBounds_toArray, List.set_cons_zero, List.set_cons_succ]
          refine wpAnyH_take (i := 13) (oi := ⟨_, _, _, _, _, _⟩) (v := ?v79) rfl (by kernel_rfl) (by kernel_rfl) (by kernel_rfl) (fun _ _ _ h => h) (Or.inl ⟨by rfl, ?hy79⟩) h0 ?rest79
          case hy79 => (intro w hSw; (try dsimp only at hSw); go_simp; try with_reducible rfl)
          simp only [Act.put, List.setIfInBounds_toArray, List.set_cons_zero, List.set_cons_succ]
          refine wpAnyH_ready (rs := [1]) (by kernel_rfl) (by simp) ?_
          refine AllReadyH.cons (o := ⟨_, _, _, _, _, _⟩) rfl (fun K hK => ?_) AllReadyH.nil
          go_simp
          refine hK.out _ _ h0 (fun hHeld => ?_)
          clear hK K hHeld
          try simp only [Act.put, List.setIfInBounds_toArray, List.set_cons_zero, List.set_cons_succ]
          refine wpAnyH_take (i := 6) (oi := ⟨_, _, _, _, _, _⟩) (v := ?v80) rfl (by kernel_rfl) (by kernel_rfl) (by kernel_rfl) (fun _ _ _ h => h) (Or.inl ⟨by rfl, ?hy80⟩) h0 ?rest80
          case hy80 => (intro w hSw; (try dsimp only at hSw); go_simp; try with_reducible rfl)
          simp only [Act.put, List.setIfInBounds_toArray, List.set_cons_zero, List.set_cons_succ]
          refine wpAnyH_take (i := 14) (oi := ⟨_, _, _, _, _, _⟩) (v := ?v81) rfl (by kernel_rfl) (by kernel_rfl) (by kernel_rfl) (fun _ _ _ h => h) (Or.inl ⟨by rfl, ?hy81⟩) h0 ?rest81
          case hy81 => (intro w hSw; (try dsimp only at hSw); go_simp; try with_reducible rfl)
          simp only [Act.put, List.setIfInBounds_toArray, List.set_cons_zero, List.set_cons_succ]
          refine wpAnyH_ready (rs := [15]) (by kernel_rfl) (by simp) ?_
          refine AllReadyH.cons (o := ⟨_, _, _, _, _, _⟩) rfl (fun K hK => ?_) AllReadyH.nil
          go_simp
          refine hK.out _ _ (HL.out.1 _) (fun hHeld => ?_)
          clear hK K hHeld
          try simp only [Act.put, List.setIfInBounds_toArray, List.set_cons_zero, List.set_cons_succ]
          refine wpAnyH_take (i := 16) (oi := ⟨_, _, _, _, _, _⟩) (v := ?v82) rfl (by kernel_rfl) (by kernel_rfl) (by kernel_rfl) (fun _ _ _ h => h) (Or.inl ⟨by rfl, ?hy82⟩) (HL.out.1 _) ?rest82
          case hy82 => (intro w hSw; (try dsimp only at hSw); go_simp; try with_reducible rfl)
          simp only [Act.put, List.setIfInBounds_toArray, List.set_cons_zero, List.set_cons_succ]
          refine wpAnyH_ready (rs := [17]) (by kernel_rfl) (by simp) ?_
          refine AllReadyH.cons (o := ⟨_, _, _, _, _, _⟩) rfl (fun K hK => ?_) AllReadyH.nil
          go_simp
          refine hK.out _ _ (HL.out.2.1 _ _) (fun hHeld => ?_)
          clear hK K hHeld
          try simp only [Act.put, List.setIfInBounds_toArray, List.set_cons_zero, List.set_cons_succ]
          refine wpAnyH_done (by kernel_rfl) ?_ _
          go_wp2
          go_meet
          exact ⟨rfl, HL.out.2.1 _ _, HL.out.2.2 _ _⟩
    · go_simp
      refine hK.out _ _ h0 (fun hHeld => ?_)
      clear hK K hHeld
      try simp only [Act.put, List.setIfInBounds_toArray, List.set_cons_zero, List.set_cons_succ]
      refine wpAnyH_ready (rs := [1, 3, 10]) (by kernel_rfl) (by simp) ?_
      refine AllReadyH.cons (o := ⟨_, _, _, _, _, _⟩) rfl (fun K hK => ?_) (AllReadyH.cons (o := ⟨_, _, _, _, _, _⟩) rfl (fun K hK => ?_) (AllReadyH.cons (o := ⟨_, _, _, _, _, _⟩) rfl (fun K hK => ?_) AllReadyH.nil))
      · go_simp
        refine hK.out _ _ h0 (fun hHeld => ?_)
        clear hK K hHeld
        try simp only [Act.put, List.setIfInBounds_toArray, List.set_cons_zero, List.set_cons_succ]
        refine wpAnyH_ready (rs := [3, 10]) (by kernel_rfl) (by simp) ?_
        refine AllReadyH.cons (o := ⟨_, _, _, _, _, _⟩) rfl (fun K hK => ?_) (AllReadyH.cons (o := ⟨_, _, _, _, _, _⟩) rfl (fun K hK => ?_) AllReadyH.nil)
        · go_simp
          refine hK.out _ _ h0 (fun hHeld => ?_)
          clear hK K hHeld
          try simp only [Act.put, List.setIfInBounds_toArray, List.set_cons_zero, List.set_cons_succ]
          refine wpAnyH_take (i := 4) (oi := ⟨_, _, _, _, _, _⟩) (v := ?v83) rfl (by kernel_rfl) (by kernel_rfl) (by kernel_rfl) (fun _ _ _ h => h) (Or.inl ⟨by rfl, ?hy83⟩) h0 ?rest83
          case hy83 => (intro w hSw; (try dsimp only at hSw); go_simp; try with_reducible rfl)
          simp only [Act.put, List.setIfInBounds_toArray, List.set_cons_zero, List.set_cons_succ]
          refine wpAnyH_take (i := 5) (oi := ⟨_, _, _, _, _, _⟩) (v := ?v84) rfl (by kernel_rfl) (by kernel_rfl) (by kernel_rfl) (fun _ _ _ h => h) (Or.inl ⟨by rfl, ?hy84⟩) h0 ?rest84
          case hy84 => (intro w hSw; (try dsimp only at hSw); go_simp; try with_reducible rfl)
          simp only [Act.put, List.setIfInBounds_toArray, List.set_cons_zero, List.set_cons_succ]
          refine wpAnyH_take (i := 6) (oi := ⟨_, _, _, _, _, _⟩) (v := ?v85) rfl (by kernel_rfl) (by kernel_rfl) (by kernel_rfl) (fun _ _ _ h => h) (Or.inl ⟨by rfl, ?hy85⟩) h0 ?rest85
          case hy85 => (intro w hSw; (try dsimp only at hSw); go_simp; try with_reducible rfl)
          simp only [Act.put, List.setIfInBounds_toArray, List.set_cons_zero, List.set_cons_succ]
          refine wpAnyH_ready (rs := [10]) (by kernel_rfl) (by simp) ?_
          refine AllReadyH.cons (o := ⟨_, _, _, _, _, _⟩) rfl (fun K hK => ?_) AllReadyH.nil
          go_simp
          refine hK.out _ _ h0 (fun hHeld => ?_)
          clear hK K hHeld
          try simp only [Act.put, List.setIfInBounds_toArray, List.set_cons_zero, List.set_cons_succ]
          refine wpAnyH_take (i := 11) (oi := ⟨_, _, _, _, _, _⟩) (v := ?v86) rfl (by kernel_rfl) (by kernel_rfl) (by kernel_rfl) (fun _ _ _ h => h) (Or.inl ⟨by rfl, ?hy86⟩) h0 ?rest86
          case hy86 => (intro w hSw; (try dsimp only at hSw); go_simp; try with_reducible rfl)
          simp only [Act.put, List.setIfInBounds_toArray, List.set_cons_zero, List.set_cons_succ]
          refine wpAnyH_take (i := 12) (oi := ⟨_, _, _, _, _, _⟩) (v := ?v87) rfl (by kernel_rfl) (by kernel_rfl) (by kernel_rfl) (fun _ _ _ h => h) (Or.inl ⟨by rfl, ?hy87⟩) h0 ?rest87
          case hy87 => (intro w hSw; (try dsimp only at hSw); go_simp; try with_reducible rfl)
          simp only [Act.put, List.setIfInBounds_toArray, List.set_cons_zero, List.set_cons_succ]
          refine wpAnyH_take (i := 13) (oi := ⟨_, _, _, _, _, _⟩) (v := ?v88) rfl (by kernel_rfl) (by kernel_rfl) (by kernel_rfl) (fun _ _ _ h => h) (Or.inl ⟨by rfl, ?hy88⟩) h0 ?rest88
          case hy88 => (intro w hSw; (try dsimp only at hSw); go_simp; try with_reducible rfl)
          simp only [Act.put, List.setIfInBounds_toArray, List.set_cons_zero, List.set_cons_succ]
          refine wpAnyH_take (i := 14) (oi := ⟨_, _, _, _, _, _⟩) (v := ?v89) rfl (by kernel_rfl) (by kernel_rfl) (by kernel_rfl) (fun _ _ _ h => h) (Or.inl ⟨by rfl, ?hy89⟩) h0 ?rest89
          case hy89 => (intro w hSw; (try dsimp only at hSw); go_simp; try with_reducible rfl)
          simp only [Act.put, List.setIfInBounds_toArray, List.set_cons_zero, List.set_cons_succ]
          refine wpAnyH_ready (rs := [15]) (by kernel_rfl) (by simp) ?_
          refine AllReadyH.cons (o := ⟨_, _, _, _, _, _⟩) rfl (fun K hK => ?_) AllReadyH.nil
          go_simp
          refine hK.out _ _ (HL.out.1 _) (fun hHeld => ?_)
          clear hK K hHeld
          try simp only [Act.put, List.setIfInBounds_toArray, List.set_cons_zero, List.set_cons_succ]
          refine wpAnyH_take (i := 16) (oi := ⟨_, _, _, _, _, _⟩) (v := ?v90) rfl (by kernel_rfl) (by kernel_rfl) (by kernel_rfl) (fun _ _ _ h => h) (Or.inl ⟨by rfl, ?hy90⟩) (HL.out.1 _) ?rest90
          case hy90 => (intro w hSw; (try dsimp only at hSw); go_simp; try with_reducible rfl)
          simp only [Act.put, List.setIfInBounds_toArray, List.set_cons_zero, List.set_cons_succ]
          refine wpAnyH_ready (rs := [17]) (by kernel_rfl) (by simp) ?_
          refine AllReadyH.cons (o := ⟨_, _, _, _, _, _⟩) rfl (fun K hK => ?_) AllReadyH.nil
          go_simp
          refine hK.out _ _ (HL.out.2.1 _ _) (fun hHeld => ?_)
          clear hK K hHeld
          try simp only [Act.put, List.setIfInBounds_toArray, List.set_cons_zero, List.set_cons_succ]
          refine wpAnyH_done (by kernel_rfl) ?_ _
          go_wp2
          go_meet
          exact ⟨rfl, HL.out.2.1 _ _, HL.out.2.2 _ _⟩
        · go_simp
          refine hK.out _ _ h0 (fun hHeld => ?_)
          clear hK K hHeld
          try simp only [Act.put, List.setIfInBounds_toArray, List.set_cons_zero, List.set_cons_succ]
          refine wpAnyH_take (i := 11) (oi := ⟨_, _, _, _, _, _⟩) (v := ?v91) rfl (by kernel_rfl) (by kernel_rfl) (by kernel_rfl) (fun _ _ _ h => h) (Or.inl ⟨by rfl, ?hy91⟩) h0 ?rest91
          case hy91 => (intro w hSw; (try dsimp only at hSw); go_simp; try with_reducible rfl)
          simp only [Act.put, List.setIfInBounds_toArray, List.set_cons_zero, List.set_cons_succ]
          refine wpAnyH_take (i := 12) (oi := ⟨_, _, _, _, _, _⟩) (v := ?v92) rfl (by kernel_rfl) (by kernel_rfl) (by kernel_rfl) (fun _ _ _ h => h) (Or.inl ⟨by rfl, ?hy92⟩) h0 ?rest92
          case hy92 => (intro w hSw; (try dsimp only at hSw); go_simp; try with_reducible rfl)
          simp only [Act.put, List.setIfInBounds_toArray, List.set_cons_zero, List.set_cons_succ]
          refine wpAnyH_take (i := 13) (oi := ⟨_, _, _, _, _, _⟩) (v := ?v93) rfl (by kernel_rfl) (by kernel_rfl) (by kernel_rfl) (fun _ _ _ h => h) (Or.inl ⟨by rfl, ?hy93⟩) h0 ?rest93
          case hy93 => (intro w hSw; (try dsimp only at hSw); go_simp; try with_reducible rfl)
          simp only [Act.put, List.setIfInBounds_toArray, List.set_cons_zero, List.set_cons_succ]
          refine wpAnyH_ready (rs := [3]) (by kernel_rfl) (by simp) ?_
          refine AllReadyH.cons (o := ⟨_, _, _, _, _, _⟩) rfl (fun K hK => ?_) AllReadyH.nil
          go_simp
          refine hK.out _ _ h0 (fun hHeld => ?_)
          clear hK K hHeld
          try simp only [Act.put, List.setIfInBounds_toArray, List.set_cons_zero, List.set_cons_succ]
          refine wpAnyH_take (i := 4) (oi := ⟨_, _, _, _, _, _⟩) (v := ?v94) rfl (by kernel_rfl) (by kernel_rfl) (by kernel_rfl) (fun _ _ _ h => h) (Or.inl ⟨by rfl, ?hy94⟩) h0 ?rest94
          case hy94 => (intro w hSw; (try dsimp only at hSw); go_simp; try with_reducible rfl)
          simp only [Act.put, List.setIfInBounds_toArray, List.set_cons_zero, List.set_cons_succ]
          refine wpAnyH_take (i := 5) (oi := ⟨_, _, _, _, _, _⟩) (v := ?v95) rfl (by kernel_rfl) (by kernel_rfl) (by kernel_rfl) (fun _ _ _ h => h) (Or.inl ⟨by rfl, ?hy95⟩) h0 ?rest95
          case hy95 => (intro w hSw; (try dsimp only at hSw); go_simp; try with_reducible rfl)
          simp only [Act.put, List.setIfInBounds_toArray, List.set_cons_zero, List.set_cons_succ]
          refine wpAnyH_take (i := 6) (oi := ⟨_, _, _, _, _, _⟩) (v := ?v96) rfl (by kernel_rfl) (by kernel_rfl) (by kernel_rfl) (fun _ _ _ h => h) (Or.inl ⟨by rfl, ?hy96⟩) h0 ?rest96
          case hy96 => (intro w hSw; (try dsimp only at hSw); go_simp; try with_reducible rfl)
          simp only [Act.put, List.setIfInBounds_toArray, List.set_cons_zero, List.set_cons_succ]
          refine wpAnyH_take (i := 14) (oi := ⟨_, _, _, _, _, _⟩) (v := ?v97) rfl (by kernel_rfl) (by kernel_rfl) (by kernel_rfl) (fun _ _ _ h => h) (Or.inl ⟨by rfl, ?hy97⟩) h0 ?rest97
          case hy97 => (intro w hSw; (try dsimp only at hSw); go_simp; try with_reducible rfl)
          simp only [Act.put, List.setIfInBounds_toArray, List.set_cons_zero, List.set_cons_succ]
          refine wpAnyH_ready (rs := [15]) (by kernel_rfl) (by simp) ?_
          refine AllReadyH.cons (o := ⟨_, _, _, _, _, _⟩) rfl (fun K hK => ?_) AllReadyH.nil
          go_simp
          refine hK.out _ _ (HL.out.1 _) (fun hHeld => ?_)
          clear hK K hHeld
          try simp only [Act.put, List.setIfInBounds_toArray, List.set_cons_zero, List.set_cons_succ]
          refine wpAnyH_take (i := 16) (oi := ⟨_, _, _, _, _, _⟩) (v := ?v98) rfl (by kernel_rfl) (by kernel_rfl) (by kernel_rfl) (fun _ _ _ h => h) (Or.inl ⟨by rfl, ?hy98⟩) (HL.out.1 _) ?rest98
          case hy98 => (intro w hSw; (try dsimp only at hSw); go_simp; try with_reducible rfl)
          simp only [Act.put, List.setIfInBounds_toArray, List.set_cons_zero, List.set_cons_succ]
          refine wpAnyH_ready (rs := [17]) (by kernel_rfl) (by simp) ?_
          refine AllReadyH.cons (o := ⟨_, _, _, _, _, _⟩) rfl (fun K hK => ?_) AllReadyH.nil
          go_simp
          refine hK.out _ _ (HL.out.2.1 _ _) (fun hHeld => ?_)
          clear hK K hHeld
          try simp only [Act.put, List.setIfInBounds_toArray, List.set_cons_zero, List.set_cons_succ]
          refine wpAnyH_done (by kernel_rfl) ?_ _
          go_wp2
          go_meet
          exact ⟨rfl, HL.out.2.1 _ _, HL.out.2.2 _ _⟩
      · go_simp
        refine hK.out _ _ h0 (fun hHeld => ?_)
        clear hK K hHeld
        try simp only [Act.put, List.setIfInBounds_toArray, List.set_cons_zero, List.set_cons_succ]
        refine wpAnyH_take (i := 4) (oi := ⟨_, _, _, _, _, _⟩) (v := ?v99) rfl (by kernel_rfl) (by kernel_rfl) (by kernel_rfl) (fun _ _ _ h => h) (Or.inl ⟨by rfl, ?hy99⟩) h0 ?rest99
        case hy99 => (intro w hSw; (try dsimp only at hSw); go_simp; try with_reducible rfl)
        simp only [Act.put, List.setIfInBounds_toArray, List.set_cons_zero, List.set_cons_succ]
        refine wpAnyH_take (i := 5) (oi := ⟨_, _, _, _, _, _⟩) (v := ?v100) rfl (by kernel_rfl) (by kernel_rfl) (by kernel_rfl) (fun _ _ _ h => h) (Or.inl ⟨by rfl, ?hy100⟩) h0 ?rest100
        case hy100 => (intro w hSw; (try dsimp only at hSw); go_simp; try with_reducible rfl)
        simp only [Act.put, List.setIfInBounds_toArray, List.set_cons_zero, List.set_cons_succ]
        refine wpAnyH_ready (rs := [1, 10]) (by kernel_rfl) (by simp) ?_
        refine AllReadyH.cons (o := ⟨_, _, _, _, _, _⟩) rfl (fun K hK => ?_) (AllReadyH.cons (o := ⟨_, _, _, _, _, _⟩) rfl (fun K hK => ?_) AllReadyH.nil)
        · go_simp
          refine hK.out _ _ h0 (fun hHeld => ?_)
          clear hK K hHeld
          try simp only [Act.put, List.setIfInBounds_toArray, List.set_cons_zero, List.set_cons_succ]
          refine wpAnyH_take (i := 6) (oi := ⟨_, _, _, _, _, _⟩) (v := ?v101) rfl (by kernel_rfl) (by kernel_rfl) (by kernel_rfl) (fun _ _ _ h => h) (Or.inl ⟨by rfl, ?hy101⟩) h0 ?rest101
          case hy101 => (intro w hSw; (try dsimp only at hSw); go_simp; try with_reducible rfl)
          simp only [Act.put, List.setIfInBounds_toArray, List.set_cons_zero, List.set_cons_succ]
          refine wpAnyH_ready (rs := [10]) (by kernel_rfl) (by simp) ?_
          refine AllReadyH.cons (o := ⟨_, _, _, _, _, _⟩) rfl (fun K hK => ?_) AllReadyH.nil
          go_simp
          refine hK.out _ _ h0 (fun hHeld => ?_)
          clear hK K hHeld
          try simp only [Act.put, List.setIfInBounds_toArray, List.set_cons_zero, List.set_cons_succ]
          refine wpAnyH_take (i := 11) (oi := ⟨_, _, _, _, _, _⟩) (v := ?v102) rfl (by kernel_rfl) (by kernel_rfl) (by kernel_rfl) (fun _ _ _ h => h) (Or.inl ⟨by rfl, ?hy102⟩) h0 ?rest102
          case hy102 => (intro w hSw; (try dsimp only at hSw); go_simp; try with_reducible rfl)
          simp only [Act.put, List.setIfInBounds_toArray, List.set_cons_zero, List.set_cons_succ]
          refine wpAnyH_take (i := 12) (oi := ⟨_, _, _, _, _, _⟩) (v := ?v103) rfl (by kernel_rfl) (by kernel_rfl) (by kernel_rfl) (fun _ _ _ h => h) (Or.inl ⟨by rfl, ?hy103⟩) h0 ?rest103
          case hy103 => (intro w hSw; (try dsimp only at hSw); go_simp; try with_reducible rfl)
          simp only [Act.put, List.setIfInBounds_toArray, List.set_cons_zero, List.set_cons_succ]
          refine wpAnyH_take (i := 13) (oi := ⟨_, _, _, _, _, _⟩) (v := ?v104) rfl (by kernel_rfl) (by kernel_rfl) (by kernel_rfl) (fun _ _ _ h => h) (Or.inl ⟨by rfl, ?hy104⟩) h0 ?rest104
          case hy104 => (intro w hSw; (try dsimp only at hSw); go_simp; try with_reducible rfl)
          simp only [Act.put, List.setIfInBounds_toArray, List.set_cons_zero, List.set_cons_succ]
          refine wpAnyH_take (i := 14) (oi := ⟨_, _, _, _, _, _⟩) (v := ?v105) rfl (by kernel_rfl) (by kernel_rfl) (by kernel_rfl) (fun _ _ _ h => h) (Or.inl ⟨by rfl, ?hy105⟩) h0 ?rest105
          case hy105 => (intro w hSw; (try dsimp only at hSw); go_simp; try with_reducible rfl)
          simp only [Act.put, List.setIfInBounds_toArray, List.set_cons_zero, List.set_cons_succ]
          refine wpAnyH_ready (rs := [15]) (by kernel_rfl) (by simp) ?_
          refine AllReadyH.cons (o := ⟨_, _, _, _, _, _⟩) rfl (fun K hK => ?_) AllReadyH.nil
          go_simp
          refine hK.out _ _ (HL.out.1 _) (fun hHeld => ?_)
          clear hK K hHeld
          try simp only [Act.put, List.setIfInBounds_toArray, List.set_cons_zero, List.set_cons_succ]
          refine wpAnyH_take (i := 16) (oi := ⟨_, _, _, _, _, _⟩) (v := ?v106) rfl (by kernel_rfl) (by kernel_rfl) (by kernel_rfl) (fun _ _ _ h => h) (Or.inl ⟨by rfl, ?hy106⟩) (HL.out.1 _) ?rest106
          case hy106 => (intro w hSw; (try dsimp only at hSw); go_simp; try with_reducible rfl)
          simp only [Act.put, List.setIfInBounds_toArray, List.set_cons_zero, List.set_cons_succ]
          refine wpAnyH_ready (rs := [17]) (by kernel_rfl) (by simp) ?_
          refine AllReadyH.cons (o := ⟨_, _, _, _, _, _⟩) rfl (fun K hK => ?_) AllReadyH.nil
          go_simp
          refine hK.out _ _ (HL.out.2.1 _ _) (fun hHeld => ?_)
          clear hK K hHeld
          try simp only [Act.put, List.setIfInBounds_toArray, List.set_cons_zero, List.set_cons_succ]
          refine wpAnyH_done (by kernel_rfl) ?_ _
          go_wp2
          go_meet
          exact ⟨rfl, HL.out.2.1 _ _, HL.out.2.2 _ _⟩
        · go_simp
          refine hK.out _ _ h0 (fun hHeld => ?_)
          clear hK K hHeld
          try simp only [Act.put, List.setIfInBounds_toArray, List.set_cons_zero, List.set_cons_succ]
          refine wpAnyH_take (i := 11) (oi := ⟨_, _, _, _, _, _⟩) (v := ?v107) rfl (by kernel_rfl) (by kernel_rfl) (by kernel_rfl) (fun _ _ _ h => h) (Or.inl ⟨by rfl, ?hy107⟩) h0 ?rest107
          case hy107 => (intro w hSw; (try dsimp only at hSw); go_simp; try with_reducible rfl)
          simp only [Act.put, List.setIfInBounds_toArray, List.set_cons_zero, List.set_cons_succ]
          refine wpAnyH_take (i := 12) (oi := ⟨_, _, _, _, _, _⟩) (v := ?v108) rfl (by kernel_rfl) (by kernel_rfl) (by kernel_rfl) (fun _ _ _ h => h) (Or.inl ⟨by rfl, ?hy108⟩) h0 ?rest108
          case hy108 => (intro w hSw; (try dsimp only at hSw); go_simp; try with_reducible rfl)
          simp only [Act.put, List.setIfInBounds_toArray, List.set_cons_zero, List.set_cons_succ]
          refine wpAnyH_take (i := 13) (oi := ⟨_, _, _, _, _, _⟩) (v := ?v109) rfl (by kernel_rfl) (by kernel_rfl) (by kernel_rfl) (fun _ _ _ h => h) (Or.inl ⟨by rfl, ?hy109⟩) h0 ?rest109
          case hy109 => (intro w hSw; (try dsimp only at hSw); go_simp; try with_reducible rfl)
          simp only [Act.put, List.setIfInBounds_toArray, List.set_cons_zero, List.set_cons_succ]
          refine wpAnyH_ready (rs := [1]) (by kernel_rfl) (by simp) ?_
          refine AllReadyH.cons (o := ⟨_, _, _, _, _, _⟩) rfl (fun K hK => ?_) AllReadyH.nil
          go_simp
          refine hK.out _ _ h0 (fun hHeld => ?_)
          clear hK K hHeld
          try simp only [Act.put, List.setIfInBounds_toArray, List.set_cons_zero, List.set_cons_succ]
          refine wpAnyH_take (i := 6) (oi := ⟨_, _, _, _, _, _⟩) (v := ?v110) rfl (by kernel_rfl) (by kernel_rfl) (by kernel_rfl) (fun _ _ _ h => h) (Or.inl ⟨by rfl, ?hy110⟩) h0 ?rest110
          case hy110 => (intro w hSw; (try dsimp only at hSw); go_simp; try with_reducible rfl)
          simp only [Act.put, List.setIfInBounds_toArray, List.set_cons_zero, List.set_cons_succ]
          refine wpAnyH_take (i := 14) (oi := ⟨_, _, _, _, _, _⟩) (v := ?v111) rfl (by kernel_rfl) (by kernel_rfl) (by kernel_rfl) (fun _ _ _ h => h) (Or.inl ⟨by rfl, ?hy111⟩) h0 ?rest111
          case hy111 => (intro w hSw; (try dsimp only at hSw); go_simp; try with_reducible rfl)
          simp only [Act.put, List.setIfInBounds_toArray, List.set_cons_zero, List.set_cons_succ]
          refine wpAnyH_ready (rs := [15]) (by kernel_rfl) (by simp) ?_
          refine AllReadyH.cons (o := ⟨_, _, _, _, _, _⟩) rfl (fun K hK => ?_) AllReadyH.nil
          go_simp
          refine hK.out _ _ (HL.out.1 _) (fun hHeld => ?_)
          clear hK K hHeld
          try simp only [Act.put, List.setIfInBounds_toArray, List.set_cons_zero, List.set_cons_succ]
          refine wpAnyH_take (i := 16) (oi := ⟨_, _, _, _, _, _⟩) (v := ?v112) rfl (by kernel_rfl) (by kernel_rfl) (by kernel_rfl) (fun _ _ _ h => h) (Or.inl ⟨by rfl, ?hy112⟩) (HL.out.1 _) ?rest112
          case hy112 => (intro w hSw; (try dsimp only at hSw); go_simp; try with_reducible rfl)
          simp only [Act.put, List.setIfInBounds_toArray, List.set_cons_zero, List.set_cons_succ]
          refine wpAnyH_ready (rs := [17]) (by kernel_rfl) (by simp) ?_
          refine AllReadyH.cons (o := ⟨_, _, _, _, _, _⟩) rfl (fun K hK => ?_) AllReadyH.nil
          go_simp
          refine hK.out _ _ (HL.out.2.1 _ _) (fun hHeld => ?_)
          clear hK K hHeld
          try simp only [Act.put, List.setIfInBounds_toArray, List.set_cons_zero, List.set_cons_succ]
          refine wpAnyH_done (by kernel_rfl) ?_ _
          go_wp2
          go_meet
          exact ⟨rfl, HL.out.2.1 _ _, HL.out.2.2 _ _⟩
      · go_simp
        refine hK.out _ _ h0 (fun hHeld => ?_)
        clear hK K hHeld
        try simp only [Act.put, List.setIfInBounds_toArray, List.set_cons_zero, List.set_cons_succ]
        refine wpAnyH_take (i := 11) (oi := ⟨_, _, _, _, _, _⟩) (v := ?v113) rfl (by kernel_rfl) (by kernel_rfl) (by kernel_rfl) (fun _ _ _ h => h) (Or.inl ⟨by rfl, ?hy113⟩) h0 ?rest113
        case hy113 => (intro w hSw; (try dsimp only at hSw); go_simp; try with_reducible rfl)
        simp only [Act.put, List.setIfInBounds_toArray, List.set_cons_zero, List.set_cons_succ]
        refine wpAnyH_take (i := 12) (oi := ⟨_, _, _, _, _, _⟩) (v := ?v114) rfl (by kernel_rfl) (by kernel_rfl) (by kernel_rfl) (fun _ _ _ h => h) (Or.inl ⟨by rfl, ?hy114⟩) h0 ?rest114
        case hy114 => (intro w hSw; (try dsimp only at hSw); go_simp; try with_reducible rfl)
        simp only [Act.put, List.setIfInBounds_toArray, List.set_cons_zero, List.set_cons_succ]
        refine wpAnyH_take (i := 13) (oi := ⟨_, _, _, _, _, _⟩) (v := ?v115) rfl (by kernel_rfl) (by kernel_rfl) (by kernel_rfl) (fun _ _ _ h => h) (Or.inl ⟨by rfl, ?hy115⟩) h0 ?rest115
        case hy115 => (intro w hSw; (try dsimp only at hSw); go_simp; try with_reducible rfl)
        simp only [Act.put, List.setIfInBounds_toArray, List.set_cons_zero, List.set_cons_succ]
        refine wpAnyH_ready (rs := [1, 3]) (by kernel_rfl) (by simp) ?_
        refine AllReadyH.cons (o := ⟨_, _, _, _, _, _⟩) rfl (fun K hK => ?_) (AllReadyH.cons (o := ⟨_, _, _, _, _, _⟩) rfl (fun K hK => ?_) AllReadyH.nil)
        · go_simp
          refine hK.out _ _ h0 (fun hHeld => ?_)
          clear hK K hHeld
          try simp only [Act.put, List.setIfInBounds_toArray, List.set_cons_zero, List.set_cons_succ]
          refine wpAnyH_ready (rs := [3]) (by kernel_rfl) (by simp) ?_
          refine AllReadyH.cons (o := ⟨_, _, _, _, _, _⟩) rfl (fun K hK => ?_) AllReadyH.nil
          go_simp
          refine hK.out _ _ h0 (fun hHeld => ?_)
          clear hK K hHeld
          try simp only [Act.put, List.setIfInBounds_toArray, List.set_cons_zero, List.set_cons_succ]
          refine wpAnyH_take (i := 4) (oi := ⟨_, _, _, _, _, _⟩) (v := ?v116) rfl (by kernel_rfl) (by kernel_rfl) (by kernel_rfl) (fun _ _ _ h => h) (Or.inl ⟨by rfl, ?hy116⟩) h0 ?rest116
          case hy116 => (intro w hSw; (try dsimp only at hSw); go_simp; try with_reducible rfl)
          simp only [Act.put, List.setIfInBounds_toArray, List.set_cons_zero, List.set_cons_succ]
          refine wpAnyH_take (i := 5) (oi := ⟨_, _, _, _, _, _⟩) (v := ?v117) rfl (by kernel_rfl) (by kernel_rfl) (by kernel_rfl) (fun _ _ _ h => h) (Or.inl ⟨by rfl, ?hy117⟩) h0 ?rest117
          case hy117 => (intro w hSw; (try dsimp only at hSw); go_simp; try with_reducible rfl)
          simp only [Act.put, List.setIfInBounds_toArray, List.set_cons_zero, List.set_cons_succ]
          refine wpAnyH_take (i := 6) (oi := ⟨_, _, _, _, _, _⟩) (v := ?v118) rfl (by kernel_rfl) (by kernel_rfl) (by kernel_rfl) (fun _ _ _ h => h) (Or.inl ⟨by rfl, ?hy118⟩) h0 ?rest118
          case hy118 => (intro w hSw; (try dsimp only at hSw); go_simp; try with_reducible rfl)
          simp only [Act.put, List.setIfInBounds_toArray, List.set_cons_zero, List.set_cons_succ]
          refine wpAnyH_take (i := 14) (oi := ⟨_, _, _, _, _, _⟩) (v := ?v119) rfl (by kernel_rfl) (by kernel_rfl) (by kernel_rfl) (fun _ _ _ h => h) (Or.inl ⟨by rfl, ?hy119⟩) h0 ?rest119
          case hy119 => (intro w hSw; (try dsimp only at hSw); go_simp; try with_reducible rfl)
          simp only [Act.put, List.setIfInBounds_toArray, List.set_cons_zero, List.set_cons_succ]
          refine wpAnyH_ready (rs := [15]) (by kernel_rfl) (by simp) ?_
          refine AllReadyH.cons (o := ⟨_, _, _, _, _, _⟩) rfl (fun K hK => ?_) AllReadyH.nil
          go_simp
          refine hK.out _ _ (HL.out.1 _) (fun hHeld => ?_)
          clear hK K hHeld
          try simp only [Act.put, List.setIfInBounds_toArray, List.set_cons_zero, List.set_cons_succ]
          refine wpAnyH_take (i := 16) (oi := ⟨_, _, _, _, _, _⟩) (v := ?v120) rfl (by kernel_rfl) (by kernel_rfl) (by kernel_rfl) (fun _ _ _ h => h) (Or.inl ⟨by rfl, ?hy120⟩) (HL.out.1 _) ?rest120
          case hy120 => (intro w hSw; (try dsimp only at hSw); go_simp; try with_reducible rfl)
          simp only [Act.put, List.setIfInBounds_toArray, List.set_cons_zero, List.set_cons_succ]
          refine wpAnyH_ready (rs := [17]) (by kernel_rfl) (by simp) ?_
          refine AllReadyH.cons (o := ⟨_, _, _, _, _, _⟩) rfl (fun K hK => ?_) AllReadyH.nil
          go_simp
          refine hK.out _ _ (HL.out.2.1 _ _) (fun hHeld => ?_)
          clear hK K hHeld
          try simp only [Act.put, List.setIfInBounds_toArray, List.set_cons_zero, List.set_cons_succ]
          refine wpAnyH_done (by kernel_rfl) ?_ _
          go_wp2
          go_meet
          exact ⟨rfl, HL.out.2.1 _ _, HL.out.2.2 _ _⟩
        · go_simp
          refine hK.out _ _ h0 (fun hHeld => ?_)
          clear hK K hHeld
          try simp only [Act.put, List.setIfInBounds_toArray, List.set_cons_zero, List.set_cons_succ]
          refine wpAnyH_take (i := 4) (oi := ⟨_, _, _, _, _, _⟩) (v := ?v121) rfl (by kernel_rfl) (by kernel_rfl) (by kernel_rfl) (fun _ _ _ h => h) (Or.inl ⟨by rfl, ?hy121⟩) h0 ?rest121
          case hy121 => (intro w hSw; (try dsimp only at hSw); go_simp; try with_reducible rfl)
          simp only [Act.put, List.setIfInBounds_toArray, List.set_cons_zero, List.set_cons_succ]
          refine wpAnyH_take (i := 5) (oi := ⟨_, _, _, _, _, _⟩) (v := ?v122) rfl (by kernel_rfl) (by kernel_rfl) (by kernel_rfl) (fun _ _ _ h => h) (Or.inl ⟨by rfl, ?hy122⟩) h0 ?rest122
          case hy122 => (intro w hSw; (try dsimp only at hSw); go_simp; try with_reducible rfl)
          simp only [Act.put, List.setIfInBounds_toArray, List.set_cons_zero, List.set_cons_succ]
          refine wpAnyH_ready (rs := [1]) (by kernel_rfl) (by simp) ?_
          refine AllReadyH.cons (o := ⟨_, _, _, _, _, _⟩) rfl (fun K hK => ?_) AllReadyH.nil
          go_simp
          refine hK.out _ _ h0 (fun hHeld => ?_)
          clear hK K hHeld
          try simp only [Act.put, List.setIfInBounds_toArray, List.set_cons_zero, List.set_cons_succ]
          refine wpAnyH_take (i := 6) (oi := ⟨_, _, _, _, _, _⟩) (v := ?v123) rfl (by kernel_rfl) (by kernel_rfl) (by kernel_rfl) (fun _ _ _ h => h) (Or.inl ⟨by rfl, ?hy123⟩) h0 ?rest123
          case hy123 => (intro w hSw; (try dsimp only at hSw); go_simp; try with_reducible rfl)
          simp only [Act.put, List.setIfInBounds_toArray, List.set_cons_zero, List.set_cons_succ]
          refine wpAnyH_take (i := 14) (oi := ⟨_, _, _, _, _, _⟩) (v := ?v124) rfl (by kernel_rfl) (by kernel_rfl) (by kernel_rfl) (fun _ _ _ h => h) (Or.inl ⟨by rfl, ?hy124⟩) h0 ?rest124
          case hy124 => (intro w hSw; (try dsimp only at hSw); go_simp; try with_reducible rfl)
          simp only [Act.put, List.setIfInBounds_toArray, List.set_cons_zero, List.set_cons_succ]
          refine wpAnyH_ready (rs := [15]) (by kernel_rfl) (by simp) ?_
          refine AllReadyH.cons (o := ⟨_, _, _, _, _, _⟩) rfl (fun K hK => ?_) AllReadyH.nil
          go_simp
          refine hK.out _ _ (HL.out.1 _) (fun hHeld => ?_)
          clear hK K hHeld
          try simp only [Act.put, List.setIfInBounds_toArray, List.set_cons_zero, List.set_cons_succ]
          refine wpAnyH_take (i := 16) (oi := ⟨_, _, _, _, _, _⟩) (v := ?v125) rfl (by kernel_rfl) (by kernel_rfl) (by kernel_rfl) (fun _ _ _ h => h) (Or.inl ⟨by rfl, ?hy125⟩) (HL.out.1 _) ?rest125
          case hy125 => (intro w hSw; (try dsimp only at hSw); go_simp; try with_reducible rfl)
          simp only [Act.put, List.setIfInBounds_toArray, List.set_cons_zero, List.set_cons_succ]
          refine wpAnyH_ready (rs := [17]) (by kernel_rfl) (by simp) ?_
          refine AllReadyH.cons (o := ⟨_, _, _, _, _, _⟩) rfl (fun K hK => ?_) AllReadyH.nil
          go_simp
          refine hK.out _ _ (HL.out.2.1 _ _) (fun hHeld => ?_)
          clear hK K hHeld
          try simp only [Act.put, List.setIfInBounds_toArray, List.set_cons_zero, List.set_cons_succ]
          refine wpAnyH_done (by kernel_rfl) ?_ _
          go_wp2
          go_meet
          exact ⟨rfl, HL.out.2.1 _ _, HL.out.2.2 _ _⟩
    · go_simp
      refine hK.out _ _ h0 (fun hHeld => ?_)
      clear hK K hHeld
      try simp only [Act.put, List.setIfInBounds_toArray, List.set_cons_zero, List.set_cons_succ]
      refine wpAnyH_take (i := 11) (oi := ⟨_, _, _, _, _, _⟩) (v := ?v126) rfl (by kernel_rfl) (by kernel_rfl) (by kernel_rfl) (fun _ _ _ h => h) (Or.inl ⟨by rfl, ?hy126⟩) h0 ?rest126
      case hy126 => (intro w hSw; (try dsimp only at hSw); go_simp; try with_reducible rfl)
      simp only [Act.put, List.setIfInBounds_toArray, List.set_cons_zero, List.set_cons_succ]
      refine wpAnyH_take (i := 12) (oi := ⟨_, _, _, _, _, _⟩) (v := ?v127) rfl (by kernel_rfl) (by kernel_rfl) (by kernel_rfl) (fun _ _ _ h => h) (Or.inl ⟨by rfl, ?hy127⟩) h0 ?rest127
      case hy127 => (intro w hSw; (try dsimp only at hSw); go_simp; try with_reducible rfl)
      simp only [Act.put, List.setIfInBounds_toArray, List.set_cons_zero, List.set_cons_succ]
      refine wpAnyH_ready (rs := [1, 3, 8]) (by kernel_rfl) (by simp) ?_
      refine AllReadyH.cons (o := ⟨_, _, _, _, _, _⟩) rfl (fun K hK => ?_) (AllReadyH.cons (o := ⟨_, _, _, _, _, _⟩) rfl (fun K hK => ?_) (AllReadyH.cons (o := ⟨_, _, _, _, _, _⟩) rfl (fun K hK => ?_) AllReadyH.nil))
      · go_simp
        refine hK.out _ _ h0 (fun hHeld => ?_)
        clear hK K hHeld
        try simp only [Act.put, List.setIfInBounds_toArray, List.set_cons_zero, List.set_cons_succ]
        refine wpAnyH_ready (rs := [3, 8]) (by kernel_rfl) (by simp) ?_
        refine AllReadyH.cons (o := ⟨_, _, _, _, _, _⟩) rfl (fun K hK => ?_) (AllReadyH.cons (o := ⟨_, _, _, _, _, _⟩) rfl (fun K hK => ?_) AllReadyH.nil)
        · go_simp
          refine hK.out _ _ h0 (fun hHeld => ?_)
          clear hK K hHeld
          try simp only [Act.put, List.setIfInBounds_toArray, List.set_cons_zero, List.set_cons_succ]
          refine wpAnyH_take (i := 4) (oi := ⟨_, _, _, _, _, _⟩) (v := ?v128) rfl (by kernel_rfl) (by kernel_rfl) (by kernel_rfl) (fun _ _ _ h => h) (Or.inl ⟨by rfl, ?hy128⟩) h0 ?rest128
          case hy128 => (intro w hSw; (try dsimp only at hSw); go_simp; try with_reducible rfl)
          simp only [Act.put, List.setIfInBounds_toArray, List.set_cons_zero, List.set_cons_succ]
          refine wpAnyH_take (i := 5) (oi := ⟨_, _, _, _, _, _⟩) (v := ?v129) rfl (by kernel_rfl) (by kernel_rfl) (by kernel_rfl) (fun _ _ _ h => h) (Or.inl ⟨by rfl, ?hy129⟩) h0 ?rest129
          case hy129 => (intro w hSw; (try dsimp only at hSw); go_simp; try with_reducible rfl)
          simp only [Act.put, List.setIfInBounds_toArray, List.set_cons_zero, List.set_cons_succ]
          refine wpAnyH_take (i := 6) (oi := ⟨_, _, _, _, _, _⟩) (v := ?v130) rfl (by kernel_rfl) (by kernel_rfl) (by kernel_rfl) (fun _ _ _ h => h) (Or.inl ⟨by rfl, ?hy130⟩) h0 ?rest130
          case hy130 => (intro w hSw; (try dsimp only at hSw); go_simp; try with_reducible rfl)
          simp only [Act.put, List.setIfInBounds_toArray, List.set_cons_zero, List.set_cons_succ]
          refine wpAnyH_ready (rs := [8]) (by kernel_rfl) (by simp) ?_
          refine AllReadyH.cons (o := ⟨_, _, _, _, _, _⟩) rfl (fun K hK => ?_) AllReadyH.nil
          go_simp
          refine hK.out _ _ h0 (fun hHeld => ?_)
          clear hK K hHeld
          try simp only [Act.put, List.setIfInBounds_toArray, List.set_cons_zero, List.set_cons_succ]
          refine wpAnyH_take (i := 13) (oi := ⟨_, _, _, _, _, _⟩) (v := ?v131) rfl (by kernel_rfl) (by kernel_rfl) (by kernel_rfl) (fun _ _ _ h => h) (Or.inl ⟨by rfl, ?hy131⟩) h0 ?rest131
          case hy131 => (intro w hSw; (try dsimp only at hSw); go_simp; try with_reducible rfl)
          simp only [Act.put, List.setIfInBounds_toArray, List.set_cons_zero, List.set_cons_succ]
          refine wpAnyH_take (i := 14) (oi := ⟨_, _, _, _, _, _⟩) (v := ?v132) rfl (by kernel_rfl) (by kernel_rfl) (by kernel_rfl) (fun _ _ _ h => h) (Or.inl ⟨by rfl, ?hy132⟩) h0 ?rest132
          case hy132 => (intro w hSw; (try dsimp only at hSw); go_simp; try with_reducible rfl)
          simp only [Act.put, List.setIfInBounds_toArray, List.set_cons_zero, List.set_cons_succ]
          refine wpAnyH_ready (rs := [15]) (by kernel_rfl) (by simp) ?_
          refine AllReadyH.cons (o := ⟨_, _, _, _, _, _⟩) rfl (fun K hK => ?_) AllReadyH.nil
          go_simp
          refine hK.out _ _ (HL.out.1 _) (fun hHeld => ?_)
          clear hK K hHeld
          try simp only [Act.put, List.setIfInBounds_toArray, List.set_cons_zero, List.set_cons_succ]
          refine wpAnyH_take (i := 16) (oi := ⟨_, _, _, _, _, _⟩) (v := ?v133) rfl (by kernel_rfl) (by kernel_rfl) (by kernel_rfl) (fun _ _ _ h => h) (Or.inl ⟨by rfl, ?hy133⟩) (HL.out.1 _) ?rest133
          case hy133 => (intro w hSw; (try dsimp only at hSw); go_simp; try with_reducible rfl)
          simp only [Act.put, List.setIfInBounds_toArray, List.set_cons_zero, List.set_cons_succ]
          refine wpAnyH_ready (rs := [17]) (by kernel_rfl) (by simp) ?_
          refine AllReadyH.cons (o := ⟨_, _, _, _, _, _⟩) rfl (fun K hK => ?_) AllReadyH.nil
          go_simp
          refine hK.out _ _ (HL.out.2.1 _ _) (fun hHeld => ?_)
          clear hK K hHeld
          try simp only [Act.put, List.setIfInBounds_toArray, List.set_cons_zero, List.set_cons_succ]
          refine wpAnyH_done (by kernel_rfl) ?_ _
          go_wp2
          go_meet
          exact ⟨rfl, HL.out.2.1 _ _, HL.out.2.2 _ _⟩
        · go_simp
          refine hK.out _ _ h0 (fun hHeld => ?_)
          clear hK K hHeld
          try simp only [Act.put, List.setIfInBounds_toArray, List.set_cons_zero, List.set_cons_succ]
          refine wpAnyH_take (i := 13) (oi := ⟨_, _, _, _, _, _⟩) (v := ?v134) rfl (by kernel_rfl) (by kernel_rfl) (by kernel_rfl) (fun _ _ _ h => h) (Or.inl ⟨by rfl, ?hy134⟩) h0 ?rest134
          case hy134 => (intro w hSw; (try dsimp only at hSw); go_simp; try with_reducible rfl)
          simp only [Act.put, List.setIfInBounds_toArray, List.set_cons_zero, List.set_cons_succ]
          refine wpAnyH_ready (rs := [3]) (by kernel_rfl) (by simp) ?_
          refine AllReadyH.cons (o := ⟨_, _, _, _, _, _⟩) rfl (fun K hK => ?_) AllReadyH.nil
          go_simp
          refine hK.out _ _ h0 (fun hHeld => ?_)
          clear hK K hHeld
          try simp only [Act.put, List.setIfInBounds_toArray, List.set_cons_zero, List.set_cons_succ]
          refine wpAnyH_take (i := 4) (oi := ⟨_, _, _, _, _, _⟩) (v := ?v135) rfl (by kernel_rfl) (by kernel_rfl) (by kernel_rfl) (fun _ _ _ h => h) (Or.inl ⟨by rfl, ?hy135⟩) h0 ?rest135
          case hy135 => (intro w hSw; (try dsimp only at hSw); go_simp; try with_reducible rfl)
          simp only [Act.put, List.setIfInBounds_toArray, List.set_cons_zero, List.set_cons_succ]
          refine wpAnyH_take (i := 5) (oi := ⟨_, _, _, _, _, _⟩) (v := ?v136) rfl (by kernel_rfl) (by kernel_rfl) (by kernel_rfl) (fun _ _ _ h => h) (Or.inl ⟨by rfl, ?hy136⟩) h0 ?rest136
          case hy136 => (intro w hSw; (try dsimp only at hSw); go_simp; try with_reducible rfl)
          simp only [Act.put, List.setIfInBounds_toArray, List.set_cons_zero, List.set_cons_succ]
          refine wpAnyH_take (i := 6) (oi := ⟨_, _, _, _, _, _⟩) (v := ?v137) rfl (by kernel_rfl) (by kernel_rfl) (by kernel_rfl) (fun _ _ _ h => h) (Or.inl ⟨by rfl, ?hy137⟩) h0 ?rest137
          case hy137 => (intro w hSw; (try dsimp only at hSw); go_simp; try with_reducible rfl)
          simp only [Act.put, List.setIfInBounds_toArray, List.set_cons_zero, List.set_cons_succ]
          refine wpAnyH_take (i := 14) (oi := ⟨_, _, _, _, _, _⟩) (v := ?v138) rfl (by kernel_rfl) (by kernel_rfl) (by kernel_rfl) (fun _ _ _ h => h) (Or.inl ⟨by rfl, ?hy138⟩) h0 ?rest138
          case hy138 => (intro w hSw; (try dsimp only at hSw); go_simp; try with_reducible rfl)
          simp only [Act.put, List.setIfInBounds_toArray, List.set_cons_zero, List.set_cons_succ]
          refine wpAnyH_ready (rs := [15]) (by kernel_rfl) (by simp) ?_
          refine AllReadyH.cons (o := ⟨_, _, _, _, _, _⟩) rfl (fun K hK => ?_) AllReadyH.nil
          go_simp
          refine hK.out _ _ (HL.out.1 _) (fun hHeld => ?_)
          clear hK K hHeld
          try simp only [Act.put, List.setIfInBounds_toArray, List.set_cons_zero, List.set_cons_succ]
          refine wpAnyH_take (i := 16) (oi := ⟨_, _, _, _, _, _⟩) (v := ?v139) rfl (by kernel_rfl) (by kernel_rfl) (by kernel_rfl) (fun _ _ _ h => h) (Or.inl ⟨by rfl, ?hy139⟩) (HL.out.1 _) ?rest139
          case hy139 => (intro w hSw; (try dsimp only at hSw); go_simp; try with_reducible rfl)
          simp only [Act.put, List.setIfInBounds_toArray, List.set_cons_zero, List.set_cons_succ]
          refine wpAnyH_ready (rs := [17]) (by kernel_rfl) (by simp) ?_
          refine AllReadyH.cons (o := ⟨_, _, _, _, _, _⟩) rfl (fun K hK => ?_) AllReadyH.nil
          go_simp
          refine hK.out _ _ (HL.out.2.1 _ _) (fun hHeld => ?_)
          clear hK K hHeld
          try simp only [Act.put, List.setIfInBounds_toArray, List.set_cons_zero, List.set_cons_succ]
          refine wpAnyH_done (by kernel_rfl) ?_ _
          go_wp2
          go_meet
          exact ⟨rfl, HL.out.2.1 _ _, HL.out.2.2 _ _⟩
      · go_simp
        refine hK.out _ _ h0 (fun hHeld => ?_)
        clear hK K hHeld
        try simp only [Act.put, List.setIfInBounds_toArray, List.set_cons_zero, List.set_cons_succ]
        refine wpAnyH_take (i := 4) (oi := ⟨_, _, _, _, _, _⟩) (v := ?v140) rfl (by kernel_rfl) (by kernel_rfl) (by kernel_rfl) (fun _ _ _ h => h) (Or.inl ⟨by rfl, ?hy140⟩) h0 ?rest140
        case hy140 => (intro w hSw; (try dsimp only at hSw); go_simp; try with_reducible rfl)
        simp only [Act.put, List.setIfInBounds_toArray, List.set_cons_zero, List.set_cons_succ]
        refine wpAnyH_take (i := 5) (oi := ⟨_, _, _, _, _, _⟩) (v := ?v141) rfl (by kernel_rfl) (by kernel_rfl) (by kernel_rfl) (fun _ _ _ h => h) (Or.inl ⟨by rfl, ?hy141⟩) h0 ?rest141
        case hy141 => (intro w hSw; (try dsimp only at hSw); go_simp; try with_reducible rfl)
        simp only [Act.put, List.setIfInBounds_toArray, List.set_cons_zero, List.set_cons_succ]
        refine wpAnyH_ready (rs := [1, 8]) (by kernel_rfl) (by simp) ?_
        refine AllReadyH.cons (o := ⟨_, _, _, _, _, _⟩) rfl (fun K hK => ?_) (AllReadyH.cons (o := ⟨_, _, _, _, _, _⟩) rfl (fun K hK => ?_) AllReadyH.nil)
        · go_simp
          refine hK.out _ _ h0 (fun hHeld => ?_)
          clear hK K hHeld
          try simp only [Act.put, List.setIfInBounds_toArray, List.set_cons_zero, List.set_cons_succ]
          refine wpAnyH_take (i := 6) (oi := ⟨_, _, _, _, _, _⟩) (v := ?v142) rfl (by kernel_rfl) (by kernel_rfl) (by kernel_rfl) (fun _ _ _ h => h) (Or.inl ⟨by rfl, ?hy142⟩) h0 ?rest142
          case hy142 => (intro w hSw; (try dsimp only at hSw); go_simp; try with_reducible rfl)
          simp only [Act.put, List.setIfInBounds_toArray, List.set_cons_zero, List.set_cons_succ]
          refine wpAnyH_ready (rs := [8]) (by kernel_rfl) (by simp) ?_
          refine AllReadyH.cons (o := ⟨_, _, _, _, _, _⟩) rfl (fun K hK => ?_) AllReadyH.nil
          go_simp
          refine hK.out _ _ h0 (fun hHeld => ?_)
          clear hK K hHeld
          try simp only [Act.put, List.setIfInBounds_toArray, List.set_cons_zero, List.set_cons_succ]
          refine wpAnyH_take (i := 13) (oi := ⟨_, _, _, _, _, _⟩) (v := ?v143) rfl (by kernel_rfl) (by kernel_rfl) (by kernel_rfl) (fun _ _ _ h => h) (Or.inl ⟨by rfl, ?hy143⟩) h0 ?rest143
          case hy143 => (intro w hSw; (try dsimp only at hSw); go_simp; try with_reducible rfl)
          simp only [Act.put, List.setIfInBounds_toArray, List.set_cons_zero, List.set_cons_succ]
          refine wpAnyH_take (i := 14) (oi := ⟨_, _, _, _, _, _⟩) (v := ?v144) rfl (by kernel_rfl) (by kernel_rfl) (by kernel_rfl) (fun _ _ _ h => h) (Or.inl ⟨by rfl, ?hy144⟩) h0 ?rest144
          case hy144 => (intro w hSw; (try dsimp only at hSw); go_simp; try with_reducible rfl)
          simp only [Act.put, List.setIfInBounds_toArray, List.set_cons_zero, List.set_cons_succ]
          refine wpAnyH_ready (rs := [15]) (by kernel_rfl) (by simp) ?_
          refine AllReadyH.cons (o := ⟨_, _, _, _, _, _⟩) rfl (fun K hK => ?_) AllReadyH.nil
          go_simp
          refine hK.out _ _ (HL.out.1 _) (fun hHeld => ?_)
          clear hK K hHeld
          try simp only [Act.put, List.setIfInBounds_toArray, List.set_cons_zero, List.set_cons_succ]
          refine wpAnyH_take (i := 16) (oi := ⟨_, _, _, _, _, _⟩) (v := ?v145) rfl (by kernel_rfl) (by kernel_rfl) (by kernel_rfl) (fun _ _ _ h => h) (Or.inl ⟨by rfl, ?hy145⟩) (HL.out.1 _) ?rest145
          case hy145 => (intro w hSw; (try dsimp only at hSw); go_simp; try with_reducible rfl)
          simp only [Act.put, List.setIfInBounds_toArray, List.set_cons_zero, List.set_cons_succ]
          refine wpAnyH_ready (rs := [17]) (by kernel_rfl) (by simp) ?_
          refine AllReadyH.cons (o := ⟨_, _, _, _, _, _⟩) rfl (fun K hK => ?_) AllReadyH.nil
          go_simp
          refine hK.out _ _ (HL.out.2.1 _ _) (fun hHeld => ?_)
          clear hK K hHeld
          try simp only [Act.put, List.setIfInBounds_toArray, List.set_cons_zero, List.set_cons_succ]
          refine wpAnyH_done (by kernel_rfl) ?_ _
          go_wp2
          go_meet
          exact ⟨rfl, HL.out.2.1 _ _, HL.out.2.2 _ _⟩
        · go_simp
          refine hK.out _ _ h0 (fun hHeld => ?_)
          clear hK K hHeld
          try simp only [Act.put, List.setIfInBounds_toArray, List.set_cons_zero, List.set_cons_succ]
          refine wpAnyH_take (i := 13) (oi := ⟨_, _, _, _, _, _⟩) (v := ?v146) rfl (by kernel_rfl) (by kernel_rfl) (by kernel_rfl) (fun _ _ _ h => h) (Or.inl ⟨by rfl, ?hy146⟩) h0 ?rest146
          case hy146 => (intro w hSw; (try dsimp only at hSw); go_simp; try with_reducible rfl)
          simp only [Act.put, List.setIfInBounds_toArray, List.set_cons_zero, List.set_cons_succ]
          refine wpAnyH_ready (rs := [1]) (by kernel_rfl) (by simp) ?_
          refine AllReadyH.cons (o := ⟨_, _, _, _, _, _⟩) rfl (fun K hK => ?_) AllReadyH.nil
          go_simp
          refine hK.out _ _ h0 (fun hHeld => ?_)
          clear hK K hHeld
          try simp only [Act.put, List.setIfInBounds_toArray, List.set_cons_zero, List.set_cons_succ]
          refine wpAnyH_take (i := 6) (oi := ⟨_, _, _, _, _, _⟩) (v := ?v147) rfl (by kernel_rfl) (by kernel_rfl) (by kernel_rfl) (fun _ _ _ h => h) (Or.inl ⟨by rfl, ?hy147⟩) h0 ?rest147
          case hy147 => (intro w hSw; (try dsimp only at hSw); go_simp; try with_reducible rfl)
          simp only [Act.put, List.setIfInBounds_toArray, List.set_cons_zero, List.set_cons_succ]
          refine wpAnyH_take (i := 14) (oi := ⟨_, _, _, _, _, _⟩) (v := ?v148) rfl (by kernel_rfl) (by kernel_rfl) (by kernel_rfl) (fun _ _ _ h => h) (Or.inl ⟨by rfl, ?hy148⟩) h0 ?rest148
          case hy148 => (intro w hSw; (try dsimp only at hSw); go_simp; try with_reducible rfl)
          simp only [Act.put, List.setIfInBounds_toArray, List.set_cons_zero, List.set_cons_succ]
          refine wpAnyH_ready (rs := [15]) (by kernel_rfl) (by simp) ?_
          refine AllReadyH.cons (o := ⟨_, _, _, _, _, _⟩) rfl (fun K hK => ?_) AllReadyH.nil
          go_simp
          refine hK.out _ _ (HL.out.1 _) (fun hHeld => ?_)
          clear hK K hHeld
          try simp only [Act.put, List.setIfInBounds_toArray, List.set_cons_zero, List.set_cons_succ]
          refine wpAnyH_take (i := 16) (oi := ⟨_, _, _, _, _, _⟩) (v := ?v149) rfl (by kernel_rfl) (by kernel_rfl) (by kernel_rfl) (fun _ _ _ h => h) (Or.inl ⟨by rfl, ?hy149⟩) (HL.out.1 _) ?rest149
          case hy149 => (intro w hSw; (try dsimp only at hSw); go_simp; try with_reducible rfl)
          simp only [Act.put, List.setIfInBounds_toArray, List.set_cons_zero, List.set_cons_succ]
          refine wpAnyH_ready (rs := [17]) (by kernel_rfl) (by simp) ?_
          refine AllReadyH.cons (o := ⟨_, _, _, _, _, _⟩) rfl (fun K hK => ?_) AllReadyH.nil
          go_simp
          refine hK.out _ _ (HL.out.2.1 _ _) (fun hHeld => ?_)
          clear hK K hHeld
          try simp only [Act.put, List.setIfInBounds_toArray, List.set_cons_zero, List.set_cons_succ]
          refine wpAnyH_done (by kernel_rfl) ?_ _
          go_wp2
          go_meet
          exact ⟨rfl, HL.out.2.1 _ _, HL.out.2.2 _ _⟩
      · go_simp
        refine hK.out _ _ h0 (fun hHeld => ?_)
        clear hK K hHeld
        try simp only [Act.put, List.setIfInBounds_toArray, List.set_cons_zero, List.set_cons_succ]
        refine wpAnyH_take (i := 13) (oi := ⟨_, _, _, _, _, _⟩) (v := ?v150) rfl (by kernel_rfl) (by kernel_rfl) (by kernel_rfl) (fun _ _ _ h => h) (Or.inl ⟨by rfl, ?hy150⟩) h0 ?rest150
        case hy150 => (intro w hSw; (try dsimp only at hSw); go_simp; try with_reducible rfl)
        simp only [Act.put, List.setIfInBounds_toArray, List.set_cons_zero, List.set_cons_succ]
        refine wpAnyH_ready (rs := [1, 3]) (by kernel_rfl) (by simp) ?_
        refine AllReadyH.cons (o := ⟨_, _, _, _, _, _⟩) rfl (fun K hK => ?_) (AllReadyH.cons (o := ⟨_, _, _, _, _, _⟩) rfl (fun K hK => ?_) AllReadyH.nil)
        · go_simp
          refine hK.out _ _ h0 (fun hHeld => ?_)
          clear hK K hHeld
          try simp only [Act.put, List.setIfInBounds_toArray, List.set_cons_zero, List.set_cons_succ]
          refine wpAnyH_ready (rs := [3]) (by kernel_rfl) (by simp) ?_
          refine AllReadyH.cons (o := ⟨_, _, _, _, _, _⟩) rfl (fun K hK => ?_) AllReadyH.nil
          go_simp
          refine hK.out _ _ h0 (fun hHeld => ?_)
          clear hK K hHeld
          try simp only [Act.put, List.setIfInBounds_toArray, List.set_cons_zero, List.set_cons_succ]
          refine wpAnyH_take (i := 4) (oi := ⟨_, _, _, _, _, _⟩) (v := ?v151) rfl (by kernel_rfl) (by kernel_rfl) (by kernel_rfl) (fun _ _ _ h => h) (Or.inl ⟨by rfl, ?hy151⟩) h0 ?rest151
          case hy151 => (intro w hSw; (try dsimp only at hSw); go_simp; try with_reducible rfl)
          simp only [Act.put, List.setIfInBounds_toArray, List.set_cons_zero, List.set_cons_succ]
          refine wpAnyH_take (i := 5) (oi := ⟨_, _, _, _, _, _⟩) (v := ?v152) rfl (by kernel_rfl) (by kernel_rfl) (by kernel_rfl) (fun _ _ _ h => h) (Or.inl ⟨by rfl, ?hy152⟩) h0 ?rest152
          case hy152 => (intro w hSw; (try dsimp only at hSw); go_simp; try with_reducible rfl)
          simp only [Act.put, List.setIfInBounds_toArray, List.set_cons_zero, List.set_cons_succ]
          refine wpAnyH_take (i := 6) (oi := ⟨_, _, _, _, _, _⟩) (v := ?v153) rfl (by kernel_rfl) (by kernel_rfl) (by kernel_rfl) (fun _ _ _ h => h) (Or.inl ⟨by rfl, ?hy153⟩) h0 ?rest153
          case hy153 => (intro w hSw; (try dsimp only at hSw); go_simp; try with_reducible rfl)
          simp only [Act.put, List.setIfInBounds_toArray, List.set_cons_zero, List.set_cons_succ]
          refine wpAnyH_take (i := 14) (oi := ⟨_, _, _, _, _, _⟩) (v := ?v154) rfl (by kernel_rfl) (by kernel_rfl) (by kernel_rfl) (fun _ _ _ h => h) (Or.inl ⟨by rfl, ?hy154⟩) h0 ?rest154
          case hy154 => (intro w hSw; (try dsimp only at hSw); go_simp; try with_reducible rfl)
          simp only [Act.put, List.setIfInBounds_toArray, List.set_cons_zero, List.set_cons_succ]
          refine wpAnyH_ready (rs := [15]) (by kernel_rfl) (by simp) ?_
          refine AllReadyH.cons (o := ⟨_, _, _, _, _, _⟩) rfl (fun K hK => ?_) AllReadyH.nil
          go_simp
          refine hK.out _ _ (HL.out.1 _) (fun hHeld => ?_)
          clear hK K hHeld
          try simp only [Act.put, List.setIfInBounds_toArray, List.set_cons_zero, List.set_cons_succ]
          refine wpAnyH_take (i := 16) (oi := ⟨_, _, _, _, _, _⟩) (v := ?v155) rfl (by kernel_rfl) (by kernel_rfl) (by kernel_rfl) (fun _ _ _ h => h) (Or.inl ⟨by rfl, ?hy155⟩) (HL.out.1 _) ?rest155
          case hy155 => (intro w hSw; (try dsimp only at hSw); go_simp; try with_reducible rfl)
          simp only [Act.put, List.setIfInBounds_toArray, List.set_cons_zero, List.set_cons_succ]
          refine wpAnyH_ready (rs := [17]) (by kernel_rfl) (by simp) ?_
          refine AllReadyH.cons (o := ⟨_, _, _, _, _, _⟩) rfl (fun K hK => ?_) AllReadyH.nil
          go_simp
          refine hK.out _ _ (HL.out.2.1 _ _) (fun hHeld => ?_)
          clear hK K hHeld
          try simp only [Act.put, List.setIfInBounds_toArray, List.set_cons_zero, List.set_cons_succ]
          refine wpAnyH_done (by kernel_rfl) ?_ _
          go_wp2
          go_meet
          exact ⟨rfl, HL.out.2.1 _ _, HL.out.2.2 _ _⟩
        · go_simp
          refine hK.out _ _ h0 (fun hHeld => ?_)
          clear hK K hHeld
          try simp only [Act.put, List.setIfInBounds_toArray, List.set_cons_zero, List.set_cons_succ]
          refine wpAnyH_take (i := 4) (oi := ⟨_, _, _, _, _, _⟩) (v := ?v156) rfl (by kernel_rfl) (by kernel_rfl) (by kernel_rfl) (fun _ _ _ h => h) (Or.inl ⟨by rfl, ?hy156⟩) h0 ?rest156
          case hy156 => (intro w hSw; (try dsimp only at hSw); go_simp; try with_reducible rfl)
          simp only [Act.put, List.setIfInBounds_toArray, List.set_cons_zero, List.set_cons_succ]
          refine wpAnyH_take (i := 5) (oi := ⟨_, _, _, _, _, _⟩) (v := ?v157) rfl (by kernel_rfl) (by kernel_rfl) (by kernel_rfl) (fun _ _ _ h => h) (Or.inl ⟨by rfl, ?hy157⟩) h0 ?rest157
          case hy157 => (intro w hSw; (try dsimp only at hSw); go_simp; try with_reducible rfl)
          simp only [Act.put, List.setIfInBounds_toArray, List.set_cons_zero, List.set_cons_succ]
          refine wpAnyH_ready (rs := [1]) (by kernel_rfl) (by simp) ?_
          refine AllReadyH.cons (o := ⟨_, _, _, _, _, _⟩) rfl (fun K hK => ?_) AllReadyH.nil
          go_simp
          refine hK.out _ _ h0 (fun hHeld => ?_)
          clear hK K hHeld
          try simp only [Act.put, List.setIfInBounds_toArray, List.set_cons_zero, List.set_cons_succ]
          refine wpAnyH_take (i := 6) (oi := ⟨_, _, _, _, _, _⟩) (v := ?v158) rfl (by kernel_rfl) (by kernel_rfl) (by kernel_rfl) (fun _ _ _ h => h) (Or.inl ⟨by rfl, ?hy158⟩) h0 ?rest158
          case hy158 => (intro w hSw; (try dsimp only at hSw); go_simp; try with_reducible rfl)
          simp only [Act.put, List.setIfInBounds_toArray, List.set_cons_zero, List.set_cons_succ]
          refine wpAnyH_take (i := 14) (oi := ⟨_, _, _, _, _, _⟩) (v := ?v159) rfl (by kernel_rfl) (by kernel_rfl) (by kernel_rfl) (fun _ _ _ h => h) (Or.inl ⟨by rfl, ?hy159⟩) h0 ?rest159
          case hy159 => (intro w hSw; (try dsimp only at hSw); go_simp; try with_reducible rfl)
          simp only [Act.put, List.setIfInBounds_toArray, List.set_cons_zero, List.set_cons_succ]
          refine wpAnyH_ready (rs := [15]) (by kernel_rfl) (by simp) ?_
          refine AllReadyH.cons (o := ⟨_, _, _, _, _, _⟩) rfl (fun K hK => ?_) AllReadyH.nil
          go_simp
          refine hK.out _ _ (HL.out.1 _) (fun hHeld => ?_)
          clear hK K hHeld
          try simp only [Act.put, List.setIfInBounds_toArray, List.set_cons_zero, List.set_cons_succ]
          refine wpAnyH_take (i := 16) (oi := ⟨_, _, _, _, _, _⟩) (v := ?v160) rfl (by kernel_rfl) (by kernel_rfl) (by kernel_rfl) (fun _ _ _ h => h) (Or.inl ⟨by rfl, ?hy160⟩) (HL.out.1 _) ?rest160
          case hy160 => (intro w hSw; (try dsimp only at hSw); go_simp; try with_reducible rfl)
          simp only [Act.put, List.setIfInBounds_toArray, List.set_cons_zero, List.set_cons_succ]
          refine wpAnyH_ready (rs := [17]) (by kernel_rfl) (by simp) ?_
          refine AllReadyH.cons (o := ⟨_, _, _, _, _, _⟩) rfl (fun K hK => ?_) AllReadyH.nil
          go_simp
          refine hK.out _ _ (HL.out.2.1 _ _) (fun hHeld => ?_)
          clear hK K hHeld
          try simp only [Act.put, List.setIfInBounds_toArray, List.set_cons_zero, List.set_cons_succ]
          refine wpAnyH_done (by kernel_rfl) ?_ _
          go_wp2
          go_meet
          exact ⟨rfl, HL.out.2.1 _ _, HL.out.2.2 _ _⟩
  case rest =>
    obtain ⟨hs4, A⟩ := hcut
    subst hs4
    obtain ⟨hBr, rr⟩ := A.out
    obtain ⟨-, -, hb, hE, hT, -⟩ := H1.out
    have zN := cut_size name
    have zP := cut_size path
    obtain ⟨N1, hN1⟩ : ∃ s, name.extract 0 (min (name.size : Int) 100).toNat = s := ⟨_, rfl⟩
    obtain ⟨P1, hP1⟩ : ∃ s, path.extract 0 (min (path.size : Int) 100).toNat = s := ⟨_, rfl⟩
    rw [hN1] at rr zN
    rw [hP1] at rr zP
    have HC := (show Hid _ from And.intro hBr (And.intro (hb.below hBr) (And.intro (hE.below hBr) (And.intro (hT.below hBr) (And.intro rr (And.intro zN zP))))))
    obtain ⟨a0, a1, a2, af⟩ := row3 rr
    clear hBr rr hb hE hT hN1 hP1 A m0 m1 p0 p1 x0 x1 x2 xf H1 zP
    obtain ⟨B0, hB0⟩ : ∃ B, (decide (N1.size = 0) || decide (16 < N1.size)) = B := ⟨_, rfl⟩
    by_cases hz0 : N1.size = 0
    · obtain ⟨e1, e2⟩ := none_size hz0
      have hbt : true = B0 := by rw [← hB0]; simp [hz0]
      subst hbt
      have HB0 := (show Hid _ from hB0)
      clear hB0
      go_wp2_with fail
      clear e1 e2
      go_loopg [5, 6, 7] N1.size (fun gg s5 s6 _ wr => ∃ (k : Nat) (b : Bool), k ≤ N1.size ∧ N1.size - k ≤ gg ∧ s6 = .int .i64 k ∧ s5 = .bool b ∧ Aside (b = (true || !nameB (N1.data.toList.take k)) ∧ wr = wc))
      case atStart => exact ⟨0, true, Nat.zero_le _, by omega, rfl, rfl, by simp [nameB], rfl⟩
      case round =>
        obtain ⟨k, b, hk, hgg, rfl, rfl, A⟩ := hrel
        obtain ⟨hbk, rfl⟩ := A.out
        by_cases hlt : k < N1.size
        · obtain ⟨x, hx, hxl⟩ := kd_at hlt
          have z0 : (0 : Int) ≤ (k : Int) := by omega
          have z1 : (k : Int) < (N1.size : Int) := by omega
          have hst := bad_step hxl hbk
          obtain ⟨c, hcx⟩ : ∃ c : Int, (x.toNat : Int) = c := ⟨_, rfl⟩
          rw [hcx] at hst
          have HS := (show Hid _ from hst)
          clear hst hxl hbk A hz0
          cases b with
          | true =>
            go_wp2
            go_roundg (N1.size - (k + 1))
            case measure => omega
            case rel => exact ⟨k + 1, true, by omega, by omega, by go_num, rfl, HS.out, rfl⟩
          | false =>
            by_cases q1 : 97 ≤ c
            · by_cases q2 : c ≤ 122
              · have hin : inN c = true := by unfold inN; simp; omega
                have hst := HS.out
                rw [hin] at hst
                have HS' := (show Hid _ from hst)
                clear hst hin HS
                go_wp2
                go_roundg (N1.size - (k + 1))
                case measure => omega
                case rel => exact ⟨k + 1, false, by omega, by omega, by go_num, rfl, HS'.out, rfl⟩
              · have q3 : 48 ≤ c := by omega
                have q4 : ¬ c ≤ 57 := by omega
                have q5 : ¬ c = 95 := by omega
                have q6 : (c == 95) = false := by simpa using q5
                have hin : inN c = false := by unfold inN; simp; omega
                have hst := HS.out
                rw [hin] at hst
                have HS' := (show Hid _ from hst)
                clear hst hin HS
                go_wp2
                go_roundg (N1.size - (k + 1))
                case measure => omega
                case rel => exact ⟨k + 1, true, by omega, by omega, by go_num, rfl, HS'.out, rfl⟩
            · by_cases q3 : 48 ≤ c
              · by_cases q4 : c ≤ 57
                · have hin : inN c = true := by unfold inN; simp; omega
                  have hst := HS.out
                  rw [hin] at hst
                  have HS' := (show Hid _ from hst)
                  clear hst hin HS
                  go_wp2
                  go_roundg (N1.size - (k + 1))
                  case measure => omega
                  case rel => exact ⟨k + 1, false, by omega, by omega, by go_num, rfl, HS'.out, rfl⟩
                · by_cases q5 : c = 95
                  · have hin : inN c = true := by unfold inN; simp; omega
                    have hst := HS.out
                    rw [hin] at hst
                    have HS' := (show Hid _ from hst)
                    clear hst hin HS
                    go_wp2
                    go_roundg (N1.size - (k + 1))
                    case measure => omega
                    case rel => exact ⟨k + 1, false, by omega, by omega, by go_num, rfl, HS'.out, rfl⟩
                  · have q6 : (c == 95) = false := by simpa using q5
                    have hin : inN c = false := by unfold inN; simp; omega
                    have hst := HS.out
                    rw [hin] at hst
                    have HS' := (show Hid _ from hst)
                    clear hst hin HS
                    go_wp2
                    go_roundg (N1.size - (k + 1))
                    case measure => omega
                    case rel => exact ⟨k + 1, true, by omega, by omega, by go_num, rfl, HS'.out, rfl⟩
              · have q5 : ¬ c = 95 := by omega
                have q6 : (c == 95) = false := by simpa using q5
                have hin : inN c = false := by unfold inN; simp; omega
                have hst := HS.out
                rw [hin] at hst
                have HS' := (show Hid _ from hst)
                clear hst hin HS
                go_wp2
                go_roundg (N1.size - (k + 1))
                case measure => omega
                case rel => exact ⟨k + 1, true, by omega, by omega, by go_num, rfl, HS'.out, rfl⟩
        · have zk : ¬ (k : Int) < (N1.size : Int) := by omega
          have htk : N1.data.toList.take k = N1.data.toList := List.take_of_length_le (by simp; omega)
          rw [htk, ← HB0.out] at hbk
          have hok := ok_not hbk
          obtain ⟨-, hby, hE, hT, rr, zN, zP⟩ := HC.out
          have hpp := Parse6_any P1 wr hE (by omega)
          have hck := fun (w' : World) (h : Below wr.heap.size wr w') => Check_any N1 P1 u w' (hE.below h) (by omega) (by omega)
          clear hbk A hz0 hby hE hT rr zN zP htk
          cases b with
          | true =>
            rw [errC_bad hok] at hck
            cases hps : parsePP P1 with
            | none =>
              rw [hps] at hpp
              clear hps hok
              go_wp2_with fail
              refine hpp.mono ?_
              rintro e w2 ⟨hb2, u2, z2, rfl, -⟩
              obtain ⟨-, -, -, -, rr, -⟩ := HC.out
              have hc2 := hck w2 hb2
              obtain ⟨b0, b1, b2, bf⟩ := row3 ((hb2.block _ (lt_of_heap rr)).trans rr)
              have H2 := (show Hid _ from hb2)
              clear hpp hck rr a0 a1 a2 af hb2
              go_wp2_with fail
              refine hc2.mono ?_
              rintro e w3 ⟨v3, rfl, hv3, hb3⟩
              have h3 : Below wr.heap.size wr w3 := H2.out.trans (hb3.mono H2.out.size)
              have hcd := hv3.code (HC.out.2.2.1.below h3)
              obtain ⟨⟨u3, z3, rfl⟩, -⟩ : (∃ u z, v3 = .iface u z) ∧ Flt 5 w3 v3 := hv3
              have H3 := (show Hid _ from h3)
              clear hc2 h3 b0 b1 b2 bf hb3 H2
              go_wp2_with fail
              refine hcd.mono ?_
              rintro e w4 ⟨rfl, hb4⟩
              have H4 := (show Hid _ from hb4)
              clear hcd hb4
              go_wp2_with fail
              go_ret
              exact ⟨rfl, HC.out.1.trans ((H3.out.trans (H4.out.mono H3.out.size)).mono HC.out.1.size)⟩
            | some ps =>
              rw [hps] at hpp
              clear hps hok
              go_wp2_with fail
              refine hpp.mono ?_
              rintro e w2 ⟨hb2, v2, rfl, hst2⟩
              obtain ⟨sa, sc, rfl, -⟩ := hst2
              obtain ⟨-, -, -, -, rr, -⟩ := HC.out
              have hc2 := hck w2 hb2
              obtain ⟨b0, b1, b2, bf⟩ := row3 ((hb2.block _ (lt_of_heap rr)).trans rr)
              have H2 := (show Hid _ from hb2)
              clear hpp hck rr a0 a1 a2 af hb2
              go_wp2_with fail
              refine hc2.mono ?_
              rintro e w3 ⟨v3, rfl, hv3, hb3⟩
              have h3 : Below wr.heap.size wr w3 := H2.out.trans (hb3.mono H2.out.size)
              have hcd := hv3.code (HC.out.2.2.1.below h3)
              obtain ⟨⟨u3, z3, rfl⟩, -⟩ : (∃ u z, v3 = .iface u z) ∧ Flt 5 w3 v3 := hv3
              have H3 := (show Hid _ from h3)
              clear hc2 h3 b0 b1 b2 bf hb3 H2
              go_wp2_with fail
              refine hcd.mono ?_
              rintro e w4 ⟨rfl, hb4⟩
              have H4 := (show Hid _ from hb4)
              clear hcd hb4
              go_wp2_with fail
              go_ret
              exact ⟨rfl, HC.out.1.trans ((H3.out.trans (H4.out.mono H3.out.size)).mono HC.out.1.size)⟩
          | false =>
            cases hps : parsePP P1 with
            | none =>
              rw [errC_none hok hps] at hck
              rw [hps] at hpp
              have hkn : ∀ x : V, keyS P1 x = none := fun x => by unfold keyS; rw [hps]; rfl
              clear hps hok
              go_wp2_with fail
              refine hpp.mono ?_
              rintro e w2 ⟨hb2, u2, z2, rfl, hf2⟩
              have HF2 := (show Hid _ from hf2)
              clear hf2
              obtain ⟨-, -, -, -, rr, -⟩ := HC.out
              have hc2 := hck w2 hb2
              obtain ⟨b0, b1, b2, bf⟩ := row3 ((hb2.block _ (lt_of_heap rr)).trans rr)
              have H2 := (show Hid _ from hb2)
              clear hpp hck rr a0 a1 a2 af hb2
              go_wp2_with fail
              refine hc2.mono ?_
              rintro e w3 ⟨v3, rfl, hv3, hb3⟩
              have H3 := (show Hid _ from And.intro (H2.out.trans (hb3.mono H2.out.size)) hb3)
              clear hc2 b0 b1 b2 bf hb3 H2
              obtain ⟨⟨u3, z3, rfl⟩, hf3⟩ : (∃ u z, v3 = .iface u z) ∧ Flt 6 w3 v3 := hv3
              have HV3 := (show Hid _ from hf3)
              clear hf3
              obtain ⟨-, hby, hE, hT, rr, zN, zP⟩ := HC.out
              have hb3 := H3.out.1
              have r3 := (hb3.block _ (lt_of_heap rr)).trans rr
              have P0 := fun (w' : World) (h : Below w3.heap.size w3 w') => (row3 ((h.block _ (lt_of_heap r3)).trans r3)).1
              have P1' := fun (w' : World) (h : Below w3.heap.size w3 w') => (row3 ((h.block _ (lt_of_heap r3)).trans r3)).2.1
              have P2 := fun (w' : World) (h : Below w3.heap.size w3 w') => (row3 ((h.block _ (lt_of_heap r3)).trans r3)).2.2.1
              have hdoc := fun (w' : World) (h : Below w3.heap.size w3 w') => Doc_any _ bs w' ((hby.below hb3).below h) ((hT.below hb3).below h)
              have hky := fun (x : V) (l f : Value) (w' : World) (h : Below w3.heap.size w3 w') (hl : Lies 3 w' x l f) (hn : Nice 3 x) => Key_any 3 N1 P1 u x l f w' ((hE.below hb3).below h) (by omega) hl hn
              clear hby hE hT rr zN zP hb3 r3
              go_wp2_with fail
              have h0 : (fun w' : World => Below w3.heap.size w3 w') w3.drew := (Below.refl _ _).drew
              refine wp_region_held (S := fun w' => Below w3.heap.size w3 w') mixedE ?_
              refine wpAnyH_take (i := 0) (oi := ⟨_, _, _, _, _, _⟩) (v := ?v161) rfl (by kernel_rfl) (by kernel_rfl) (by kernel_rfl) (fun _ _ _ h => h) (Or.inl ⟨by rfl, ?hy161⟩) h0 ?rest161
              case hy161 => (intro w hSw; (try dsimp only at hSw); go_simp; try with_reducible rfl)
              simp only [Act.put, List.setIfInBounds_toArray, List.set_cons_zero, List.set_cons_succ]
              refine wpAnyH_take (i := 1) (oi := ⟨_, _, _, _, _, _⟩) (v := ?v162) rfl (by kernel_rfl) (by kernel_rfl) (by kernel_rfl) (fun _ _ _ h => h) (Or.inl ⟨by rfl, ?hy162⟩) h0 ?rest162
              case hy162 => (intro w hSw; (try dsimp only at hSw); go_simp; try with_reducible rfl)
              simp only [Act.put, List.setIfInBounds_toArray, List.set_cons_zero, List.set_cons_succ]
              clear P0 P1' P2
              refine wpAnyH_ready (rs := [2]) (by kernel_rfl) (by simp) ?_
              refine AllReadyH.cons (o := ⟨_, _, _, _, _, _⟩) rfl (fun K hK => ?_) AllReadyH.nil
              go_simp
              refine (hdoc w3.drew h0).mono ?_
              rintro e w4 ⟨x, lx, fx, rfl, ⟨hnx, hrx, hb4'⟩, -⟩
              obtain ⟨xa, xc, ya, yc, rfl, rfl⟩ := hrx.slices
              have hb34 : Below w3.heap.size w3 w4 := Below.drop_drewE hb4'
              have h4 : Below wr.heap.size wr w4 := H3.out.1.trans (hb34.mono H3.out.1.size)
              refine hK.out _ _ hb34 (fun hHeld => ?_)
              clear hK K hHeld
              try simp only [Act.put, List.setIfInBounds_toArray, List.set_cons_zero, List.set_cons_succ]
              refine wpAnyH_ready (rs := [3]) (by kernel_rfl) (by simp) ?_
              refine AllReadyH.cons (o := ⟨_, _, _, _, _, _⟩) rfl (fun K hK => ?_) AllReadyH.nil
              go_simp
              have hkey := hky x _ _ w4 hb34 (Rep.lies hrx) hnx
              clear hky
              rw [hkn x] at hkey
              have hkey' : Calls Tryz.prog 13 #[.agg #[.string N1, .string P1, .bool u], .agg #[.int .i64 x.kind, .int .i64 x.num, .string x.text, .slice xa x.list.length xc, .slice ya x.fields.length yc]] w4 fun e w' => e = .returned (.tuple #[.string ⟨#[]⟩, .bool false]) ∧ Below w4.heap.size w4 w' := hkey
              refine hkey'.mono ?_
              rintro e w5 ⟨rfl, hb5⟩
              have h5 : Below wr.heap.size wr w5 := h4.trans (hb5.mono h4.size)
              have hb35s : Below w3.heap.size w3 w5 := hb34.trans (hb5.mono hb34.size)
              have hb35 : Below w3.heap.size w3 w5 := hb34.trans (hb5.mono hb34.size)
              have hb25 : Below w2.heap.size w2 w5 := H3.out.2.trans (hb35.mono H3.out.2.size)
              have hE5 := HC.out.2.2.1.below h5
              have hc1 := Flt.code (Flt.below HV3.out hb35) hE5
              have hc2 := fun (w' : World) (hq : Below w5.heap.size w5 w') => Flt.code (Flt.below (Flt.below HF2.out hb25) hq) (hE5.below hq)
              clear hkey hkey' hdoc hnx hrx hb34 hb4' h4 hkn hb35 hb25 hE5 hb5
              have h35 : Below w3.heap.size w3 w5 := hb35s
              refine hK.out _ _ h35 (fun hHeld => ?_)
              clear hK K hHeld
              try simp only [Act.put, List.setIfInBounds_toArray, List.set_cons_zero, List.set_cons_succ]
              refine wpAnyH_take (i := 4) (oi := ⟨_, _, _, _, _, _⟩) (v := ?v163) rfl (by kernel_rfl) (by kernel_rfl) (by kernel_rfl) (fun _ _ _ h => h) (Or.inl ⟨by rfl, ?hy163⟩) h35 ?rest163
              case hy163 => (intro w hSw; (try dsimp only at hSw); go_simp; try with_reducible rfl)
              simp only [Act.put, List.setIfInBounds_toArray, List.set_cons_zero, List.set_cons_succ]
              refine wpAnyH_take (i := 5) (oi := ⟨_, _, _, _, _, _⟩) (v := ?v164) rfl (by kernel_rfl) (by kernel_rfl) (by kernel_rfl) (fun _ _ _ h => h) (Or.inl ⟨by rfl, ?hy164⟩) h35 ?rest164
              case hy164 => (intro w hSw; (try dsimp only at hSw); go_simp; try with_reducible rfl)
              simp only [Act.put, List.setIfInBounds_toArray, List.set_cons_zero, List.set_cons_succ]
              refine wpAnyH_take (i := 6) (oi := ⟨_, _, _, _, _, _⟩) (v := ?v165) rfl (by kernel_rfl) (by kernel_rfl) (by kernel_rfl) (fun _ _ _ h => h) (Or.inl ⟨by rfl, ?hy165⟩) h35 ?rest165
              case hy165 => (intro w hSw; (try dsimp only at hSw); go_simp; try with_reducible rfl)
              simp only [Act.put, List.setIfInBounds_toArray, List.set_cons_zero, List.set_cons_succ]
              refine wpAnyH_ready (rs := [7]) (by kernel_rfl) (by simp) ?_
              refine AllReadyH.cons (o := ⟨_, _, _, _, _, _⟩) rfl (fun K hK => ?_) AllReadyH.nil
              go_simp
              refine hK.out _ _ h35 (fun hHeld => ?_)
              clear hK K hHeld
              try simp only [Act.put, List.setIfInBounds_toArray, List.set_cons_zero, List.set_cons_succ]
              refine wpAnyH_ready (rs := [8]) (by kernel_rfl) (by simp) ?_
              refine AllReadyH.cons (o := ⟨_, _, _, _, _, _⟩) rfl (fun K hK => ?_) AllReadyH.nil
              go_simp
              refine hK.out _ _ h35 (fun hHeld => ?_)
              clear hK K hHeld
              try simp only [Act.put, List.setIfInBounds_toArray, List.set_cons_zero, List.set_cons_succ]
              have H5 := (show Hid _ from h5)
              clear h5 h35 h0
              refine wpAnyH_done (by kernel_rfl) ?_ _
              go_wp2_with fail
              refine hc1.mono ?_
              rintro e w6 ⟨rfl, hb6⟩
              have hc3 := hc2 w6 hb6
              have H6 := (show Hid _ from hb6)
              clear hc1 hc2 hb6
              go_wp2_with fail
              refine hc3.mono ?_
              rintro e w7 ⟨rfl, hb7⟩
              have H7 := (show Hid _ from hb7)
              clear hc3 hb7
              go_wp2_with fail
              go_ret
              have h67 := H6.out.trans (H7.out.mono H6.out.size)
              exact ⟨rfl, HC.out.1.trans ((H5.out.trans (h67.mono H5.out.size)).mono HC.out.1.size)⟩
            | some ps =>
              rw [errC_some hok hps] at hck
              rw [hps] at hpp
              clear hps hok
              go_wp2_with fail
              refine hpp.mono ?_
              rintro e w2 ⟨hb2, v2, rfl, hst2⟩
              obtain ⟨sa, sc, rfl, -⟩ := hst2
              obtain ⟨-, -, -, -, rr, -⟩ := HC.out
              have hc2 := hck w2 hb2
              obtain ⟨b0, b1, b2, bf⟩ := row3 ((hb2.block _ (lt_of_heap rr)).trans rr)
              have H2 := (show Hid _ from hb2)
              clear hpp hck rr a0 a1 a2 af hb2
              go_wp2_with fail
              refine hc2.mono ?_
              rintro e w3 ⟨v3, rfl, hv3, hb3⟩
              have H3 := (show Hid _ from And.intro (H2.out.trans (hb3.mono H2.out.size)) hb3)
              clear hc2 b0 b1 b2 bf hb3 H2
              obtain rfl : v3 = .nilIface := hv3
              obtain ⟨-, hby, hE, hT, rr, zN, zP⟩ := HC.out
              have hb3 := H3.out.1
              have r3 := (hb3.block _ (lt_of_heap rr)).trans rr
              have P0 := fun (w' : World) (h : Below w3.heap.size w3 w') => (row3 ((h.block _ (lt_of_heap r3)).trans r3)).1
              have P1' := fun (w' : World) (h : Below w3.heap.size w3 w') => (row3 ((h.block _ (lt_of_heap r3)).trans r3)).2.1
              have P2 := fun (w' : World) (h : Below w3.heap.size w3 w') => (row3 ((h.block _ (lt_of_heap r3)).trans r3)).2.2.1
              have hdoc := fun (w' : World) (h : Below w3.heap.size w3 w') => Doc_any _ bs w' ((hby.below hb3).below h) ((hT.below hb3).below h)
              have hky := fun (x : V) (l f : Value) (w' : World) (h : Below w3.heap.size w3 w') (hl : Lies 3 w' x l f) (hn : Nice 3 x) => Key_any 3 N1 P1 u x l f w' ((hE.below hb3).below h) (by omega) hl hn
              clear hby hE hT rr zN zP hb3 r3
              go_wp2_with fail
              have h0 : (fun w' : World => Below w3.heap.size w3 w') w3.drew := (Below.refl _ _).drew
              refine wp_region_held (S := fun w' => Below w3.heap.size w3 w') mixedE ?_
              refine wpAnyH_take (i := 0) (oi := ⟨_, _, _, _, _, _⟩) (v := ?v166) rfl (by kernel_rfl) (by kernel_rfl) (by kernel_rfl) (fun _ _ _ h => h) (Or.inl ⟨by rfl, ?hy166⟩) h0 ?rest166
              case hy166 => (intro w hSw; (try dsimp only at hSw); go_simp; try with_reducible rfl)
              simp only [Act.put, List.setIfInBounds_toArray, List.set_cons_zero, List.set_cons_succ]
              refine wpAnyH_take (i := 1) (oi := ⟨_, _, _, _, _, _⟩) (v := ?v167) rfl (by kernel_rfl) (by kernel_rfl) (by kernel_rfl) (fun _ _ _ h => h) (Or.inl ⟨by rfl, ?hy167⟩) h0 ?rest167
              case hy167 => (intro w hSw; (try dsimp only at hSw); go_simp; try with_reducible rfl)
              simp only [Act.put, List.setIfInBounds_toArray, List.set_cons_zero, List.set_cons_succ]
              clear P0 P1' P2
              refine wpAnyH_ready (rs := [2]) (by kernel_rfl) (by simp) ?_
              refine AllReadyH.cons (o := ⟨_, _, _, _, _, _⟩) rfl (fun K hK => ?_) AllReadyH.nil
              go_simp
              refine (hdoc w3.drew h0).mono ?_
              rintro e w4 ⟨x, lx, fx, rfl, ⟨hnx, hrx, hb4'⟩, -⟩
              obtain ⟨xa, xc, ya, yc, rfl, rfl⟩ := hrx.slices
              have hb34 : Below w3.heap.size w3 w4 := Below.drop_drewE hb4'
              have h4 : Below wr.heap.size wr w4 := H3.out.1.trans (hb34.mono H3.out.1.size)
              refine hK.out _ _ hb34 (fun hHeld => ?_)
              clear hK K hHeld
              try simp only [Act.put, List.setIfInBounds_toArray, List.set_cons_zero, List.set_cons_succ]
              refine wpAnyH_ready (rs := [3]) (by kernel_rfl) (by simp) ?_
              refine AllReadyH.cons (o := ⟨_, _, _, _, _, _⟩) rfl (fun K hK => ?_) AllReadyH.nil
              go_simp
              have hkey := hky x _ _ w4 hb34 (Rep.lies hrx) hnx
              clear hky
              have hkey' := key_lit hkey rfl rfl
              obtain ⟨kx, hkx⟩ : ∃ K, (keyS P1 x).getD ⟨#[]⟩ = K := ⟨_, rfl⟩
              obtain ⟨bk, hbk⟩ : ∃ b, (keyS P1 x).isSome = b := ⟨_, rfl⟩
              rw [hkx, hbk] at hkey'
              refine hkey'.mono ?_
              rintro e w5 ⟨rfl, hb5⟩
              have h5 : Below wr.heap.size wr w5 := h4.trans (hb5.mono h4.size)
              have hb35s : Below w3.heap.size w3 w5 := hb34.trans (hb5.mono hb34.size)
              have hc1 : Calls Tryz.prog 12 #[.nilIface] w5 fun e w' => e = .returned (.int .i64 0) ∧ Below w5.heap.size w5 w' := (Code_none w5).mono fun e w' k => ⟨k.1, by rw [k.2]; exact Below.refl _ _⟩
              have hc2 := fun (w' : World) (_ : Below w5.heap.size w5 w') => (show Calls Tryz.prog 12 #[.nilIface] w' fun e w'' => e = .returned (.int .i64 0) ∧ Below w'.heap.size w' w'' from (Code_none w').mono fun e w'' k => ⟨k.1, by rw [k.2]; exact Below.refl _ _⟩)
              clear hkey hkey' hdoc hnx hrx hb34 hb4' h4 hkx hbk hb5
              have h35 : Below w3.heap.size w3 w5 := hb35s
              refine hK.out _ _ h35 (fun hHeld => ?_)
              clear hK K hHeld
              try simp only [Act.put, List.setIfInBounds_toArray, List.set_cons_zero, List.set_cons_succ]
              refine wpAnyH_take (i := 4) (oi := ⟨_, _, _, _, _, _⟩) (v := ?v168) rfl (by kernel_rfl) (by kernel_rfl) (by kernel_rfl) (fun _ _ _ h => h) (Or.inl ⟨by rfl, ?hy168⟩) h35 ?rest168
              case hy168 => (intro w hSw; (try dsimp only at hSw); go_simp; try with_reducible rfl)
              simp only [Act.put, List.setIfInBounds_toArray, List.set_cons_zero, List.set_cons_succ]
              refine wpAnyH_take (i := 5) (oi := ⟨_, _, _, _, _, _⟩) (v := ?v169) rfl (by kernel_rfl) (by kernel_rfl) (by kernel_rfl) (fun _ _ _ h => h) (Or.inl ⟨by rfl, ?hy169⟩) h35 ?rest169
              case hy169 => (intro w hSw; (try dsimp only at hSw); go_simp; try with_reducible rfl)
              simp only [Act.put, List.setIfInBounds_toArray, List.set_cons_zero, List.set_cons_succ]
              refine wpAnyH_take (i := 6) (oi := ⟨_, _, _, _, _, _⟩) (v := ?v170) rfl (by kernel_rfl) (by kernel_rfl) (by kernel_rfl) (fun _ _ _ h => h) (Or.inl ⟨by rfl, ?hy170⟩) h35 ?rest170
              case hy170 => (intro w hSw; (try dsimp only at hSw); go_simp; try with_reducible rfl)
              simp only [Act.put, List.setIfInBounds_toArray, List.set_cons_zero, List.set_cons_succ]
              refine wpAnyH_ready (rs := [7]) (by kernel_rfl) (by simp) ?_
              refine AllReadyH.cons (o := ⟨_, _, _, _, _, _⟩) rfl (fun K hK => ?_) AllReadyH.nil
              go_simp
              refine hK.out _ _ h35 (fun hHeld => ?_)
              clear hK K hHeld
              try simp only [Act.put, List.setIfInBounds_toArray, List.set_cons_zero, List.set_cons_succ]
              refine wpAnyH_ready (rs := [8]) (by kernel_rfl) (by simp) ?_
              refine AllReadyH.cons (o := ⟨_, _, _, _, _, _⟩) rfl (fun K hK => ?_) AllReadyH.nil
              go_simp
              refine hK.out _ _ h35 (fun hHeld => ?_)
              clear hK K hHeld
              try simp only [Act.put, List.setIfInBounds_toArray, List.set_cons_zero, List.set_cons_succ]
              have H5 := (show Hid _ from h5)
              clear h5 h35 h0
              refine wpAnyH_done (by kernel_rfl) ?_ _
              go_wp2_with fail
              refine hc1.mono ?_
              rintro e w6 ⟨rfl, hb6⟩
              have hc3 := hc2 w6 hb6
              have H6 := (show Hid _ from hb6)
              clear hc1 hc2 hb6
              go_wp2_with fail
              refine hc3.mono ?_
              rintro e w7 ⟨rfl, hb7⟩
              have H7 := (show Hid _ from hb7)
              clear hc3 hb7
              go_wp2_with fail
              go_ret
              have h67 := H6.out.trans (H7.out.mono H6.out.size)
              exact ⟨rfl, HC.out.1.trans ((H5.out.trans (h67.mono H5.out.size)).mono HC.out.1.size)⟩
    · obtain ⟨e1, e2⟩ := some_size hz0
      by_cases hz16 : (16 : Int) < (N1.size : Int)
      · have hbt : true = B0 := by rw [← hB0]; simp; omega
        subst hbt
        have HB0 := (show Hid _ from hB0)
        clear hB0
        go_wp2_with fail
        clear e1 e2
        go_loopg [5, 6, 7] N1.size (fun gg s5 s6 _ wr => ∃ (k : Nat) (b : Bool), k ≤ N1.size ∧ N1.size - k ≤ gg ∧ s6 = .int .i64 k ∧ s5 = .bool b ∧ Aside (b = (true || !nameB (N1.data.toList.take k)) ∧ wr = wc))
        case atStart => exact ⟨0, true, Nat.zero_le _, by omega, rfl, rfl, by simp [nameB], rfl⟩
        case round =>
          obtain ⟨k, b, hk, hgg, rfl, rfl, A⟩ := hrel
          obtain ⟨hbk, rfl⟩ := A.out
          by_cases hlt : k < N1.size
          · obtain ⟨x, hx, hxl⟩ := kd_at hlt
            have z0 : (0 : Int) ≤ (k : Int) := by omega
            have z1 : (k : Int) < (N1.size : Int) := by omega
            have hst := bad_step hxl hbk
            obtain ⟨c, hcx⟩ : ∃ c : Int, (x.toNat : Int) = c := ⟨_, rfl⟩
            rw [hcx] at hst
            have HS := (show Hid _ from hst)
            clear hst hxl hbk A hz0
            cases b with
            | true =>
              go_wp2
              go_roundg (N1.size - (k + 1))
              case measure => omega
              case rel => exact ⟨k + 1, true, by omega, by omega, by go_num, rfl, HS.out, rfl⟩
            | false =>
              by_cases q1 : 97 ≤ c
              · by_cases q2 : c ≤ 122
                · have hin : inN c = true := by unfold inN; simp; omega
                  have hst := HS.out
                  rw [hin] at hst
                  have HS' := (show Hid _ from hst)
                  clear hst hin HS
                  go_wp2
                  go_roundg (N1.size - (k + 1))
                  case measure => omega
                  case rel => exact ⟨k + 1, false, by omega, by omega, by go_num, rfl, HS'.out, rfl⟩
                · have q3 : 48 ≤ c := by omega
                  have q4 : ¬ c ≤ 57 := by omega
                  have q5 : ¬ c = 95 := by omega
                  have q6 : (c == 95) = false := by simpa using q5
                  have hin : inN c = false := by unfold inN; simp; omega
                  have hst := HS.out
                  rw [hin] at hst
                  have HS' := (show Hid _ from hst)
                  clear hst hin HS
                  go_wp2
                  go_roundg (N1.size - (k + 1))
                  case measure => omega
                  case rel => exact ⟨k + 1, true, by omega, by omega, by go_num, rfl, HS'.out, rfl⟩
              · by_cases q3 : 48 ≤ c
                · by_cases q4 : c ≤ 57
                  · have hin : inN c = true := by unfold inN; simp; omega
                    have hst := HS.out
                    rw [hin] at hst
                    have HS' := (show Hid _ from hst)
                    clear hst hin HS
                    go_wp2
                    go_roundg (N1.size - (k + 1))
                    case measure => omega
                    case rel => exact ⟨k + 1, false, by omega, by omega, by go_num, rfl, HS'.out, rfl⟩
                  · by_cases q5 : c = 95
                    · have hin : inN c = true := by unfold inN; simp; omega
                      have hst := HS.out
                      rw [hin] at hst
                      have HS' := (show Hid _ from hst)
                      clear hst hin HS
                      go_wp2
                      go_roundg (N1.size - (k + 1))
                      case measure => omega
                      case rel => exact ⟨k + 1, false, by omega, by omega, by go_num, rfl, HS'.out, rfl⟩
                    · have q6 : (c == 95) = false := by simpa using q5
                      have hin : inN c = false := by unfold inN; simp; omega
                      have hst := HS.out
                      rw [hin] at hst
                      have HS' := (show Hid _ from hst)
                      clear hst hin HS
                      go_wp2
                      go_roundg (N1.size - (k + 1))
                      case measure => omega
                      case rel => exact ⟨k + 1, true, by omega, by omega, by go_num, rfl, HS'.out, rfl⟩
                · have q5 : ¬ c = 95 := by omega
                  have q6 : (c == 95) = false := by simpa using q5
                  have hin : inN c = false := by unfold inN; simp; omega
                  have hst := HS.out
                  rw [hin] at hst
                  have HS' := (show Hid _ from hst)
                  clear hst hin HS
                  go_wp2
                  go_roundg (N1.size - (k + 1))
                  case measure => omega
                  case rel => exact ⟨k + 1, true, by omega, by omega, by go_num, rfl, HS'.out, rfl⟩
          · have zk : ¬ (k : Int) < (N1.size : Int) := by omega
            have htk : N1.data.toList.take k = N1.data.toList := List.take_of_length_le (by simp; omega)
            rw [htk, ← HB0.out] at hbk
            have hok := ok_not hbk
            obtain ⟨-, hby, hE, hT, rr, zN, zP⟩ := HC.out
            have hpp := Parse6_any P1 wr hE (by omega)
            have hck := fun (w' : World) (h : Below wr.heap.size wr w') => Check_any N1 P1 u w' (hE.below h) (by omega) (by omega)
            clear hbk A hz0 hby hE hT rr zN zP htk
            cases b with
            | true =>
              rw [errC_bad hok] at hck
              cases hps : parsePP P1 with
              | none =>
                rw [hps] at hpp
                clear hps hok
                go_wp2_with fail
                refine hpp.mono ?_
                rintro e w2 ⟨hb2, u2, z2, rfl, -⟩
                obtain ⟨-, -, -, -, rr, -⟩ := HC.out
                have hc2 := hck w2 hb2
                obtain ⟨b0, b1, b2, bf⟩ := row3 ((hb2.block _ (lt_of_heap rr)).trans rr)
                have H2 := (show Hid _ from hb2)
                clear hpp hck rr a0 a1 a2 af hb2
                go_wp2_with fail
                refine hc2.mono ?_
                rintro e w3 ⟨v3, rfl, hv3, hb3⟩
                have h3 : Below wr.heap.size wr w3 := H2.out.trans (hb3.mono H2.out.size)
                have hcd := hv3.code (HC.out.2.2.1.below h3)
                obtain ⟨⟨u3, z3, rfl⟩, -⟩ : (∃ u z, v3 = .iface u z) ∧ Flt 5 w3 v3 := hv3
                have H3 := (show Hid _ from h3)
                clear hc2 h3 b0 b1 b2 bf hb3 H2
                go_wp2_with fail
                refine hcd.mono ?_
                rintro e w4 ⟨rfl, hb4⟩
                have H4 := (show Hid _ from hb4)
                clear hcd hb4
                go_wp2_with fail
                go_ret
                exact ⟨rfl, HC.out.1.trans ((H3.out.trans (H4.out.mono H3.out.size)).mono HC.out.1.size)⟩
              | some ps =>
                rw [hps] at hpp
                clear hps hok
                go_wp2_with fail
                refine hpp.mono ?_
                rintro e w2 ⟨hb2, v2, rfl, hst2⟩
                obtain ⟨sa, sc, rfl, -⟩ := hst2
                obtain ⟨-, -, -, -, rr, -⟩ := HC.out
                have hc2 := hck w2 hb2
                obtain ⟨b0, b1, b2, bf⟩ := row3 ((hb2.block _ (lt_of_heap rr)).trans rr)
                have H2 := (show Hid _ from hb2)
                clear hpp hck rr a0 a1 a2 af hb2
                go_wp2_with fail
                refine hc2.mono ?_
                rintro e w3 ⟨v3, rfl, hv3, hb3⟩
                have h3 : Below wr.heap.size wr w3 := H2.out.trans (hb3.mono H2.out.size)
                have hcd := hv3.code (HC.out.2.2.1.below h3)
                obtain ⟨⟨u3, z3, rfl⟩, -⟩ : (∃ u z, v3 = .iface u z) ∧ Flt 5 w3 v3 := hv3
                have H3 := (show Hid _ from h3)
                clear hc2 h3 b0 b1 b2 bf hb3 H2
                go_wp2_with fail
                refine hcd.mono ?_
                rintro e w4 ⟨rfl, hb4⟩
                have H4 := (show Hid _ from hb4)
                clear hcd hb4
                go_wp2_with fail
                go_ret
                exact ⟨rfl, HC.out.1.trans ((H3.out.trans (H4.out.mono H3.out.size)).mono HC.out.1.size)⟩
            | false =>
              cases hps : parsePP P1 with
              | none =>
                rw [errC_none hok hps] at hck
                rw [hps] at hpp
                have hkn : ∀ x : V, keyS P1 x = none := fun x => by unfold keyS; rw [hps]; rfl
                clear hps hok
                go_wp2_with fail
                refine hpp.mono ?_
                rintro e w2 ⟨hb2, u2, z2, rfl, hf2⟩
                have HF2 := (show Hid _ from hf2)
                clear hf2
                obtain ⟨-, -, -, -, rr, -⟩ := HC.out
                have hc2 := hck w2 hb2
                obtain ⟨b0, b1, b2, bf⟩ := row3 ((hb2.block _ (lt_of_heap rr)).trans rr)
                have H2 := (show Hid _ from hb2)
                clear hpp hck rr a0 a1 a2 af hb2
                go_wp2_with fail
                refine hc2.mono ?_
                rintro e w3 ⟨v3, rfl, hv3, hb3⟩
                have H3 := (show Hid _ from And.intro (H2.out.trans (hb3.mono H2.out.size)) hb3)
                clear hc2 b0 b1 b2 bf hb3 H2
                obtain ⟨⟨u3, z3, rfl⟩, hf3⟩ : (∃ u z, v3 = .iface u z) ∧ Flt 6 w3 v3 := hv3
                have HV3 := (show Hid _ from hf3)
                clear hf3
                obtain ⟨-, hby, hE, hT, rr, zN, zP⟩ := HC.out
                have hb3 := H3.out.1
                have r3 := (hb3.block _ (lt_of_heap rr)).trans rr
                have P0 := fun (w' : World) (h : Below w3.heap.size w3 w') => (row3 ((h.block _ (lt_of_heap r3)).trans r3)).1
                have P1' := fun (w' : World) (h : Below w3.heap.size w3 w') => (row3 ((h.block _ (lt_of_heap r3)).trans r3)).2.1
                have P2 := fun (w' : World) (h : Below w3.heap.size w3 w') => (row3 ((h.block _ (lt_of_heap r3)).trans r3)).2.2.1
                have hdoc := fun (w' : World) (h : Below w3.heap.size w3 w') => Doc_any _ bs w' ((hby.below hb3).below h) ((hT.below hb3).below h)
                have hky := fun (x : V) (l f : Value) (w' : World) (h : Below w3.heap.size w3 w') (hl : Lies 3 w' x l f) (hn : Nice 3 x) => Key_any 3 N1 P1 u x l f w' ((hE.below hb3).below h) (by omega) hl hn
                clear hby hE hT rr zN zP hb3 r3
                go_wp2_with fail
                have h0 : (fun w' : World => Below w3.heap.size w3 w') w3.drew := (Below.refl _ _).drew
                refine wp_region_held (S := fun w' => Below w3.heap.size w3 w') mixedE ?_
                refine wpAnyH_take (i := 0) (oi := ⟨_, _, _, _, _, _⟩) (v := ?v171) rfl (by kernel_rfl) (by kernel_rfl) (by kernel_rfl) (fun _ _ _ h => h) (Or.inl ⟨by rfl, ?hy171⟩) h0 ?rest171
                case hy171 => (intro w hSw; (try dsimp only at hSw); go_simp; try with_reducible rfl)
                simp only [Act.put, List.setIfInBounds_toArray, List.set_cons_zero, List.set_cons_succ]
                refine wpAnyH_take (i := 1) (oi := ⟨_, _, _, _, _, _⟩) (v := ?v172) rfl (by kernel_rfl) (by kernel_rfl) (by kernel_rfl) (fun _ _ _ h => h) (Or.inl ⟨by rfl, ?hy172⟩) h0 ?rest172
                case hy172 => (intro w hSw; (try dsimp only at hSw); go_simp; try with_reducible rfl)
                simp only [Act.put, List.setIfInBounds_toArray, List.set_cons_zero, List.set_cons_succ]
                clear P0 P1' P2
                refine wpAnyH_ready (rs := [2]) (by kernel_rfl) (by simp) ?_
                refine AllReadyH.cons (o := ⟨_, _, _, _, _, _⟩) rfl (fun K hK => ?_) AllReadyH.nil
                go_simp
                refine (hdoc w3.drew h0).mono ?_
                rintro e w4 ⟨x, lx, fx, rfl, ⟨hnx, hrx, hb4'⟩, -⟩
                obtain ⟨xa, xc, ya, yc, rfl, rfl⟩ := hrx.slices
                have hb34 : Below w3.heap.size w3 w4 := Below.drop_drewE hb4'
                have h4 : Below wr.heap.size wr w4 := H3.out.1.trans (hb34.mono H3.out.1.size)
                refine hK.out _ _ hb34 (fun hHeld => ?_)
                clear hK K hHeld
                try simp only [Act.put, List.setIfInBounds_toArray, List.set_cons_zero, List.set_cons_succ]
                refine wpAnyH_ready (rs := [3]) (by kernel_rfl) (by simp) ?_
                refine AllReadyH.cons (o := ⟨_, _, _, _, _, _⟩) rfl (fun K hK => ?_) AllReadyH.nil
                go_simp
                have hkey := hky x _ _ w4 hb34 (Rep.lies hrx) hnx
                clear hky
                rw [hkn x] at hkey
                have hkey' : Calls Tryz.prog 13 #[.agg #[.string N1, .string P1, .bool u], .agg #[.int .i64 x.kind, .int .i64 x.num, .string x.text, .slice xa x.list.length xc, .slice ya x.fields.length yc]] w4 fun e w' => e = .returned (.tuple #[.string ⟨#[]⟩, .bool false]) ∧ Below w4.heap.size w4 w' := hkey
                refine hkey'.mono ?_
                rintro e w5 ⟨rfl, hb5⟩
                have h5 : Below wr.heap.size wr w5 := h4.trans (hb5.mono h4.size)
                have hb35s : Below w3.heap.size w3 w5 := hb34.trans (hb5.mono hb34.size)
                have hb35 : Below w3.heap.size w3 w5 := hb34.trans (hb5.mono hb34.size)
                have hb25 : Below w2.heap.size w2 w5 := H3.out.2.trans (hb35.mono H3.out.2.size)
                have hE5 := HC.out.2.2.1.below h5
                have hc1 := Flt.code (Flt.below HV3.out hb35) hE5
                have hc2 := fun (w' : World) (hq : Below w5.heap.size w5 w') => Flt.code (Flt.below (Flt.below HF2.out hb25) hq) (hE5.below hq)
                clear hkey hkey' hdoc hnx hrx hb34 hb4' h4 hkn hb35 hb25 hE5 hb5
                have h35 : Below w3.heap.size w3 w5 := hb35s
                refine hK.out _ _ h35 (fun hHeld => ?_)
                clear hK K hHeld
                try simp only [Act.put, List.setIfInBounds_toArray, List.set_cons_zero, List.set_cons_succ]
                refine wpAnyH_take (i := 4) (oi := ⟨_, _, _, _, _, _⟩) (v := ?v173) rfl (by kernel_rfl) (by kernel_rfl) (by kernel_rfl) (fun _ _ _ h => h) (Or.inl ⟨by rfl, ?hy173⟩) h35 ?rest173
                case hy173 => (intro w hSw; (try dsimp only at hSw); go_simp; try with_reducible rfl)
                simp only [Act.put, List.setIfInBounds_toArray, List.set_cons_zero, List.set_cons_succ]
                refine wpAnyH_take (i := 5) (oi := ⟨_, _, _, _, _, _⟩) (v := ?v174) rfl (by kernel_rfl) (by kernel_rfl) (by kernel_rfl) (fun _ _ _ h => h) (Or.inl ⟨by rfl, ?hy174⟩) h35 ?rest174
                case hy174 => (intro w hSw; (try dsimp only at hSw); go_simp; try with_reducible rfl)
                simp only [Act.put, List.setIfInBounds_toArray, List.set_cons_zero, List.set_cons_succ]
                refine wpAnyH_take (i := 6) (oi := ⟨_, _, _, _, _, _⟩) (v := ?v175) rfl (by kernel_rfl) (by kernel_rfl) (by kernel_rfl) (fun _ _ _ h => h) (Or.inl ⟨by rfl, ?hy175⟩) h35 ?rest175
                case hy175 => (intro w hSw; (try dsimp only at hSw); go_simp; try with_reducible rfl)
                simp only [Act.put, List.setIfInBounds_toArray, List.set_cons_zero, List.set_cons_succ]
                refine wpAnyH_ready (rs := [7]) (by kernel_rfl) (by simp) ?_
                refine AllReadyH.cons (o := ⟨_, _, _, _, _, _⟩) rfl (fun K hK => ?_) AllReadyH.nil
                go_simp
                refine hK.out _ _ h35 (fun hHeld => ?_)
                clear hK K hHeld
                try simp only [Act.put, List.setIfInBounds_toArray, List.set_cons_zero, List.set_cons_succ]
                refine wpAnyH_ready (rs := [8]) (by kernel_rfl) (by simp) ?_
                refine AllReadyH.cons (o := ⟨_, _, _, _, _, _⟩) rfl (fun K hK => ?_) AllReadyH.nil
                go_simp
                refine hK.out _ _ h35 (fun hHeld => ?_)
                clear hK K hHeld
                try simp only [Act.put, List.setIfInBounds_toArray, List.set_cons_zero, List.set_cons_succ]
                have H5 := (show Hid _ from h5)
                clear h5 h35 h0
                refine wpAnyH_done (by kernel_rfl) ?_ _
                go_wp2_with fail
                refine hc1.mono ?_
                rintro e w6 ⟨rfl, hb6⟩
                have hc3 := hc2 w6 hb6
                have H6 := (show Hid _ from hb6)
                clear hc1 hc2 hb6
                go_wp2_with fail
                refine hc3.mono ?_
                rintro e w7 ⟨rfl, hb7⟩
                have H7 := (show Hid _ from hb7)
                clear hc3 hb7
                go_wp2_with fail
                go_ret
                have h67 := H6.out.trans (H7.out.mono H6.out.size)
                exact ⟨rfl, HC.out.1.trans ((H5.out.trans (h67.mono H5.out.size)).mono HC.out.1.size)⟩
              | some ps =>
                rw [errC_some hok hps] at hck
                rw [hps] at hpp
                clear hps hok
                go_wp2_with fail
                refine hpp.mono ?_
                rintro e w2 ⟨hb2, v2, rfl, hst2⟩
                obtain ⟨sa, sc, rfl, -⟩ := hst2
                obtain ⟨-, -, -, -, rr, -⟩ := HC.out
                have hc2 := hck w2 hb2
                obtain ⟨b0, b1, b2, bf⟩ := row3 ((hb2.block _ (lt_of_heap rr)).trans rr)
                have H2 := (show Hid _ from hb2)
                clear hpp hck rr a0 a1 a2 af hb2
                go_wp2_with fail
                refine hc2.mono ?_
                rintro e w3 ⟨v3, rfl, hv3, hb3⟩
                have H3 := (show Hid _ from And.intro (H2.out.trans (hb3.mono H2.out.size)) hb3)
                clear hc2 b0 b1 b2 bf hb3 H2
                obtain rfl : v3 = .nilIface := hv3
                obtain ⟨-, hby, hE, hT, rr, zN, zP⟩ := HC.out
                have hb3 := H3.out.1
                have r3 := (hb3.block _ (lt_of_heap rr)).trans rr
                have P0 := fun (w' : World) (h : Below w3.heap.size w3 w') => (row3 ((h.block _ (lt_of_heap r3)).trans r3)).1
                have P1' := fun (w' : World) (h : Below w3.heap.size w3 w') => (row3 ((h.block _ (lt_of_heap r3)).trans r3)).2.1
                have P2 := fun (w' : World) (h : Below w3.heap.size w3 w') => (row3 ((h.block _ (lt_of_heap r3)).trans r3)).2.2.1
                have hdoc := fun (w' : World) (h : Below w3.heap.size w3 w') => Doc_any _ bs w' ((hby.below hb3).below h) ((hT.below hb3).below h)
                have hky := fun (x : V) (l f : Value) (w' : World) (h : Below w3.heap.size w3 w') (hl : Lies 3 w' x l f) (hn : Nice 3 x) => Key_any 3 N1 P1 u x l f w' ((hE.below hb3).below h) (by omega) hl hn
                clear hby hE hT rr zN zP hb3 r3
                go_wp2_with fail
                have h0 : (fun w' : World => Below w3.heap.size w3 w') w3.drew := (Below.refl _ _).drew
                refine wp_region_held (S := fun w' => Below w3.heap.size w3 w') mixedE ?_
                refine wpAnyH_take (i := 0) (oi := ⟨_, _, _, _, _, _⟩) (v := ?v176) rfl (by kernel_rfl) (by kernel_rfl) (by kernel_rfl) (fun _ _ _ h => h) (Or.inl ⟨by rfl, ?hy176⟩) h0 ?rest176
                case hy176 => (intro w hSw; (try dsimp only at hSw); go_simp; try with_reducible rfl)
                simp only [Act.put, List.setIfInBounds_toArray, List.set_cons_zero, List.set_cons_succ]
                refine wpAnyH_take (i := 1) (oi := ⟨_, _, _, _, _, _⟩) (v := ?v177) rfl (by kernel_rfl) (by kernel_rfl) (by kernel_rfl) (fun _ _ _ h => h) (Or.inl ⟨by rfl, ?hy177⟩) h0 ?rest177
                case hy177 => (intro w hSw; (try dsimp only at hSw); go_simp; try with_reducible rfl)
                simp only [Act.put, List.setIfInBounds_toArray, List.set_cons_zero, List.set_cons_succ]
                clear P0 P1' P2
                refine wpAnyH_ready (rs := [2]) (by kernel_rfl) (by simp) ?_
                refine AllReadyH.cons (o := ⟨_, _, _, _, _, _⟩) rfl (fun K hK => ?_) AllReadyH.nil
                go_simp
                refine (hdoc w3.drew h0).mono ?_
                rintro e w4 ⟨x, lx, fx, rfl, ⟨hnx, hrx, hb4'⟩, -⟩
                obtain ⟨xa, xc, ya, yc, rfl, rfl⟩ := hrx.slices
                have hb34 : Below w3.heap.size w3 w4 := Below.drop_drewE hb4'
                have h4 : Below wr.heap.size wr w4 := H3.out.1.trans (hb34.mono H3.out.1.size)
                refine hK.out _ _ hb34 (fun hHeld => ?_)
                clear hK K hHeld
                try simp only [Act.put, List.setIfInBounds_toArray, List.set_cons_zero, List.set_cons_succ]
                refine wpAnyH_ready (rs := [3]) (by kernel_rfl) (by simp) ?_
                refine AllReadyH.cons (o := ⟨_, _, _, _, _, _⟩) rfl (fun K hK => ?_) AllReadyH.nil
                go_simp
                have hkey := hky x _ _ w4 hb34 (Rep.lies hrx) hnx
                clear hky
                have hkey' := key_lit hkey rfl rfl
                obtain ⟨kx, hkx⟩ : ∃ K, (keyS P1 x).getD ⟨#[]⟩ = K := ⟨_, rfl⟩
                obtain ⟨bk, hbk⟩ : ∃ b, (keyS P1 x).isSome = b := ⟨_, rfl⟩
                rw [hkx, hbk] at hkey'
                refine hkey'.mono ?_
                rintro e w5 ⟨rfl, hb5⟩
                have h5 : Below wr.heap.size wr w5 := h4.trans (hb5.mono h4.size)
                have hb35s : Below w3.heap.size w3 w5 := hb34.trans (hb5.mono hb34.size)
                have hc1 : Calls Tryz.prog 12 #[.nilIface] w5 fun e w' => e = .returned (.int .i64 0) ∧ Below w5.heap.size w5 w' := (Code_none w5).mono fun e w' k => ⟨k.1, by rw [k.2]; exact Below.refl _ _⟩
                have hc2 := fun (w' : World) (_ : Below w5.heap.size w5 w') => (show Calls Tryz.prog 12 #[.nilIface] w' fun e w'' => e = .returned (.int .i64 0) ∧ Below w'.heap.size w' w'' from (Code_none w').mono fun e w'' k => ⟨k.1, by rw [k.2]; exact Below.refl _ _⟩)
                clear hkey hkey' hdoc hnx hrx hb34 hb4' h4 hkx hbk hb5
                have h35 : Below w3.heap.size w3 w5 := hb35s
                refine hK.out _ _ h35 (fun hHeld => ?_)
                clear hK K hHeld
                try simp only [Act.put, List.setIfInBounds_toArray, List.set_cons_zero, List.set_cons_succ]
                refine wpAnyH_take (i := 4) (oi := ⟨_, _, _, _, _, _⟩) (v := ?v178) rfl (by kernel_rfl) (by kernel_rfl) (by kernel_rfl) (fun _ _ _ h => h) (Or.inl ⟨by rfl, ?hy178⟩) h35 ?rest178
                case hy178 => (intro w hSw; (try dsimp only at hSw); go_simp; try with_reducible rfl)
                simp only [Act.put, List.setIfInBounds_toArray, List.set_cons_zero, List.set_cons_succ]
                refine wpAnyH_take (i := 5) (oi := ⟨_, _, _, _, _, _⟩) (v := ?v179) rfl (by kernel_rfl) (by kernel_rfl) (by kernel_rfl) (fun _ _ _ h => h) (Or.inl ⟨by rfl, ?hy179⟩) h35 ?rest179
                case hy179 => (intro w hSw; (try dsimp only at hSw); go_simp; try with_reducible rfl)
                simp only [Act.put, List.setIfInBounds_toArray, List.set_cons_zero, List.set_cons_succ]
                refine wpAnyH_take (i := 6) (oi := ⟨_, _, _, _, _, _⟩) (v := ?v180) rfl (by kernel_rfl) (by kernel_rfl) (by kernel_rfl) (fun _ _ _ h => h) (Or.inl ⟨by rfl, ?hy180⟩) h35 ?rest180
                case hy180 => (intro w hSw; (try dsimp only at hSw); go_simp; try with_reducible rfl)
                simp only [Act.put, List.setIfInBounds_toArray, List.set_cons_zero, List.set_cons_succ]
                refine wpAnyH_ready (rs := [7]) (by kernel_rfl) (by simp) ?_
                refine AllReadyH.cons (o := ⟨_, _, _, _, _, _⟩) rfl (fun K hK => ?_) AllReadyH.nil
                go_simp
                refine hK.out _ _ h35 (fun hHeld => ?_)
                clear hK K hHeld
                try simp only [Act.put, List.setIfInBounds_toArray, List.set_cons_zero, List.set_cons_succ]
                refine wpAnyH_ready (rs := [8]) (by kernel_rfl) (by simp) ?_
                refine AllReadyH.cons (o := ⟨_, _, _, _, _, _⟩) rfl (fun K hK => ?_) AllReadyH.nil
                go_simp
                refine hK.out _ _ h35 (fun hHeld => ?_)
                clear hK K hHeld
                try simp only [Act.put, List.setIfInBounds_toArray, List.set_cons_zero, List.set_cons_succ]
                have H5 := (show Hid _ from h5)
                clear h5 h35 h0
                refine wpAnyH_done (by kernel_rfl) ?_ _
                go_wp2_with fail
                refine hc1.mono ?_
                rintro e w6 ⟨rfl, hb6⟩
                have hc3 := hc2 w6 hb6
                have H6 := (show Hid _ from hb6)
                clear hc1 hc2 hb6
                go_wp2_with fail
                refine hc3.mono ?_
                rintro e w7 ⟨rfl, hb7⟩
                have H7 := (show Hid _ from hb7)
                clear hc3 hb7
                go_wp2_with fail
                go_ret
                have h67 := H6.out.trans (H7.out.mono H6.out.size)
                exact ⟨rfl, HC.out.1.trans ((H5.out.trans (h67.mono H5.out.size)).mono HC.out.1.size)⟩
      · have hbt : false = B0 := by rw [← hB0, decide_eq_false hz0, decide_eq_false (show ¬ 16 < N1.size by omega)]; rfl
        subst hbt
        have HB0 := (show Hid _ from hB0)
        clear hB0
        go_wp2_with fail
        clear e1 e2
        go_loopg [5, 6, 7] N1.size (fun gg s5 s6 _ wr => ∃ (k : Nat) (b : Bool), k ≤ N1.size ∧ N1.size - k ≤ gg ∧ s6 = .int .i64 k ∧ s5 = .bool b ∧ Aside (b = (false || !nameB (N1.data.toList.take k)) ∧ wr = wc))
        case atStart => exact ⟨0, false, Nat.zero_le _, by omega, rfl, rfl, by simp [nameB], rfl⟩
        case round =>
          obtain ⟨k, b, hk, hgg, rfl, rfl, A⟩ := hrel
          obtain ⟨hbk, rfl⟩ := A.out
          by_cases hlt : k < N1.size
          · obtain ⟨x, hx, hxl⟩ := kd_at hlt
            have z0 : (0 : Int) ≤ (k : Int) := by omega
            have z1 : (k : Int) < (N1.size : Int) := by omega
            have hst := bad_step hxl hbk
            obtain ⟨c, hcx⟩ : ∃ c : Int, (x.toNat : Int) = c := ⟨_, rfl⟩
            rw [hcx] at hst
            have HS := (show Hid _ from hst)
            clear hst hxl hbk A hz0
            cases b with
            | true =>
              go_wp2
              go_roundg (N1.size - (k + 1))
              case measure => omega
              case rel => exact ⟨k + 1, true, by omega, by omega, by go_num, rfl, HS.out, rfl⟩
            | false =>
              by_cases q1 : 97 ≤ c
              · by_cases q2 : c ≤ 122
                · have hin : inN c = true := by unfold inN; simp; omega
                  have hst := HS.out
                  rw [hin] at hst
                  have HS' := (show Hid _ from hst)
                  clear hst hin HS
                  go_wp2
                  go_roundg (N1.size - (k + 1))
                  case measure => omega
                  case rel => exact ⟨k + 1, false, by omega, by omega, by go_num, rfl, HS'.out, rfl⟩
                · have q3 : 48 ≤ c := by omega
                  have q4 : ¬ c ≤ 57 := by omega
                  have q5 : ¬ c = 95 := by omega
                  have q6 : (c == 95) = false := by simpa using q5
                  have hin : inN c = false := by unfold inN; simp; omega
                  have hst := HS.out
                  rw [hin] at hst
                  have HS' := (show Hid _ from hst)
                  clear hst hin HS
                  go_wp2
                  go_roundg (N1.size - (k + 1))
                  case measure => omega
                  case rel => exact ⟨k + 1, true, by omega, by omega, by go_num, rfl, HS'.out, rfl⟩
              · by_cases q3 : 48 ≤ c
                · by_cases q4 : c ≤ 57
                  · have hin : inN c = true := by unfold inN; simp; omega
                    have hst := HS.out
                    rw [hin] at hst
                    have HS' := (show Hid _ from hst)
                    clear hst hin HS
                    go_wp2
                    go_roundg (N1.size - (k + 1))
                    case measure => omega
                    case rel => exact ⟨k + 1, false, by omega, by omega, by go_num, rfl, HS'.out, rfl⟩
                  · by_cases q5 : c = 95
                    · have hin : inN c = true := by unfold inN; simp; omega
                      have hst := HS.out
                      rw [hin] at hst
                      have HS' := (show Hid _ from hst)
                      clear hst hin HS
                      go_wp2
                      go_roundg (N1.size - (k + 1))
                      case measure => omega
                      case rel => exact ⟨k + 1, false, by omega, by omega, by go_num, rfl, HS'.out, rfl⟩
                    · have q6 : (c == 95) = false := by simpa using q5
                      have hin : inN c = false := by unfold inN; simp; omega
                      have hst := HS.out
                      rw [hin] at hst
                      have HS' := (show Hid _ from hst)
                      clear hst hin HS
                      go_wp2
                      go_roundg (N1.size - (k + 1))
                      case measure => omega
                      case rel => exact ⟨k + 1, true, by omega, by omega, by go_num, rfl, HS'.out, rfl⟩
                · have q5 : ¬ c = 95 := by omega
                  have q6 : (c == 95) = false := by simpa using q5
                  have hin : inN c = false := by unfold inN; simp; omega
                  have hst := HS.out
                  rw [hin] at hst
                  have HS' := (show Hid _ from hst)
                  clear hst hin HS
                  go_wp2
                  go_roundg (N1.size - (k + 1))
                  case measure => omega
                  case rel => exact ⟨k + 1, true, by omega, by omega, by go_num, rfl, HS'.out, rfl⟩
          · have zk : ¬ (k : Int) < (N1.size : Int) := by omega
            have htk : N1.data.toList.take k = N1.data.toList := List.take_of_length_le (by simp; omega)
            rw [htk, ← HB0.out] at hbk
            have hok := ok_not hbk
            obtain ⟨-, hby, hE, hT, rr, zN, zP⟩ := HC.out
            have hpp := Parse6_any P1 wr hE (by omega)
            have hck := fun (w' : World) (h : Below wr.heap.size wr w') => Check_any N1 P1 u w' (hE.below h) (by omega) (by omega)
            clear hbk A hz0 hby hE hT rr zN zP htk
            cases b with
            | true =>
              rw [errC_bad hok] at hck
              cases hps : parsePP P1 with
              | none =>
                rw [hps] at hpp
                clear hps hok
                go_wp2_with fail
                refine hpp.mono ?_
                rintro e w2 ⟨hb2, u2, z2, rfl, -⟩
                obtain ⟨-, -, -, -, rr, -⟩ := HC.out
                have hc2 := hck w2 hb2
                obtain ⟨b0, b1, b2, bf⟩ := row3 ((hb2.block _ (lt_of_heap rr)).trans rr)
                have H2 := (show Hid _ from hb2)
                clear hpp hck rr a0 a1 a2 af hb2
                go_wp2_with fail
                refine hc2.mono ?_
                rintro e w3 ⟨v3, rfl, hv3, hb3⟩
                have h3 : Below wr.heap.size wr w3 := H2.out.trans (hb3.mono H2.out.size)
                have hcd := hv3.code (HC.out.2.2.1.below h3)
                obtain ⟨⟨u3, z3, rfl⟩, -⟩ : (∃ u z, v3 = .iface u z) ∧ Flt 5 w3 v3 := hv3
                have H3 := (show Hid _ from h3)
                clear hc2 h3 b0 b1 b2 bf hb3 H2
                go_wp2_with fail
                refine hcd.mono ?_
                rintro e w4 ⟨rfl, hb4⟩
                have H4 := (show Hid _ from hb4)
                clear hcd hb4
                go_wp2_with fail
                go_ret
                exact ⟨rfl, HC.out.1.trans ((H3.out.trans (H4.out.mono H3.out.size)).mono HC.out.1.size)⟩
              | some ps =>
                rw [hps] at hpp
                clear hps hok
                go_wp2_with fail
                refine hpp.mono ?_
                rintro e w2 ⟨hb2, v2, rfl, hst2⟩
                obtain ⟨sa, sc, rfl, -⟩ := hst2
                obtain ⟨-, -, -, -, rr, -⟩ := HC.out
                have hc2 := hck w2 hb2
                obtain ⟨b0, b1, b2, bf⟩ := row3 ((hb2.block _ (lt_of_heap rr)).trans rr)
                have H2 := (show Hid _ from hb2)
                clear hpp hck rr a0 a1 a2 af hb2
                go_wp2_with fail
                refine hc2.mono ?_
                rintro e w3 ⟨v3, rfl, hv3, hb3⟩
                have h3 : Below wr.heap.size wr w3 := H2.out.trans (hb3.mono H2.out.size)
                have hcd := hv3.code (HC.out.2.2.1.below h3)
                obtain ⟨⟨u3, z3, rfl⟩, -⟩ : (∃ u z, v3 = .iface u z) ∧ Flt 5 w3 v3 := hv3
                have H3 := (show Hid _ from h3)
                clear hc2 h3 b0 b1 b2 bf hb3 H2
                go_wp2_with fail
                refine hcd.mono ?_
                rintro e w4 ⟨rfl, hb4⟩
                have H4 := (show Hid _ from hb4)
                clear hcd hb4
                go_wp2_with fail
                go_ret
                exact ⟨rfl, HC.out.1.trans ((H3.out.trans (H4.out.mono H3.out.size)).mono HC.out.1.size)⟩
            | false =>
              cases hps : parsePP P1 with
              | none =>
                rw [errC_none hok hps] at hck
                rw [hps] at hpp
                have hkn : ∀ x : V, keyS P1 x = none := fun x => by unfold keyS; rw [hps]; rfl
                clear hps hok
                go_wp2_with fail
                refine hpp.mono ?_
                rintro e w2 ⟨hb2, u2, z2, rfl, hf2⟩
                have HF2 := (show Hid _ from hf2)
                clear hf2
                obtain ⟨-, -, -, -, rr, -⟩ := HC.out
                have hc2 := hck w2 hb2
                obtain ⟨b0, b1, b2, bf⟩ := row3 ((hb2.block _ (lt_of_heap rr)).trans rr)
                have H2 := (show Hid _ from hb2)
                clear hpp hck rr a0 a1 a2 af hb2
                go_wp2_with fail
                refine hc2.mono ?_
                rintro e w3 ⟨v3, rfl, hv3, hb3⟩
                have H3 := (show Hid _ from And.intro (H2.out.trans (hb3.mono H2.out.size)) hb3)
                clear hc2 b0 b1 b2 bf hb3 H2
                obtain ⟨⟨u3, z3, rfl⟩, hf3⟩ : (∃ u z, v3 = .iface u z) ∧ Flt 6 w3 v3 := hv3
                have HV3 := (show Hid _ from hf3)
                clear hf3
                obtain ⟨-, hby, hE, hT, rr, zN, zP⟩ := HC.out
                have hb3 := H3.out.1
                have r3 := (hb3.block _ (lt_of_heap rr)).trans rr
                have P0 := fun (w' : World) (h : Below w3.heap.size w3 w') => (row3 ((h.block _ (lt_of_heap r3)).trans r3)).1
                have P1' := fun (w' : World) (h : Below w3.heap.size w3 w') => (row3 ((h.block _ (lt_of_heap r3)).trans r3)).2.1
                have P2 := fun (w' : World) (h : Below w3.heap.size w3 w') => (row3 ((h.block _ (lt_of_heap r3)).trans r3)).2.2.1
                have hdoc := fun (w' : World) (h : Below w3.heap.size w3 w') => Doc_any _ bs w' ((hby.below hb3).below h) ((hT.below hb3).below h)
                have hky := fun (x : V) (l f : Value) (w' : World) (h : Below w3.heap.size w3 w') (hl : Lies 3 w' x l f) (hn : Nice 3 x) => Key_any 3 N1 P1 u x l f w' ((hE.below hb3).below h) (by omega) hl hn
                clear hby hE hT rr zN zP hb3 r3
                go_wp2_with fail
                have h0 : (fun w' : World => Below w3.heap.size w3 w') w3.drew := (Below.refl _ _).drew
                refine wp_region_held (S := fun w' => Below w3.heap.size w3 w') mixedE ?_
                refine wpAnyH_take (i := 0) (oi := ⟨_, _, _, _, _, _⟩) (v := ?v181) rfl (by kernel_rfl) (by kernel_rfl) (by kernel_rfl) (fun _ _ _ h => h) (Or.inl ⟨by rfl, ?hy181⟩) h0 ?rest181
                case hy181 => (intro w hSw; (try dsimp only at hSw); go_simp; try with_reducible rfl)
                simp only [Act.put, List.setIfInBounds_toArray, List.set_cons_zero, List.set_cons_succ]
                refine wpAnyH_take (i := 1) (oi := ⟨_, _, _, _, _, _⟩) (v := ?v182) rfl (by kernel_rfl) (by kernel_rfl) (by kernel_rfl) (fun _ _ _ h => h) (Or.inl ⟨by rfl, ?hy182⟩) h0 ?rest182
                case hy182 => (intro w hSw; (try dsimp only at hSw); go_simp; try with_reducible rfl)
                simp only [Act.put, List.setIfInBounds_toArray, List.set_cons_zero, List.set_cons_succ]
                clear P0 P1' P2
                refine wpAnyH_ready (rs := [2]) (by kernel_rfl) (by simp) ?_
                refine AllReadyH.cons (o := ⟨_, _, _, _, _, _⟩) rfl (fun K hK => ?_) AllReadyH.nil
                go_simp
                refine (hdoc w3.drew h0).mono ?_
                rintro e w4 ⟨x, lx, fx, rfl, ⟨hnx, hrx, hb4'⟩, -⟩
                obtain ⟨xa, xc, ya, yc, rfl, rfl⟩ := hrx.slices
                have hb34 : Below w3.heap.size w3 w4 := Below.drop_drewE hb4'
                have h4 : Below wr.heap.size wr w4 := H3.out.1.trans (hb34.mono H3.out.1.size)
                refine hK.out _ _ hb34 (fun hHeld => ?_)
                clear hK K hHeld
                try simp only [Act.put, List.setIfInBounds_toArray, List.set_cons_zero, List.set_cons_succ]
                refine wpAnyH_ready (rs := [3]) (by kernel_rfl) (by simp) ?_
                refine AllReadyH.cons (o := ⟨_, _, _, _, _, _⟩) rfl (fun K hK => ?_) AllReadyH.nil
                go_simp
                have hkey := hky x _ _ w4 hb34 (Rep.lies hrx) hnx
                clear hky
                rw [hkn x] at hkey
                have hkey' : Calls Tryz.prog 13 #[.agg #[.string N1, .string P1, .bool u], .agg #[.int .i64 x.kind, .int .i64 x.num, .string x.text, .slice xa x.list.length xc, .slice ya x.fields.length yc]] w4 fun e w' => e = .returned (.tuple #[.string ⟨#[]⟩, .bool false]) ∧ Below w4.heap.size w4 w' := hkey
                refine hkey'.mono ?_
                rintro e w5 ⟨rfl, hb5⟩
                have h5 : Below wr.heap.size wr w5 := h4.trans (hb5.mono h4.size)
                have hb35s : Below w3.heap.size w3 w5 := hb34.trans (hb5.mono hb34.size)
                have hb35 : Below w3.heap.size w3 w5 := hb34.trans (hb5.mono hb34.size)
                have hb25 : Below w2.heap.size w2 w5 := H3.out.2.trans (hb35.mono H3.out.2.size)
                have hE5 := HC.out.2.2.1.below h5
                have hc1 := Flt.code (Flt.below HV3.out hb35) hE5
                have hc2 := fun (w' : World) (hq : Below w5.heap.size w5 w') => Flt.code (Flt.below (Flt.below HF2.out hb25) hq) (hE5.below hq)
                clear hkey hkey' hdoc hnx hrx hb34 hb4' h4 hkn hb35 hb25 hE5 hb5
                have h35 : Below w3.heap.size w3 w5 := hb35s
                refine hK.out _ _ h35 (fun hHeld => ?_)
                clear hK K hHeld
                try simp only [Act.put, List.setIfInBounds_toArray, List.set_cons_zero, List.set_cons_succ]
                refine wpAnyH_take (i := 4) (oi := ⟨_, _, _, _, _, _⟩) (v := ?v183) rfl (by kernel_rfl) (by kernel_rfl) (by kernel_rfl) (fun _ _ _ h => h) (Or.inl ⟨by rfl, ?hy183⟩) h35 ?rest183
                case hy183 => (intro w hSw; (try dsimp only at hSw); go_simp; try with_reducible rfl)
                simp only [Act.put, List.setIfInBounds_toArray, List.set_cons_zero, List.set_cons_succ]
                refine wpAnyH_take (i := 5) (oi := ⟨_, _, _, _, _, _⟩) (v := ?v184) rfl (by kernel_rfl) (by kernel_rfl) (by kernel_rfl) (fun _ _ _ h => h) (Or.inl ⟨by rfl, ?hy184⟩) h35 ?rest184
                case hy184 => (intro w hSw; (try dsimp only at hSw); go_simp; try with_reducible rfl)
                simp only [Act.put, List.setIfInBounds_toArray, List.set_cons_zero, List.set_cons_succ]
                refine wpAnyH_take (i := 6) (oi := ⟨_, _, _, _, _, _⟩) (v := ?v185) rfl (by kernel_rfl) (by kernel_rfl) (by kernel_rfl) (fun _ _ _ h => h) (Or.inl ⟨by rfl, ?hy185⟩) h35 ?rest185
                case hy185 => (intro w hSw; (try dsimp only at hSw); go_simp; try with_reducible rfl)
                simp only [Act.put, List.setIfInBounds_toArray, List.set_cons_zero, List.set_cons_succ]
                refine wpAnyH_ready (rs := [7]) (by kernel_rfl) (by simp) ?_
                refine AllReadyH.cons (o := ⟨_, _, _, _, _, _⟩) rfl (fun K hK => ?_) AllReadyH.nil
                go_simp
                refine hK.out _ _ h35 (fun hHeld => ?_)
                clear hK K hHeld
                try simp only [Act.put, List.setIfInBounds_toArray, List.set_cons_zero, List.set_cons_succ]
                refine wpAnyH_ready (rs := [8]) (by kernel_rfl) (by simp) ?_
                refine AllReadyH.cons (o := ⟨_, _, _, _, _, _⟩) rfl (fun K hK => ?_) AllReadyH.nil
                go_simp
                refine hK.out _ _ h35 (fun hHeld => ?_)
                clear hK K hHeld
                try simp only [Act.put, List.setIfInBounds_toArray, List.set_cons_zero, List.set_cons_succ]
                have H5 := (show Hid _ from h5)
                clear h5 h35 h0
                refine wpAnyH_done (by kernel_rfl) ?_ _
                go_wp2_with fail
                refine hc1.mono ?_
                rintro e w6 ⟨rfl, hb6⟩
                have hc3 := hc2 w6 hb6
                have H6 := (show Hid _ from hb6)
                clear hc1 hc2 hb6
                go_wp2_with fail
                refine hc3.mono ?_
                rintro e w7 ⟨rfl, hb7⟩
                have H7 := (show Hid _ from hb7)
                clear hc3 hb7
                go_wp2_with fail
                go_ret
                have h67 := H6.out.trans (H7.out.mono H6.out.size)
                exact ⟨rfl, HC.out.1.trans ((H5.out.trans (h67.mono H5.out.size)).mono HC.out.1.size)⟩
              | some ps =>
                rw [errC_some hok hps] at hck
                rw [hps] at hpp
                clear hps hok
                go_wp2_with fail
                refine hpp.mono ?_
                rintro e w2 ⟨hb2, v2, rfl, hst2⟩
                obtain ⟨sa, sc, rfl, -⟩ := hst2
                obtain ⟨-, -, -, -, rr, -⟩ := HC.out
                have hc2 := hck w2 hb2
                obtain ⟨b0, b1, b2, bf⟩ := row3 ((hb2.block _ (lt_of_heap rr)).trans rr)
                have H2 := (show Hid _ from hb2)
                clear hpp hck rr a0 a1 a2 af hb2
                go_wp2_with fail
                refine hc2.mono ?_
                rintro e w3 ⟨v3, rfl, hv3, hb3⟩
                have H3 := (show Hid _ from And.intro (H2.out.trans (hb3.mono H2.out.size)) hb3)
                clear hc2 b0 b1 b2 bf hb3 H2
                obtain rfl : v3 = .nilIface := hv3
                obtain ⟨-, hby, hE, hT, rr, zN, zP⟩ := HC.out
                have hb3 := H3.out.1
                have r3 := (hb3.block _ (lt_of_heap rr)).trans rr
                have P0 := fun (w' : World) (h : Below w3.heap.size w3 w') => (row3 ((h.block _ (lt_of_heap r3)).trans r3)).1
                have P1' := fun (w' : World) (h : Below w3.heap.size w3 w') => (row3 ((h.block _ (lt_of_heap r3)).trans r3)).2.1
                have P2 := fun (w' : World) (h : Below w3.heap.size w3 w') => (row3 ((h.block _ (lt_of_heap r3)).trans r3)).2.2.1
                have hdoc := fun (w' : World) (h : Below w3.heap.size w3 w') => Doc_any _ bs w' ((hby.below hb3).below h) ((hT.below hb3).below h)
                have hky := fun (x : V) (l f : Value) (w' : World) (h : Below w3.heap.size w3 w') (hl : Lies 3 w' x l f) (hn : Nice 3 x) => Key_any 3 N1 P1 u x l f w' ((hE.below hb3).below h) (by omega) hl hn
                clear hby hE hT rr zN zP hb3 r3
                go_wp2_with fail
                have h0 : (fun w' : World => Below w3.heap.size w3 w') w3.drew := (Below.refl _ _).drew
                refine wp_region_held (S := fun w' => Below w3.heap.size w3 w') mixedE ?_
                refine wpAnyH_take (i := 0) (oi := ⟨_, _, _, _, _, _⟩) (v := ?v186) rfl (by kernel_rfl) (by kernel_rfl) (by kernel_rfl) (fun _ _ _ h => h) (Or.inl ⟨by rfl, ?hy186⟩) h0 ?rest186
                case hy186 => (intro w hSw; (try dsimp only at hSw); go_simp; try with_reducible rfl)
                simp only [Act.put, List.setIfInBounds_toArray, List.set_cons_zero, List.set_cons_succ]
                refine wpAnyH_take (i := 1) (oi := ⟨_, _, _, _, _, _⟩) (v := ?v187) rfl (by kernel_rfl) (by kernel_rfl) (by kernel_rfl) (fun _ _ _ h => h) (Or.inl ⟨by rfl, ?hy187⟩) h0 ?rest187
                case hy187 => (intro w hSw; (try dsimp only at hSw); go_simp; try with_reducible rfl)
                simp only [Act.put, List.setIfInBounds_toArray, List.set_cons_zero, List.set_cons_succ]
                clear P0 P1' P2
                refine wpAnyH_ready (rs := [2]) (by kernel_rfl) (by simp) ?_
                refine AllReadyH.cons (o := ⟨_, _, _, _, _, _⟩) rfl (fun K hK => ?_) AllReadyH.nil
                go_simp
                refine (hdoc w3.drew h0).mono ?_
                rintro e w4 ⟨x, lx, fx, rfl, ⟨hnx, hrx, hb4'⟩, -⟩
                obtain ⟨xa, xc, ya, yc, rfl, rfl⟩ := hrx.slices
                have hb34 : Below w3.heap.size w3 w4 := Below.drop_drewE hb4'
                have h4 : Below wr.heap.size wr w4 := H3.out.1.trans (hb34.mono H3.out.1.size)
                refine hK.out _ _ hb34 (fun hHeld => ?_)
                clear hK K hHeld
                try simp only [Act.put, List.setIfInBounds_toArray, List.set_cons_zero, List.set_cons_succ]
                refine wpAnyH_ready (rs := [3]) (by kernel_rfl) (by simp) ?_
                refine AllReadyH.cons (o := ⟨_, _, _, _, _, _⟩) rfl (fun K hK => ?_) AllReadyH.nil
                go_simp
                have hkey := hky x _ _ w4 hb34 (Rep.lies hrx) hnx
                clear hky
                have hkey' := key_lit hkey rfl rfl
                obtain ⟨kx, hkx⟩ : ∃ K, (keyS P1 x).getD ⟨#[]⟩ = K := ⟨_, rfl⟩
                obtain ⟨bk, hbk⟩ : ∃ b, (keyS P1 x).isSome = b := ⟨_, rfl⟩
                rw [hkx, hbk] at hkey'
                refine hkey'.mono ?_
                rintro e w5 ⟨rfl, hb5⟩
                have h5 : Below wr.heap.size wr w5 := h4.trans (hb5.mono h4.size)
                have hb35s : Below w3.heap.size w3 w5 := hb34.trans (hb5.mono hb34.size)
                have hc1 : Calls Tryz.prog 12 #[.nilIface] w5 fun e w' => e = .returned (.int .i64 0) ∧ Below w5.heap.size w5 w' := (Code_none w5).mono fun e w' k => ⟨k.1, by rw [k.2]; exact Below.refl _ _⟩
                have hc2 := fun (w' : World) (_ : Below w5.heap.size w5 w') => (show Calls Tryz.prog 12 #[.nilIface] w' fun e w'' => e = .returned (.int .i64 0) ∧ Below w'.heap.size w' w'' from (Code_none w').mono fun e w'' k => ⟨k.1, by rw [k.2]; exact Below.refl _ _⟩)
                clear hkey hkey' hdoc hnx hrx hb34 hb4' h4 hkx hbk hb5
                have h35 : Below w3.heap.size w3 w5 := hb35s
                refine hK.out _ _ h35 (fun hHeld => ?_)
                clear hK K hHeld
                try simp only [Act.put, List.setIfInBounds_toArray, List.set_cons_zero, List.set_cons_succ]
                refine wpAnyH_take (i := 4) (oi := ⟨_, _, _, _, _, _⟩) (v := ?v188) rfl (by kernel_rfl) (by kernel_rfl) (by kernel_rfl) (fun _ _ _ h => h) (Or.inl ⟨by rfl, ?hy188⟩) h35 ?rest188
                case hy188 => (intro w hSw; (try dsimp only at hSw); go_simp; try with_reducible rfl)
                simp only [Act.put, List.setIfInBounds_toArray, List.set_cons_zero, List.set_cons_succ]
                refine wpAnyH_take (i := 5) (oi := ⟨_, _, _, _, _, _⟩) (v := ?v189) rfl (by kernel_rfl) (by kernel_rfl) (by kernel_rfl) (fun _ _ _ h => h) (Or.inl ⟨by rfl, ?hy189⟩) h35 ?rest189
                case hy189 => (intro w hSw; (try dsimp only at hSw); go_simp; try with_reducible rfl)
                simp only [Act.put, List.setIfInBounds_toArray, List.set_cons_zero, List.set_cons_succ]
                refine wpAnyH_take (i := 6) (oi := ⟨_, _, _, _, _, _⟩) (v := ?v190) rfl (by kernel_rfl) (by kernel_rfl) (by kernel_rfl) (fun _ _ _ h => h) (Or.inl ⟨by rfl, ?hy190⟩) h35 ?rest190
                case hy190 => (intro w hSw; (try dsimp only at hSw); go_simp; try with_reducible rfl)
                simp only [Act.put, List.setIfInBounds_toArray, List.set_cons_zero, List.set_cons_succ]
                refine wpAnyH_ready (rs := [7]) (by kernel_rfl) (by simp) ?_
                refine AllReadyH.cons (o := ⟨_, _, _, _, _, _⟩) rfl (fun K hK => ?_) AllReadyH.nil
                go_simp
                refine hK.out _ _ h35 (fun hHeld => ?_)
                clear hK K hHeld
                try simp only [Act.put, List.setIfInBounds_toArray, List.set_cons_zero, List.set_cons_succ]
                refine wpAnyH_ready (rs := [8]) (by kernel_rfl) (by simp) ?_
                refine AllReadyH.cons (o := ⟨_, _, _, _, _, _⟩) rfl (fun K hK => ?_) AllReadyH.nil
                go_simp
                refine hK.out _ _ h35 (fun hHeld => ?_)
                clear hK K hHeld
                try simp only [Act.put, List.setIfInBounds_toArray, List.set_cons_zero, List.set_cons_succ]
                have H5 := (show Hid _ from h5)
                clear h5 h35 h0
                refine wpAnyH_done (by kernel_rfl) ?_ _
                go_wp2_with fail
                refine hc1.mono ?_
                rintro e w6 ⟨rfl, hb6⟩
                have hc3 := hc2 w6 hb6
                have H6 := (show Hid _ from hb6)
                clear hc1 hc2 hb6
                go_wp2_with fail
                refine hc3.mono ?_
                rintro e w7 ⟨rfl, hb7⟩
                have H7 := (show Hid _ from hb7)
                clear hc3 hb7
                go_wp2_with fail
                go_ret
                have h67 := H6.out.trans (H7.out.mono H6.out.size)
                exact ⟨rfl, HC.out.1.trans ((H5.out.trans (h67.mono H5.out.size)).mono HC.out.1.size)⟩
end Go.Proofs.YtfpkkobclkdniaaGreatDoor
