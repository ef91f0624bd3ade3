/-
  The law's Same by its contract: are two rows of entries the same. No conditions beyond those stated.
-/
import Derived.Test.YtfpkkobclkdniaaGreatDoorU17
namespace Go.Proofs.YtfpkkobclkdniaaGreatDoor
open Go.RowKit

theorem take_snoc {l : List En} {j : Nat} {x : En} (h : l[j]? = some x) : l.take (j + 1) = l.take j ++ [x] := by rw [List.take_add_one, h]; rfl
set_option maxRecDepth 100000 in
set_option maxHeartbeats 4000000 in
theorem SameE_any (a b : List En) (B1 B2 : Nat) (va vb : Value) (w : World) (ha : w.ownsRow B1 58 2 va a.length (encEns a)) (hb : w.ownsRow B2 58 2 vb b.length (encEns b)) (hl : a.length ≤ 1000000) :
    Calls Tryz.prog 21 #[va, vb] w fun r w' => r = .returned (.bool (decide (a = b))) ∧ Below w.heap.size w w' := by
  obtain ⟨aa, ac, rfl⟩ := slice_of_rowE ha
  obtain ⟨ba, bc, rfl⟩ := slice_of_rowE hb
  obtain ⟨N, hN⟩ : ∃ N, a.length = N := ⟨_, rfl⟩
  obtain ⟨M, hM⟩ : ∃ M, b.length = M := ⟨_, rfl⟩
  rw [hN] at ha hl ⊢
  rw [hM] at hb ⊢
  by_cases hNM : N = M
  · subst hNM
    have HH := (show Hid _ from And.intro ha (And.intro hb (And.intro hN hM)))
    clear ha hb hN hM
    go_enter Tryz.func21, Tryz.ntmps21
    go_wp2
    go_loopg [5, 13] N (fun gg _ i wr => ∃ (j : Nat), j ≤ N ∧ N - j ≤ gg ∧ i = .int .i64 j ∧ Aside (a.take j = b.take j ∧ Below w.heap.size w wr))
    case atStart => exact ⟨0, Nat.zero_le _, by omega, rfl, rfl, Below.refl _ _⟩
    case round =>
      obtain ⟨j, hjN, hgg, rfl, HR⟩ := hrel
      obtain ⟨heq, hbR⟩ := HR.out
      clear HR
      by_cases hj : j < N
      · obtain ⟨ha, hb, hN, hM⟩ := HH.out
        obtain ⟨⟨xk, xi⟩, hx⟩ : ∃ x, a[j]? = some x := ⟨_, List.getElem?_eq_getElem (by omega)⟩
        obtain ⟨⟨yk, yi⟩, hy⟩ : ∃ x, b[j]? = some x := ⟨_, List.getElem?_eq_getElem (by omega)⟩
        have ha' := own_keep (W' := wr) ha fun c hc => hbR.block c (own_lt ha hc)
        have hb' := own_keep (W' := wr) hb fun c hc => hbR.block c (own_lt hb hc)
        rw [← hN] at ha'
        obtain ⟨P, c1, hv1, l1, l2, e0, e1, -⟩ := row_entry ha' hx
        rw [hN] at ha' hv1 l1
        rw [← hM] at hb'
        obtain ⟨Q, c2, hv2, l3, l4, d0, d1, -⟩ := row_entry hb' hy
        rw [hM] at hb' hv2 l3
        obtain ⟨rfl, rfl⟩ : aa = some ⟨P, 0, none⟩ ∧ ac = c1 := by
          simp only [Value.slice.injEq, true_and] at hv1; exact hv1
        obtain ⟨rfl, rfl⟩ : ba = some ⟨Q, 0, none⟩ ∧ bc = c2 := by
          simp only [Value.slice.injEq, true_and] at hv2; exact hv2
        have zj : (j : Int) < (N : Int) := by omega
        have hs1 := take_snoc hx
        have hs2 := take_snoc hy
        dsimp only at e0 e1 d0 d1
        have P0 := fun (w' : World) (h : w'.heap[P]? = wr.heap[P]? ∧ w'.heap[Q]? = wr.heap[Q]?) => (World.cell?_of_block (a := ⟨P, j * 2, none⟩) h.1).trans e0
        have P1 := fun (w' : World) (h : w'.heap[P]? = wr.heap[P]? ∧ w'.heap[Q]? = wr.heap[Q]?) => (World.cell?_of_block (a := ⟨P, j * 2 + 1, none⟩) h.1).trans e1
        have P2 := fun (w' : World) (h : w'.heap[P]? = wr.heap[P]? ∧ w'.heap[Q]? = wr.heap[Q]?) => (World.cell?_of_block (a := ⟨Q, j * 2, none⟩) h.2).trans d0
        have P3 := fun (w' : World) (h : w'.heap[P]? = wr.heap[P]? ∧ w'.heap[Q]? = wr.heap[Q]?) => (World.cell?_of_block (a := ⟨Q, j * 2 + 1, none⟩) h.2).trans d1
        have HE := (show Hid _ from And.intro heq (And.intro hbR (And.intro hs1 (And.intro hs2 (And.intro hgg (And.intro hjN (And.intro hx hy)))))))
        clear ha hb ha' hb' hN hM hx hy heq hbR hs1 hs2 hgg hjN hv1 hv2 e0 e1 d0 d1
        have h0 : (fun w' : World => w'.heap[P]? = wr.heap[P]? ∧ w'.heap[Q]? = wr.heap[Q]?) wr.drew := ⟨rfl, rfl⟩
        rcases Classical.em (((xk, xi) : En) = (yk, yi)) with hxy | hxy
        · obtain ⟨rfl, rfl⟩ : xk = yk ∧ xi = yi := by cases hxy; exact ⟨rfl, rfl⟩
          go_wp2_with fail
          refine wp_region_held (S := fun w' => w'.heap[P]? = wr.heap[P]? ∧ w'.heap[Q]? = wr.heap[Q]?) mixedE ?_
          refine wpAnyH_take (i := 0) (oi := ⟨_, _, _, _, _, _⟩) (v := ?v1) rfl (by kernel_rfl) (by kernel_rfl) (by kernel_rfl) (fun _ _ _ h => h) (Or.inl ⟨by rfl, ?hy1⟩) h0 ?rest1
          case hy1 => (intro w hSw; (try dsimp only at hSw); go_simp; try with_reducible rfl)
          simp only [Act.put, List.setIfInBounds_toArray, List.set_cons_zero, List.set_cons_succ]
          refine wpAnyH_take (i := 1) (oi := ⟨_, _, _, _, _, _⟩) (v := ?v2) rfl (by kernel_rfl) (by kernel_rfl) (by kernel_rfl) (fun _ _ _ h => h) (Or.inl ⟨by rfl, ?hy2⟩) h0 ?rest2
          case hy2 => (intro w hSw; (try dsimp only at hSw); go_simp; try with_reducible rfl)
          simp only [Act.put, List.setIfInBounds_toArray, List.set_cons_zero, List.set_cons_succ]
          refine wpAnyH_take (i := 2) (oi := ⟨_, _, _, _, _, _⟩) (v := ?v3) rfl (by kernel_rfl) (by kernel_rfl) (by kernel_rfl) (fun _ _ _ h => h) (Or.inl ⟨by rfl, ?hy3⟩) h0 ?rest3
          case hy3 => (intro w hSw; (try dsimp only at hSw); go_simp; try with_reducible rfl)
          simp only [Act.put, List.setIfInBounds_toArray, List.set_cons_zero, List.set_cons_succ]
          refine wpAnyH_take (i := 3) (oi := ⟨_, _, _, _, _, _⟩) (v := ?v4) rfl (by kernel_rfl) (by kernel_rfl) (by kernel_rfl) (fun _ _ _ h => h) (Or.inl ⟨by rfl, ?hy4⟩) h0 ?rest4
          case hy4 => (intro w hSw; (try dsimp only at hSw); go_simp; try with_reducible rfl)
          simp only [Act.put, List.setIfInBounds_toArray, List.set_cons_zero, List.set_cons_succ]
          refine wpAnyH_take (i := 4) (oi := ⟨_, _, _, _, _, _⟩) (v := ?v5) rfl (by kernel_rfl) (by kernel_rfl) (by kernel_rfl) (fun _ _ _ h => h) (Or.inl ⟨by rfl, ?hy5⟩) h0 ?rest5
          case hy5 => (intro w hSw; (try dsimp only at hSw); go_simp; try with_reducible rfl)
          simp only [Act.put, List.setIfInBounds_toArray, List.set_cons_zero, List.set_cons_succ]
          refine wpAnyH_take (i := 5) (oi := ⟨_, _, _, _, _, _⟩) (v := ?v6) rfl (by kernel_rfl) (by kernel_rfl) (by kernel_rfl) (fun _ _ _ h => h) (Or.inl ⟨by rfl, ?hy6⟩) h0 ?rest6
          case hy6 => (intro w hSw; (try dsimp only at hSw); go_simp; try with_reducible rfl)
          simp only [Act.put, List.setIfInBounds_toArray, List.set_cons_zero, List.set_cons_succ]
          refine wpAnyH_take (i := 6) (oi := ⟨_, _, _, _, _, _⟩) (v := ?v7) rfl (by kernel_rfl) (by kernel_rfl) (by kernel_rfl) (fun _ _ _ h => h) (Or.inl ⟨by rfl, ?hy7⟩) h0 ?rest7
          case hy7 => (intro w hSw; (try dsimp only at hSw); go_simp; try with_reducible rfl)
          simp only [Act.put, List.setIfInBounds_toArray, List.set_cons_zero, List.set_cons_succ]
          refine wpAnyH_take (i := 7) (oi := ⟨_, _, _, _, _, _⟩) (v := ?v8) rfl (by kernel_rfl) (by kernel_rfl) (by kernel_rfl) (fun _ _ _ h => h) (Or.inl ⟨by rfl, ?hy8⟩) h0 ?rest8
          case hy8 => (intro w hSw; (try dsimp only at hSw); go_simp; try with_reducible rfl)
          simp only [Act.put, List.setIfInBounds_toArray, List.set_cons_zero, List.set_cons_succ]
          refine wpAnyH_take (i := 8) (oi := ⟨_, _, _, _, _, _⟩) (v := ?v9) rfl (by kernel_rfl) (by kernel_rfl) (by kernel_rfl) (fun _ _ _ h => h) (Or.inl ⟨by rfl, ?hy9⟩) h0 ?rest9
          case hy9 => (intro w hSw; (try dsimp only at hSw); go_simp; try with_reducible rfl)
          simp only [Act.put, List.setIfInBounds_toArray, List.set_cons_zero, List.set_cons_succ]
          refine wpAnyH_done (by kernel_rfl) ?_ _
          clear P0 P1 P2 P3 h0
          go_wp2
          go_roundg (N - (j + 1))
          case measure => (obtain ⟨-, -, -, -, h6, h7, -⟩ := HE.out; clear HE; omega)
          case rel =>
            obtain ⟨h1, h2, h3, h4, h6, h7, -⟩ := HE.out
            refine ⟨j + 1, by omega, by omega, by simp, ?_, h2.drew⟩
            rw [h3, h4, h1]
        · have hne : decide (a = b) = false := decide_eq_false fun e => hxy (by
            obtain ⟨h1, h2, h3, h4, h6, h7, h8, h9⟩ := HE.out
            rw [e] at h8
            rw [h8] at h9
            cases h9; rfl)
          rcases Classical.em (xk = yk) with hk | hk
          · subst hk
            have hie : ¬ xi = yi := fun h => hxy (by rw [h])
            go_wp2_with fail
            refine wp_region_held (S := fun w' => w'.heap[P]? = wr.heap[P]? ∧ w'.heap[Q]? = wr.heap[Q]?) mixedE ?_
            refine wpAnyH_take (i := 0) (oi := ⟨_, _, _, _, _, _⟩) (v := ?v10) rfl (by kernel_rfl) (by kernel_rfl) (by kernel_rfl) (fun _ _ _ h => h) (Or.inl ⟨by rfl, ?hy10⟩) h0 ?rest10
            case hy10 => (intro w hSw; (try dsimp only at hSw); go_simp; try with_reducible rfl)
            simp only [Act.put, List.setIfInBounds_toArray, List.set_cons_zero, List.set_cons_succ]
            refine wpAnyH_take (i := 1) (oi := ⟨_, _, _, _, _, _⟩) (v := ?v11) rfl (by kernel_rfl) (by kernel_rfl) (by kernel_rfl) (fun _ _ _ h => h) (Or.inl ⟨by rfl, ?hy11⟩) h0 ?rest11
            case hy11 => (intro w hSw; (try dsimp only at hSw); go_simp; try with_reducible rfl)
            simp only [Act.put, List.setIfInBounds_toArray, List.set_cons_zero, List.set_cons_succ]
            refine wpAnyH_take (i := 2) (oi := ⟨_, _, _, _, _, _⟩) (v := ?v12) rfl (by kernel_rfl) (by kernel_rfl) (by kernel_rfl) (fun _ _ _ h => h) (Or.inl ⟨by rfl, ?hy12⟩) h0 ?rest12
            case hy12 => (intro w hSw; (try dsimp only at hSw); go_simp; try with_reducible rfl)
            simp only [Act.put, List.setIfInBounds_toArray, List.set_cons_zero, List.set_cons_succ]
            refine wpAnyH_take (i := 3) (oi := ⟨_, _, _, _, _, _⟩) (v := ?v13) rfl (by kernel_rfl) (by kernel_rfl) (by kernel_rfl) (fun _ _ _ h => h) (Or.inl ⟨by rfl, ?hy13⟩) h0 ?rest13
            case hy13 => (intro w hSw; (try dsimp only at hSw); go_simp; try with_reducible rfl)
            simp only [Act.put, List.setIfInBounds_toArray, List.set_cons_zero, List.set_cons_succ]
            refine wpAnyH_take (i := 4) (oi := ⟨_, _, _, _, _, _⟩) (v := ?v14) rfl (by kernel_rfl) (by kernel_rfl) (by kernel_rfl) (fun _ _ _ h => h) (Or.inl ⟨by rfl, ?hy14⟩) h0 ?rest14
            case hy14 => (intro w hSw; (try dsimp only at hSw); go_simp; try with_reducible rfl)
            simp only [Act.put, List.setIfInBounds_toArray, List.set_cons_zero, List.set_cons_succ]
            refine wpAnyH_take (i := 5) (oi := ⟨_, _, _, _, _, _⟩) (v := ?v15) rfl (by kernel_rfl) (by kernel_rfl) (by kernel_rfl) (fun _ _ _ h => h) (Or.inl ⟨by rfl, ?hy15⟩) h0 ?rest15
            case hy15 => (intro w hSw; (try dsimp only at hSw); go_simp; try with_reducible rfl)
            simp only [Act.put, List.setIfInBounds_toArray, List.set_cons_zero, List.set_cons_succ]
            refine wpAnyH_take (i := 6) (oi := ⟨_, _, _, _, _, _⟩) (v := ?v16) rfl (by kernel_rfl) (by kernel_rfl) (by kernel_rfl) (fun _ _ _ h => h) (Or.inl ⟨by rfl, ?hy16⟩) h0 ?rest16
            case hy16 => (intro w hSw; (try dsimp only at hSw); go_simp; try with_reducible rfl)
            simp only [Act.put, List.setIfInBounds_toArray, List.set_cons_zero, List.set_cons_succ]
            refine wpAnyH_take (i := 7) (oi := ⟨_, _, _, _, _, _⟩) (v := ?v17) rfl (by kernel_rfl) (by kernel_rfl) (by kernel_rfl) (fun _ _ _ h => h) (Or.inl ⟨by rfl, ?hy17⟩) h0 ?rest17
            case hy17 => (intro w hSw; (try dsimp only at hSw); go_simp; try with_reducible rfl)
            simp only [Act.put, List.setIfInBounds_toArray, List.set_cons_zero, List.set_cons_succ]
            refine wpAnyH_take (i := 8) (oi := ⟨_, _, _, _, _, _⟩) (v := ?v18) rfl (by kernel_rfl) (by kernel_rfl) (by kernel_rfl) (fun _ _ _ h => h) (Or.inl ⟨by rfl, ?hy18⟩) h0 ?rest18
            case hy18 => (intro w hSw; (try dsimp only at hSw); go_simp; try with_reducible rfl)
            simp only [Act.put, List.setIfInBounds_toArray, List.set_cons_zero, List.set_cons_succ]
            refine wpAnyH_done (by kernel_rfl) ?_ _
            clear P0 P1 P2 P3 h0
            go_wp2
            go_ret
            exact ⟨by rw [hne]; rfl, HE.out.2.1.drew⟩
          · have hkl : ¬ xk.toList = yk.toList := fun h => hk (text_ext h)
            go_wp2_with fail
            refine wp_region_held (S := fun w' => w'.heap[P]? = wr.heap[P]? ∧ w'.heap[Q]? = wr.heap[Q]?) mixedE ?_
            refine wpAnyH_take (i := 0) (oi := ⟨_, _, _, _, _, _⟩) (v := ?v19) rfl (by kernel_rfl) (by kernel_rfl) (by kernel_rfl) (fun _ _ _ h => h) (Or.inl ⟨by rfl, ?hy19⟩) h0 ?rest19
            case hy19 => (intro w hSw; (try dsimp only at hSw); go_simp; try with_reducible rfl)
            simp only [Act.put, List.setIfInBounds_toArray, List.set_cons_zero, List.set_cons_succ]
            refine wpAnyH_take (i := 1) (oi := ⟨_, _, _, _, _, _⟩) (v := ?v20) rfl (by kernel_rfl) (by kernel_rfl) (by kernel_rfl) (fun _ _ _ h => h) (Or.inl ⟨by rfl, ?hy20⟩) h0 ?rest20
            case hy20 => (intro w hSw; (try dsimp only at hSw); go_simp; try with_reducible rfl)
            simp only [Act.put, List.setIfInBounds_toArray, List.set_cons_zero, List.set_cons_succ]
            refine wpAnyH_take (i := 2) (oi := ⟨_, _, _, _, _, _⟩) (v := ?v21) rfl (by kernel_rfl) (by kernel_rfl) (by kernel_rfl) (fun _ _ _ h => h) (Or.inl ⟨by rfl, ?hy21⟩) h0 ?rest21
            case hy21 => (intro w hSw; (try dsimp only at hSw); go_simp; try with_reducible rfl)
            simp only [Act.put, List.setIfInBounds_toArray, List.set_cons_zero, List.set_cons_succ]
            refine wpAnyH_take (i := 3) (oi := ⟨_, _, _, _, _, _⟩) (v := ?v22) rfl (by kernel_rfl) (by kernel_rfl) (by kernel_rfl) (fun _ _ _ h => h) (Or.inl ⟨by rfl, ?hy22⟩) h0 ?rest22
            case hy22 => (intro w hSw; (try dsimp only at hSw); go_simp; try with_reducible rfl)
            simp only [Act.put, List.setIfInBounds_toArray, List.set_cons_zero, List.set_cons_succ]
            refine wpAnyH_take (i := 4) (oi := ⟨_, _, _, _, _, _⟩) (v := ?v23) rfl (by kernel_rfl) (by kernel_rfl) (by kernel_rfl) (fun _ _ _ h => h) (Or.inl ⟨by rfl, ?hy23⟩) h0 ?rest23
            case hy23 => (intro w hSw; (try dsimp only at hSw); go_simp; try with_reducible rfl)
            simp only [Act.put, List.setIfInBounds_toArray, List.set_cons_zero, List.set_cons_succ]
            refine wpAnyH_take (i := 5) (oi := ⟨_, _, _, _, _, _⟩) (v := ?v24) rfl (by kernel_rfl) (by kernel_rfl) (by kernel_rfl) (fun _ _ _ h => h) (Or.inl ⟨by rfl, ?hy24⟩) h0 ?rest24
            case hy24 => (intro w hSw; (try dsimp only at hSw); go_simp; try with_reducible rfl)
            simp only [Act.put, List.setIfInBounds_toArray, List.set_cons_zero, List.set_cons_succ]
            refine wpAnyH_take (i := 6) (oi := ⟨_, _, _, _, _, _⟩) (v := ?v25) rfl (by kernel_rfl) (by kernel_rfl) (by kernel_rfl) (fun _ _ _ h => h) (Or.inl ⟨by rfl, ?hy25⟩) h0 ?rest25
            case hy25 => (intro w hSw; (try dsimp only at hSw); go_simp; try with_reducible rfl)
            simp only [Act.put, List.setIfInBounds_toArray, List.set_cons_zero, List.set_cons_succ]
            refine wpAnyH_take (i := 7) (oi := ⟨_, _, _, _, _, _⟩) (v := ?v26) rfl (by kernel_rfl) (by kernel_rfl) (by kernel_rfl) (fun _ _ _ h => h) (Or.inl ⟨by rfl, ?hy26⟩) h0 ?rest26
            case hy26 => (intro w hSw; (try dsimp only at hSw); go_simp; try with_reducible rfl)
            simp only [Act.put, List.setIfInBounds_toArray, List.set_cons_zero, List.set_cons_succ]
            refine wpAnyH_take (i := 8) (oi := ⟨_, _, _, _, _, _⟩) (v := ?v27) rfl (by kernel_rfl) (by kernel_rfl) (by kernel_rfl) (fun _ _ _ h => h) (Or.inl ⟨by rfl, ?hy27⟩) h0 ?rest27
            case hy27 => (intro w hSw; (try dsimp only at hSw); go_simp; try with_reducible rfl)
            simp only [Act.put, List.setIfInBounds_toArray, List.set_cons_zero, List.set_cons_succ]
            refine wpAnyH_done (by kernel_rfl) ?_ _
            clear P0 P1 P2 P3 h0
            go_wp2
            go_ret
            exact ⟨by rw [hne]; rfl, HE.out.2.1.drew⟩
      · obtain rfl : N = j := by omega
        obtain ⟨-, -, hN, hM⟩ := HH.out
        rw [List.take_of_length_le (Nat.le_of_eq hN), List.take_of_length_le (Nat.le_of_eq hM)] at heq
        have hd : decide (a = b) = true := decide_eq_true heq
        clear hN hM heq hgg hjN hj HH
        go_wp2
        go_ret
        exact ⟨by rw [hd]; rfl, hbR⟩
  · have hne : decide (a = b) = false := decide_eq_false fun e => hNM (by rw [← hN, ← hM, e])
    rw [hne]
    have hnz : ¬ (N : Int) = (M : Int) := by omega
    clear ha hb hN hM hne
    go_enter Tryz.func21, Tryz.ntmps21
    go_wp2
    go_ret
    exact ⟨rfl, Below.refl _ _⟩
end Go.Proofs.YtfpkkobclkdniaaGreatDoor
