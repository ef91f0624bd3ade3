/-
  The law's Next, of entries in order, by its contract. Conditions: as stated.
  One who goes through a tree that stays: what a step leaves. The law's awake. Conditions: as stated.
  The law's awake by its contract. No conditions.
  WalkMarks's walk. No conditions beyond those stated.
-/
import Derived.Test.YtoaekmighinmhaaU26
import Derived.Test.YtoaekmighinmhaaU21
namespace Go.Proofs.Ytoaekmighinmhaa
open Go.RowKit

theorem find_take {α : Type} {p : α → Bool} {L : List α} {j : Nat} {x : α} (hj : L[j]? = some x) (h : ∀ y ∈ L.take j, p y = false) (hx : p x = true) : L.find? p = some x := by
  obtain ⟨hlt, he⟩ := List.getElem?_eq_some_iff.1 hj
  rw [← List.take_append_drop j L, List.find?_append, List.find?_eq_none.2 (fun y hy => by rw [h y hy]; exact Bool.false_ne_true), List.drop_eq_getElem_cons hlt, he, List.find?_cons_of_pos hx]
  rfl
theorem all_snoc {α : Type} {p : α → Bool} {L : List α} {j : Nat} {x : α} (hj : L[j]? = some x) (h : ∀ y ∈ L.take j, p y = false) (hx : p x = false) : ∀ y ∈ L.take (j + 1), p y = false := by
  rw [List.take_add_one, hj]
  intro y hy
  rcases List.mem_append.1 hy with h1 | h1
  · exact h y h1
  · rw [show y = x by simpa using h1]; exact hx
/-- a mark in a block. -/
abbrev Mk (w : World) (X : Nat) (k : ByteArray) (i : Int) (b : Bool) : Prop := w.heap[X]? = some (.cells #[.string k, .int .i64 i, .bool b] 36 (0, 0))
theorem Mk.view {w : World} {X : Nat} {k : ByteArray} {i : Int} {b : Bool} (h : Mk w X k i b) : w.cell? ⟨X, 0, none⟩ = some (.string k) ∧ w.cell? ⟨X, 1, none⟩ = some (.int .i64 i) ∧ w.cell? ⟨X, 2, none⟩ = some (.bool b) ∧ (∀ j, w.frozen? ⟨X, j, none⟩ = false) ∧ X < w.heap.size :=
  ⟨by simp [World.cell?, h], by simp [World.cell?, h], by simp [World.cell?, h], fun j => by simp [World.frozen?, h], lt_of_heap h⟩
theorem Mk.below {w w' : World} {X : Nat} {k : ByteArray} {i : Int} {b : Bool} (h : Mk w X k i b) (hb : Below w.heap.size w w') : Mk w' X k i b := (hb.block _ (lt_of_heap h)).trans h
theorem boxM_any (w : World) (k : ByteArray) (i : Int) (b : Bool) : ∃ W0, w.alloc (.cells #[.string k, .int .i64 i, .bool b] 36) = W0 ∧ Below w.heap.size w W0 ∧ W0.heap.size = w.heap.size + 1 ∧ Mk W0 w.heap.size k i b :=
  ⟨_, rfl, (Below.refl _ _).alloc (Nat.le_refl _) _, by simp, heap_alloc_new _ _⟩
/-- what a box of an entry holds. -/
abbrev Bx (w : World) (X : Nat) (k : ByteArray) (i : Int) : Prop := w.heap[X]? = some (.cells #[.string k, .int .i64 i] 34 (0, 0))
theorem Bx.below {w w' : World} {X : Nat} {k : ByteArray} {i : Int} (h : Bx w X k i) (hb : Below w.heap.size w w') : Bx w' X k i := (hb.block _ (lt_of_heap h)).trans h
theorem boxE_any (w : World) (k : ByteArray) (i : Int) : ∃ W0, w.alloc (.cells #[.string k, .int .i64 i] 34) = W0 ∧ Below w.heap.size w W0 ∧ W0.heap.size = w.heap.size + 1 ∧ Bx W0 w.heap.size k i :=
  ⟨_, rfl, (Below.refl _ _).alloc (Nat.le_refl _) _, by simp, heap_alloc_new _ _⟩
/-- what the law's Next asks of each. -/
def okE (fr to : ByteArray) (dn : Bool) (m : Option En) (e : En) : Bool := behE dn m e && inE fr to e
set_option maxRecDepth 100000 in
set_option maxHeartbeats 4000000 in
theorem LNext_any (l : List En) (lv : Value) (B0 : Nat) (fr to : ByteArray) (dn : Bool) (k : ByteArray) (i : Int) (b : Bool) (w : World) (h : w.ownsRow B0 34 2 lv l.length (encEns l)) (hl : l.length ≤ 1000000) :
    Calls Try.prog 18 #[lv, .agg #[.string fr, .string to, .bool dn], .agg #[.string k, .int .i64 i, .bool b]] w fun r w' => r = .returned (retO (nextE l fr to dn (mkO k i b))) ∧ Below w.heap.size w w' := by
  obtain ⟨WR, hWR, hbR, hsR, rR⟩ := boxR_any w fr to dn
  obtain ⟨WM, hWM, hbM, hsM, rM⟩ := boxM_any WR k i b
  obtain ⟨W0, hW0, hb0, hs0, rZ⟩ := boxE_any WM ⟨#[]⟩ 0
  rw [hsR] at rM hsM
  rw [hsM] at rZ hs0
  have rM0 := Mk.below rM hb0
  have rR0 := (Rg.below rR hbM).below hb0
  have hbW : Below w.heap.size w W0 := hbR.trans ((hbM.trans (hb0.mono (by omega))).mono (by omega))
  obtain ⟨la, lc, rfl⟩ := slice_of_row h
  obtain ⟨N, hN⟩ : ∃ N, l.length = N := ⟨_, rfl⟩
  rw [hN] at h ⊢
  have hNd : (dirE dn l).length = N := by rw [len_dir, hN]
  have hl' := own_keep (W' := W0) h fun a ha => hbW.block a (own_lt h ha)
  have HH := (show Hid _ from And.intro hl' (And.intro hbW (And.intro hN (And.intro hNd (And.intro hl (And.intro rR0 (And.intro rM0 rZ)))))))
  have hnx : nextE l fr to dn (mkO k i b) = (dirE dn l).find? (okE fr to dn (mkO k i b)) := rfl
  have HX := (show Hid _ from hnx)
  obtain ⟨z0, z1, zf, hzl⟩ := row2_of rZ
  clear hbR hbM hb0 hbW rR rM rM0 rR0 rZ h hl' hN hNd hl hnx z0 z1 zf hzl
  go_enter Try.func18, Try.ntmps18
  go_wp2
  go_loopg [8, 9, 10, 13] N (fun gg _ _ _ iv wr => ∃ (j : Nat), j ≤ N ∧ N - j ≤ gg ∧ iv = .int .i64 j ∧ Aside (Below W0.heap.size W0 wr ∧ ∀ y ∈ (dirE dn l).take j, okE fr to dn (mkO k i b) y = false))
  case atStart => exact ⟨0, Nat.zero_le _, by omega, rfl, Below.refl _ _, fun y hy => by cases hy⟩
  case round =>
    obtain ⟨j, hjN, hgg, rfl, HR⟩ := hrel
    obtain ⟨hbr, hall⟩ := HR.out
    clear HR
    by_cases hj : j < N
    · obtain ⟨hrow, hbW, hN, hNd, hl, rR, rM, rZ⟩ := HH.out
      have hrw := own_keep (W' := wr) hrow fun a ha => hbr.block a (own_lt hrow ha)
      obtain ⟨⟨yk, yi⟩, hy⟩ : ∃ y, l[j]? = some y := ⟨_, List.getElem?_eq_getElem (by omega)⟩
      rw [← hN] at hrw
      obtain ⟨B, c, hv, hc1, hc2, e0, e1, -⟩ := row_entry hrw hy
      rw [hN] at hv hc1
      obtain ⟨rfl, rfl⟩ : la = some ⟨B, 0, none⟩ ∧ lc = c := by
        simp only [Value.slice.injEq, true_and] at hv; exact hv
      dsimp only at e0 e1
      have zj : (j : Int) < (N : Int) := by omega
      obtain ⟨WA, hWA, hbA, hsA, rA⟩ := boxE_any wr yk yi
      have rZw := Bx.below (Bx.below rZ hbr) hbA
      have rRA := Rg.below (Rg.below rR hbr) hbA
      have rMA := Mk.below (Mk.below rM hbr) hbA
      have HK := (show Hid _ from And.intro hjN (And.intro hgg (And.intro hall (And.intro hN (And.intro hy hl)))))
      have hbrA := hbr.trans (hbA.mono hbr.size)
      have hZlt : w.heap.size + 1 + 1 < wr.heap.size := by have := hbr.size; omega
      obtain ⟨f0, f1, f2, -, -⟩ := rRA.view
      obtain ⟨g0, g1, g2, -, -⟩ := rMA.view
      obtain ⟨u0, u1, uf, hul⟩ := row2_of rA
      have hbW0 := hbW
      have hW0r : W0.heap.size ≤ wr.heap.size := hbr.size
      have hbA' := hbA
      clear hrow hbW hy hv hN hNd hl rR rM rZ hbr hjN hgg hall hbA
      cases dn with
      | false =>
        cases b with
        | false =>
          obtain ⟨xk, xi, rfl, rfl⟩ : ∃ xk xi, xk = yk ∧ xi = yi := ⟨_, _, rfl, rfl⟩
          have HXJ : Hid ((dirE false l)[j]? = some (xk, xi)) := HK.out.2.2.2.2.1
          have HBX : Hid (Below W0.heap.size W0 WA ∧ Bx WA wr.heap.size xk xi ∧ Bx WA (w.heap.size + 1 + 1) ⟨#[]⟩ 0) := ⟨hbrA, rA, rZw⟩
          have HIN := (show Hid _ from In_any (xk, xi) fr to false)
          have RGX := (show Hid _ from And.intro rRA True.intro)
          clear hbrA rA rZw rRA rMA
          clear hrw hbA'
          go_wp2_with fail
          refine Calls.mono (HIN.out _) ?_
          rintro e w7 ⟨rfl, hb7⟩
          have HB := (show Hid _ from HBX.out.1.trans (hb7.mono HBX.out.1.size))
          obtain ⟨z0, z1, zf, hzl⟩ := row2_of (Bx.below HBX.out.2.2 hb7)
          obtain ⟨x0, x1, xf, hxl⟩ := row2_of (Bx.below HBX.out.2.1 hb7)
          clear hb7 HBX
          cases hi : inE fr to (xk, xi) with
          | true =>
            obtain ⟨-, -, h3, -⟩ := HK.out
            have hfin := HX.out.trans (find_take HXJ.out h3 (show okE fr to _ _ (xk, xi) = true by unfold okE; rw [hi, show behE _ (mkO k i false) (xk, xi) = true from rfl]; rfl))
            have HF := (show Hid _ from And.intro hfin (hbW0.trans (HB.out.mono hbW0.size)))
            clear h3 hfin
            go_wp2
            refine bodyPost_ret (v := .tuple #[.agg #[.string xk, .int .i64 xi], .bool true]) (by simp [results, Try.results18, go_sem, z0, z1]) rfl ⟨by rw [HF.out.1]; rfl, ?_⟩
            exact (HF.out.2.setCell (p := ⟨w.heap.size + 1 + 1, 0, none⟩) (show w.heap.size ≤ w.heap.size + 1 + 1 by omega) _).setCell (p := ⟨w.heap.size + 1 + 1, 1, none⟩) (show w.heap.size ≤ w.heap.size + 1 + 1 by omega) _
          | false =>
            go_wp2
            go_roundg (N - (j + 1))
            case measure => (obtain ⟨h1, h2, -⟩ := HK.out; clear HK; omega)
            case rel =>
              obtain ⟨h1, h2, h3, -⟩ := HK.out
              exact ⟨j + 1, by omega, by omega, by simp, HB.out, all_snoc HXJ.out h3 (show okE fr to _ _ (xk, xi) = false by unfold okE; rw [hi, Bool.and_false])⟩
        | true =>
          obtain ⟨xk, xi, rfl, rfl⟩ : ∃ xk xi, xk = yk ∧ xi = yi := ⟨_, _, rfl, rfl⟩
          have HXJ : Hid ((dirE false l)[j]? = some (xk, xi)) := HK.out.2.2.2.2.1
          have HBX : Hid (Below W0.heap.size W0 WA ∧ Bx WA wr.heap.size xk xi ∧ Bx WA (w.heap.size + 1 + 1) ⟨#[]⟩ 0) := ⟨hbrA, rA, rZw⟩
          have HIN := (show Hid _ from In_any (xk, xi) fr to false)
          have RGX := (show Hid _ from And.intro rRA True.intro)
          clear hbrA rA rZw rRA rMA
          clear hrw hbA'
          have hbl := Below_any (k, i) (xk, xi) WA
          cases hq : decide (cmpE (k, i) (xk, xi) < 0) with
          | true =>
            rw [hq] at hbl
            go_wp2_with fail
            refine hbl.mono ?_
            rintro e w6 ⟨rfl, hb6⟩
            have hB6 : Hid (Below W0.heap.size W0 w6 ∧ Bx w6 wr.heap.size xk xi ∧ Bx w6 (w.heap.size + 1 + 1) ⟨#[]⟩ 0) := ⟨HBX.out.1.trans (hb6.mono HBX.out.1.size), Bx.below HBX.out.2.1 hb6, Bx.below HBX.out.2.2 hb6⟩
            clear HBX
            have HBX := hB6
            obtain ⟨i0, i1, i2, -, -⟩ := Rg.view (Rg.below RGX.out.1 hb6)
            obtain ⟨y0, y1, yf, hyl⟩ := row2_of HBX.out.2.1
            clear hB6 hb6 hbl RGX
            go_wp2_with fail
            refine Calls.mono (HIN.out _) ?_
            rintro e w7 ⟨rfl, hb7⟩
            have HB := (show Hid _ from HBX.out.1.trans (hb7.mono HBX.out.1.size))
            obtain ⟨z0, z1, zf, hzl⟩ := row2_of (Bx.below HBX.out.2.2 hb7)
            obtain ⟨x0, x1, xf, hxl⟩ := row2_of (Bx.below HBX.out.2.1 hb7)
            clear hb7 HBX
            cases hi : inE fr to (xk, xi) with
            | true =>
              obtain ⟨-, -, h3, -⟩ := HK.out
              have hfin := HX.out.trans (find_take HXJ.out h3 (show okE fr to _ _ (xk, xi) = true by unfold okE; rw [hi, show behE false (mkO k i true) (xk, xi) = true from hq]; rfl))
              have HF := (show Hid _ from And.intro hfin (hbW0.trans (HB.out.mono hbW0.size)))
              clear h3 hfin
              go_wp2
              refine bodyPost_ret (v := .tuple #[.agg #[.string xk, .int .i64 xi], .bool true]) (by simp [results, Try.results18, go_sem, z0, z1]) rfl ⟨by rw [HF.out.1]; rfl, ?_⟩
              exact (HF.out.2.setCell (p := ⟨w.heap.size + 1 + 1, 0, none⟩) (show w.heap.size ≤ w.heap.size + 1 + 1 by omega) _).setCell (p := ⟨w.heap.size + 1 + 1, 1, none⟩) (show w.heap.size ≤ w.heap.size + 1 + 1 by omega) _
            | false =>
              go_wp2
              go_roundg (N - (j + 1))
              case measure => (obtain ⟨h1, h2, -⟩ := HK.out; clear HK; omega)
              case rel =>
                obtain ⟨h1, h2, h3, -⟩ := HK.out
                exact ⟨j + 1, by omega, by omega, by simp, HB.out, all_snoc HXJ.out h3 (show okE fr to _ _ (xk, xi) = false by unfold okE; rw [hi, Bool.and_false])⟩
          | false =>
            rw [hq] at hbl
            go_wp2_with fail
            refine hbl.mono ?_
            rintro e w6 ⟨rfl, hb6⟩
            have HB := (show Hid _ from HBX.out.1.trans (hb6.mono HBX.out.1.size))
            obtain ⟨i0, i1, i2, -, -⟩ := Rg.view (Rg.below RGX.out.1 hb6)
            clear HBX hb6 hbl RGX
            go_wp2
            go_roundg (N - (j + 1))
            case measure => (obtain ⟨h1, h2, -⟩ := HK.out; clear HK; omega)
            case rel =>
              obtain ⟨h1, h2, h3, -⟩ := HK.out
              exact ⟨j + 1, by omega, by omega, by simp, HB.out, all_snoc HXJ.out h3 (show okE fr to _ _ (xk, xi) = false by unfold okE; rw [show behE false (mkO k i true) (xk, xi) = false from hq, Bool.false_and])⟩
      | true =>
        cases b with
        | false =>
          obtain ⟨⟨xk, xi⟩, hx⟩ : ∃ x, l[N - 1 - j]? = some x := ⟨_, List.getElem?_eq_getElem (by have := HK.out.2.2.2.1; omega)⟩
          have HXJ : Hid ((dirE true l)[j]? = some (xk, xi)) := by
            show l.reverse[j]? = _
            rw [List.getElem?_reverse (by have := HK.out.2.2.2.1; omega), show l.length - 1 - j = N - 1 - j by have := HK.out.2.2.2.1; omega]
            exact hx
          obtain ⟨Bq, cq, hvq, -, -, d0, d1, -⟩ := row_entry hrw hx
          obtain rfl : B = Bq := by
            simp only [Value.slice.injEq, Option.some.injEq, Addr.mk.injEq, and_true] at hvq; exact hvq.1
          dsimp only at d0 d1
          have d0A := (hbA'.cell (lt_of_cell d0)).trans d0
          have d1A := (hbA'.cell (lt_of_cell d1)).trans d1
          obtain ⟨WB, hWB⟩ : ∃ WB, (WA.setCell ⟨wr.heap.size, 0, none⟩ (.string xk)).setCell ⟨wr.heap.size, 1, none⟩ (.int .i64 xi) = WB := ⟨_, rfl⟩
          have rX : Bx WB wr.heap.size xk xi := by rw [← hWB]; exact set2 rA
          have hbAB : Below wr.heap.size WA WB := by rw [← hWB]; exact ((Below.refl wr.heap.size WA).setCell (p := ⟨wr.heap.size, 0, none⟩) (Nat.le_refl _) _).setCell (p := ⟨wr.heap.size, 1, none⟩) (Nat.le_refl _) _
          have hbrB : Below W0.heap.size W0 WB := hbrA.trans (hbAB.mono hW0r)
          have rZB : Bx WB (w.heap.size + 1 + 1) ⟨#[]⟩ 0 := (hbAB.block _ hZlt).trans rZw
          obtain ⟨v0, v1, v2, -, -⟩ := Rg.view ((hbAB.block _ (show w.heap.size < wr.heap.size by omega)).trans rRA)
          obtain ⟨t0, t1, t2, -, -⟩ := Mk.view ((hbAB.block _ (show w.heap.size + 1 < wr.heap.size by omega)).trans rMA)
          obtain ⟨x0, x1, xf, hxl⟩ := row2_of rX
          have RGX := (show Hid _ from And.intro (show Rg WB w.heap.size fr to true from (hbAB.block _ (show w.heap.size < wr.heap.size by omega)).trans rRA) True.intro)
          have HBX : Hid (Below W0.heap.size W0 WB ∧ Bx WB wr.heap.size xk xi ∧ Bx WB (w.heap.size + 1 + 1) ⟨#[]⟩ 0) := ⟨hbrB, rX, rZB⟩
          have HIN := (show Hid _ from In_any (xk, xi) fr to true)
          clear hbrA rA rZw rRA rMA hx hvq hbAB hbrB rZB rX d0 d1
          clear hrw hbA'
          go_wp2_with fail
          refine Calls.mono (HIN.out _) ?_
          rintro e w7 ⟨rfl, hb7⟩
          have HB := (show Hid _ from HBX.out.1.trans (hb7.mono HBX.out.1.size))
          obtain ⟨z0, z1, zf, hzl⟩ := row2_of (Bx.below HBX.out.2.2 hb7)
          obtain ⟨x0, x1, xf, hxl⟩ := row2_of (Bx.below HBX.out.2.1 hb7)
          clear hb7 HBX
          cases hi : inE fr to (xk, xi) with
          | true =>
            obtain ⟨-, -, h3, -⟩ := HK.out
            have hfin := HX.out.trans (find_take HXJ.out h3 (show okE fr to _ _ (xk, xi) = true by unfold okE; rw [hi, show behE _ (mkO k i false) (xk, xi) = true from rfl]; rfl))
            have HF := (show Hid _ from And.intro hfin (hbW0.trans (HB.out.mono hbW0.size)))
            clear h3 hfin
            go_wp2
            refine bodyPost_ret (v := .tuple #[.agg #[.string xk, .int .i64 xi], .bool true]) (by simp [results, Try.results18, go_sem, z0, z1]) rfl ⟨by rw [HF.out.1]; rfl, ?_⟩
            exact (HF.out.2.setCell (p := ⟨w.heap.size + 1 + 1, 0, none⟩) (show w.heap.size ≤ w.heap.size + 1 + 1 by omega) _).setCell (p := ⟨w.heap.size + 1 + 1, 1, none⟩) (show w.heap.size ≤ w.heap.size + 1 + 1 by omega) _
          | false =>
            go_wp2
            go_roundg (N - (j + 1))
            case measure => (obtain ⟨h1, h2, -⟩ := HK.out; clear HK; omega)
            case rel =>
              obtain ⟨h1, h2, h3, -⟩ := HK.out
              exact ⟨j + 1, by omega, by omega, by simp, HB.out, all_snoc HXJ.out h3 (show okE fr to _ _ (xk, xi) = false by unfold okE; rw [hi, Bool.and_false])⟩
        | true =>
          obtain ⟨⟨xk, xi⟩, hx⟩ : ∃ x, l[N - 1 - j]? = some x := ⟨_, List.getElem?_eq_getElem (by have := HK.out.2.2.2.1; omega)⟩
          have HXJ : Hid ((dirE true l)[j]? = some (xk, xi)) := by
            show l.reverse[j]? = _
            rw [List.getElem?_reverse (by have := HK.out.2.2.2.1; omega), show l.length - 1 - j = N - 1 - j by have := HK.out.2.2.2.1; omega]
            exact hx
          obtain ⟨Bq, cq, hvq, -, -, d0, d1, -⟩ := row_entry hrw hx
          obtain rfl : B = Bq := by
            simp only [Value.slice.injEq, Option.some.injEq, Addr.mk.injEq, and_true] at hvq; exact hvq.1
          dsimp only at d0 d1
          have d0A := (hbA'.cell (lt_of_cell d0)).trans d0
          have d1A := (hbA'.cell (lt_of_cell d1)).trans d1
          obtain ⟨WB, hWB⟩ : ∃ WB, (WA.setCell ⟨wr.heap.size, 0, none⟩ (.string xk)).setCell ⟨wr.heap.size, 1, none⟩ (.int .i64 xi) = WB := ⟨_, rfl⟩
          have rX : Bx WB wr.heap.size xk xi := by rw [← hWB]; exact set2 rA
          have hbAB : Below wr.heap.size WA WB := by rw [← hWB]; exact ((Below.refl wr.heap.size WA).setCell (p := ⟨wr.heap.size, 0, none⟩) (Nat.le_refl _) _).setCell (p := ⟨wr.heap.size, 1, none⟩) (Nat.le_refl _) _
          have hbrB : Below W0.heap.size W0 WB := hbrA.trans (hbAB.mono hW0r)
          have rZB : Bx WB (w.heap.size + 1 + 1) ⟨#[]⟩ 0 := (hbAB.block _ hZlt).trans rZw
          obtain ⟨v0, v1, v2, -, -⟩ := Rg.view ((hbAB.block _ (show w.heap.size < wr.heap.size by omega)).trans rRA)
          obtain ⟨t0, t1, t2, -, -⟩ := Mk.view ((hbAB.block _ (show w.heap.size + 1 < wr.heap.size by omega)).trans rMA)
          obtain ⟨x0, x1, xf, hxl⟩ := row2_of rX
          have RGX := (show Hid _ from And.intro (show Rg WB w.heap.size fr to true from (hbAB.block _ (show w.heap.size < wr.heap.size by omega)).trans rRA) True.intro)
          have HBX : Hid (Below W0.heap.size W0 WB ∧ Bx WB wr.heap.size xk xi ∧ Bx WB (w.heap.size + 1 + 1) ⟨#[]⟩ 0) := ⟨hbrB, rX, rZB⟩
          have HIN := (show Hid _ from In_any (xk, xi) fr to true)
          clear hbrA rA rZw rRA rMA hx hvq hbAB hbrB rZB rX d0 d1
          clear hrw hbA'
          have hbl := Below_any (xk, xi) (k, i) WB
          cases hq : decide (cmpE (xk, xi) (k, i) < 0) with
          | true =>
            rw [hq] at hbl
            go_wp2_with fail
            refine hbl.mono ?_
            rintro e w6 ⟨rfl, hb6⟩
            have hB6 : Hid (Below W0.heap.size W0 w6 ∧ Bx w6 wr.heap.size xk xi ∧ Bx w6 (w.heap.size + 1 + 1) ⟨#[]⟩ 0) := ⟨HBX.out.1.trans (hb6.mono HBX.out.1.size), Bx.below HBX.out.2.1 hb6, Bx.below HBX.out.2.2 hb6⟩
            clear HBX
            have HBX := hB6
            obtain ⟨i0, i1, i2, -, -⟩ := Rg.view (Rg.below RGX.out.1 hb6)
            obtain ⟨y0, y1, yf, hyl⟩ := row2_of HBX.out.2.1
            clear hB6 hb6 hbl RGX
            go_wp2_with fail
            refine Calls.mono (HIN.out _) ?_
            rintro e w7 ⟨rfl, hb7⟩
            have HB := (show Hid _ from HBX.out.1.trans (hb7.mono HBX.out.1.size))
            obtain ⟨z0, z1, zf, hzl⟩ := row2_of (Bx.below HBX.out.2.2 hb7)
            obtain ⟨x0, x1, xf, hxl⟩ := row2_of (Bx.below HBX.out.2.1 hb7)
            clear hb7 HBX
            cases hi : inE fr to (xk, xi) with
            | true =>
              obtain ⟨-, -, h3, -⟩ := HK.out
              have hfin := HX.out.trans (find_take HXJ.out h3 (show okE fr to _ _ (xk, xi) = true by unfold okE; rw [hi, show behE true (mkO k i true) (xk, xi) = true from hq]; rfl))
              have HF := (show Hid _ from And.intro hfin (hbW0.trans (HB.out.mono hbW0.size)))
              clear h3 hfin
              go_wp2
              refine bodyPost_ret (v := .tuple #[.agg #[.string xk, .int .i64 xi], .bool true]) (by simp [results, Try.results18, go_sem, z0, z1]) rfl ⟨by rw [HF.out.1]; rfl, ?_⟩
              exact (HF.out.2.setCell (p := ⟨w.heap.size + 1 + 1, 0, none⟩) (show w.heap.size ≤ w.heap.size + 1 + 1 by omega) _).setCell (p := ⟨w.heap.size + 1 + 1, 1, none⟩) (show w.heap.size ≤ w.heap.size + 1 + 1 by omega) _
            | false =>
              go_wp2
              go_roundg (N - (j + 1))
              case measure => (obtain ⟨h1, h2, -⟩ := HK.out; clear HK; omega)
              case rel =>
                obtain ⟨h1, h2, h3, -⟩ := HK.out
                exact ⟨j + 1, by omega, by omega, by simp, HB.out, all_snoc HXJ.out h3 (show okE fr to _ _ (xk, xi) = false by unfold okE; rw [hi, Bool.and_false])⟩
          | false =>
            rw [hq] at hbl
            go_wp2_with fail
            refine hbl.mono ?_
            rintro e w6 ⟨rfl, hb6⟩
            have HB := (show Hid _ from HBX.out.1.trans (hb6.mono HBX.out.1.size))
            obtain ⟨i0, i1, i2, -, -⟩ := Rg.view (Rg.below RGX.out.1 hb6)
            clear HBX hb6 hbl RGX
            go_wp2
            go_roundg (N - (j + 1))
            case measure => (obtain ⟨h1, h2, -⟩ := HK.out; clear HK; omega)
            case rel =>
              obtain ⟨h1, h2, h3, -⟩ := HK.out
              exact ⟨j + 1, by omega, by omega, by simp, HB.out, all_snoc HXJ.out h3 (show okE fr to _ _ (xk, xi) = false by unfold okE; rw [show behE true (mkO k i true) (xk, xi) = false from hq, Bool.false_and])⟩
    · obtain rfl : N = j := by omega
      obtain ⟨-, hbW, hN, hNd, -, -, -, rZ⟩ := HH.out
      have hnone : nextE l fr to dn (mkO k i b) = none := by
        rw [HX.out]
        refine List.find?_eq_none.2 fun y hy => ?_
        rw [hall y (by rw [List.take_of_length_le (by omega)]; exact hy)]; exact Bool.false_ne_true
      have HF := (show Hid _ from And.intro hnone (hbW.trans (hbr.mono hbW.size)))
      obtain ⟨z0, z1, zf, hzl⟩ := row2_of (Bx.below rZ hbr)
      have zj : ¬ (N : Int) < (N : Int) := by omega
      clear hnone hbW hN hNd rZ hall hbr HX HH hgg hjN hj
      go_wp2
      refine bodyPost_ret (v := .tuple #[.agg #[.string ⟨#[]⟩, .int .i64 0], .bool false]) (by simp [results, Try.results18, go_sem, z0, z1]) rfl ⟨by rw [HF.out.1]; rfl, ?_⟩
      exact (HF.out.2.setCell (p := ⟨w.heap.size + 1 + 1, 0, none⟩) (show w.heap.size ≤ w.heap.size + 1 + 1 by omega) _).setCell (p := ⟨w.heap.size + 1 + 1, 1, none⟩) (show w.heap.size ≤ w.heap.size + 1 + 1 by omega) _
end Go.Proofs.Ytoaekmighinmhaa

namespace Go.Proofs.Ytoaekmighinmhaa
open Go.RowKit

section
variable {F : Nat → Prop} {w0 w w' w1 wr : World} {X Y T T' B : Nat} {fr to : ByteArray} {dn : Bool} {l J : List En} {m : Option En} {s : Value}
theorem Wk.below (h : Wk w X T fr to dn m) (hb : Below w.heap.size w w') : Wk w' X T fr to dn m := WkR.below h hb
theorem Wk.far (h : Wk w Y T fr to dn m) (hf : Far (fun a => a = X) w w') (hne : Y ≠ X) : Wk w' Y T fr to dn m := (hf.block Y (lt_of_heap h) hne).trans h
theorem OwE.far (h : OwE w0 B s J w) (hf : Far (fun a => a = X) w w') (hX : X < B) (h0 : w0.heap.size ≤ X) : OwE w0 B s J w' :=
  ⟨h.below.trans (hf.below h.below.size fun a ha => by rw [ha]; exact h0), own_keep h.own fun a ha => hf.block a (own_lt h.own ha) fun e => h.ne (.inl hX) (by rw [← show a = X from e]; exact vc_ne ha), h.le⟩
theorem Bx.far {k : ByteArray} {i : Int} (h : Bx w Y k i) (hf : Far (fun a => a = X) w w') (hne : Y ≠ X) : Bx w' Y k i := (hf.block Y (lt_of_heap h) hne).trans h
theorem Rg.far (h : Rg w Y fr to dn) (hf : Far (fun a => a = X) w w') (hne : Y ≠ X) : Rg w' Y fr to dn := (hf.block Y (lt_of_heap h) hne).trans h
theorem WNext_on (ht : TrF F w1 T l) (hl : LowE l) (hb : Below w1.heap.size w1 wr) (hX : w1.heap.size ≤ X) (h : Wk wr X T fr to dn m) :
    Calls Try.prog 17 #[.pointer (some ⟨X, 0, none⟩)] wr fun r w' => r = .returned (retO (nextE l fr to dn m)) ∧ Wk w' X T fr to dn ((nextE l fr to dn m).or m) ∧ Below w1.heap.size w1 w' ∧ Far (fun a => a = X) wr w' :=
  (WNext_any h (ht.below hb) hl).mono fun r w' ⟨k1, k2, k3⟩ => ⟨k1, k2, hb.trans (k3.below hb.size fun a ha => by rw [ha]; exact hX), k3⟩
end
def enA : En := (⟨#[97]⟩, 0)
def enB : En := (⟨#[98]⟩, 0)
def enC : En := (⟨#[99]⟩, 0)
theorem ins_abc : insE enC (insE enB (insE enA [])) = [enA, enB, enC] := by decide +kernel
theorem low_abc : LowE [enA, enB, enC] := by
  intro x hx
  rcases List.mem_cons.1 hx with rfl | hx
  · decide
  · rcases List.mem_cons.1 hx with rfl | hx
    · decide
    · rw [List.mem_singleton.1 hx]; decide
theorem next_abc : nextE [enA, enB, enC] ⟨#[98]⟩ ⟨#[]⟩ true none = some enC := by decide +kernel
theorem next_abc2 : nextE [enA, enB, enC] ⟨#[98]⟩ ⟨#[]⟩ true (some enC) = some enB := by decide +kernel
theorem next_abc3 : nextE [enA, enB, enC] ⟨#[98]⟩ ⟨#[]⟩ true (some enB) = none := by decide +kernel
end Go.Proofs.Ytoaekmighinmhaa

namespace Go.Proofs.Ytoaekmighinmhaa
open Go.RowKit

theorem Tree.add {w0 w : World} {T : Nat} {l : List En} (h : Tree w0 w T l) (e : En) (hn : l.length ≤ 1000000) : Calls Try.prog 15 #[.pointer (some ⟨T, 0, none⟩), .agg #[.string e.1, .int .i64 e.2]] w fun r w' => r = .returned (.bool (!hasE e l)) ∧ Tree w0 w' T (insE e l) :=
  (AddT_any e w h.1 hn).mono fun _r _w' ⟨k1, k2, k3⟩ => ⟨k1, h.step k2 k3⟩
set_option maxRecDepth 100000 in
set_option maxHeartbeats 4000000 in
theorem awake9_any (w : World) : Calls Try.prog 9 #[] w fun r w' => r = .returned (.bool true) ∧ Below w.heap.size w w' := by
  go_enter Try.func9, Try.ntmps9
  go_wp2_with fail
  refine (New_any w).mono ?_
  rintro e w1 ⟨T, rfl, ht1, hb1⟩
  have G1 : Hid (Tree w w1 T []) := ⟨ht1, hb1⟩
  clear ht1 hb1
  go_wp2_with fail
  refine Calls.mono (Tree.add G1.out enA (by decide +kernel)) ?_
  rintro e w2 ⟨rfl, ht⟩
  have G2 : Hid (Tree w w2 T (insE enA [])) := ht
  clear ht G1
  go_wp2_with fail
  refine Calls.mono (Tree.add G2.out enB (by decide +kernel)) ?_
  rintro e w3 ⟨rfl, ht⟩
  have G3 : Hid (Tree w w3 T (insE enB (insE enA []))) := ht
  clear ht G2
  go_wp2_with fail
  refine Calls.mono (Tree.add G3.out enC (by decide +kernel)) ?_
  rintro e w4 ⟨rfl, ht⟩
  have G4 : Hid (Tree w w4 T (insE enC (insE enB (insE enA [])))) := ht
  clear ht G3
  have H4 : Hid ((∃ F, TrF F w4 T [enA, enB, enC]) ∧ Below w.heap.size w w4) := ⟨⟨_, ins_abc ▸ G4.out.1⟩, G4.out.2⟩
  clear G4
  go_wp2_with fail
  refine (WNew_any w4 T ⟨#[98]⟩ ⟨#[]⟩ true).mono ?_
  rintro e w5 ⟨X, rfl, hk5, hX, hb5⟩
  have HX : Hid (w4.heap.size ≤ X) := hX
  have K5 : Hid (Wk w5 X T ⟨#[98]⟩ ⟨#[]⟩ true none ∧ Below w4.heap.size w4 w5) := ⟨hk5, hb5⟩
  clear hk5 hX hb5
  have hn0 : Calls Try.prog 17 #[.pointer (some ⟨X, 0, none⟩)] w5 fun r w' => r = .returned (.tuple #[.agg #[.string ⟨#[99]⟩, .int .i64 0], .bool true]) ∧ Wk w' X T ⟨#[98]⟩ ⟨#[]⟩ true (some enC) ∧ Below w4.heap.size w4 w' ∧ Far (fun a => a = X) w5 w' := by
    obtain ⟨F, ht⟩ := H4.out.1
    have := WNext_on ht low_abc K5.out.2 HX.out K5.out.1
    rw [next_abc] at this
    exact this
  have HN := (show Hid _ from hn0)
  clear hn0
  go_wp2_with fail
  refine Calls.mono HN.out ?_
  rintro e w6 ⟨rfl, hk6, hb6, hf6⟩
  obtain ⟨w7, hw7, hbb7, hsb7, rb7⟩ := boxE_any w6 ⟨#[99]⟩ 0
  have HWZ := (show Hid _ from hw7)
  clear hw7 hsb7
  have K7 : Hid (Wk w7 X T ⟨#[98]⟩ ⟨#[]⟩ true (some enC) ∧ Below w4.heap.size w4 w7) := ⟨Wk.below hk6 hbb7, hb6.trans (hbb7.mono hb6.size)⟩
  have HXL6 : X < w6.heap.size := lt_of_heap hk6
  have R6_7 : Hid (Bx w7 w6.heap.size ⟨#[99]⟩ 0) := rb7
  clear hk6 hb6 hf6 hbb7 rb7 HN K5
  have hn1 : Calls Try.prog 17 #[.pointer (some ⟨X, 0, none⟩)] w7 fun r w' => r = .returned (.tuple #[.agg #[.string ⟨#[98]⟩, .int .i64 0], .bool true]) ∧ Wk w' X T ⟨#[98]⟩ ⟨#[]⟩ true (some enB) ∧ Below w4.heap.size w4 w' ∧ Far (fun a => a = X) w7 w' := by
    obtain ⟨F, ht⟩ := H4.out.1
    have := WNext_on ht low_abc K7.out.2 HX.out K7.out.1
    rw [next_abc2] at this
    exact this
  have HN := (show Hid _ from hn1)
  clear hn1
  go_wp2_with fail
  rw [HWZ.out]
  clear HWZ
  refine Calls.mono HN.out ?_
  rintro e w8 ⟨rfl, hk8, hb8, hf8⟩
  obtain ⟨w9, hw9, hbb9, hsb9, rb9⟩ := boxE_any w8 ⟨#[98]⟩ 0
  have HWZ := (show Hid _ from hw9)
  clear hw9 hsb9
  have K9 : Hid (Wk w9 X T ⟨#[98]⟩ ⟨#[]⟩ true (some enB) ∧ Below w4.heap.size w4 w9) := ⟨Wk.below hk8 hbb9, hb8.trans (hbb9.mono hb8.size)⟩
  have HXL8 : X < w8.heap.size := lt_of_heap hk8
  have R6_9 : Hid (Bx w9 w6.heap.size ⟨#[99]⟩ 0) := Bx.below (Bx.far R6_7.out hf8 (by omega)) hbb9
  clear R6_7
  have R8_9 : Hid (Bx w9 w8.heap.size ⟨#[98]⟩ 0) := rb9
  clear hk8 hb8 hf8 hbb9 rb9 HN K7
  have hn2 : Calls Try.prog 17 #[.pointer (some ⟨X, 0, none⟩)] w9 fun r w' => r = .returned (.tuple #[.agg #[.string ⟨#[]⟩, .int .i64 0], .bool false]) ∧ Wk w' X T ⟨#[98]⟩ ⟨#[]⟩ true (some enB) ∧ Below w4.heap.size w4 w' ∧ Far (fun a => a = X) w9 w' := by
    obtain ⟨F, ht⟩ := H4.out.1
    have := WNext_on ht low_abc K9.out.2 HX.out K9.out.1
    rw [next_abc3] at this
    exact this
  have HN := (show Hid _ from hn2)
  clear hn2
  go_wp2_with fail
  rw [HWZ.out]
  clear HWZ
  refine Calls.mono HN.out ?_
  rintro e w10 ⟨rfl, hk10, hb10, hf10⟩
  obtain ⟨w11, hw11, hbb11, hsb11, rb11⟩ := boxE_any w10 ⟨#[]⟩ 0
  have HWZ := (show Hid _ from hw11)
  clear hw11 hsb11
  have K11 : Hid (Wk w11 X T ⟨#[98]⟩ ⟨#[]⟩ true (some enB) ∧ Below w4.heap.size w4 w11) := ⟨Wk.below hk10 hbb11, hb10.trans (hbb11.mono hb10.size)⟩
  have R6_11 : Hid (Bx w11 w6.heap.size ⟨#[99]⟩ 0) := Bx.below (Bx.far R6_9.out hf10 (by omega)) hbb11
  clear R6_9
  have R8_11 : Hid (Bx w11 w8.heap.size ⟨#[98]⟩ 0) := Bx.below (Bx.far R8_9.out hf10 (by omega)) hbb11
  clear R8_9
  clear hk10 hb10 hf10 hbb11 rb11 HN K9
  have hmk := fun (d : Nat) (os : Array Obj) => Calls.regrown_of (WMark_any (w := Go.Sort.grow (redrawn w11 d) os) (WkR.below K11.out.1 (below_regrown _ d os)))
  rw [show (orE (some enB)).1 = ⟨#[98]⟩ from rfl, show (orE (some enB)).2 = 0 from rfl, show (some enB).isSome = true from rfl] at hmk
  obtain ⟨x0, x1, xf, xl⟩ := row2_of R6_11.out
  obtain ⟨y0, y1, yf, yl⟩ := row2_of R8_11.out
  have G0 := cell_regrown x0
  have G1 := cell_regrown y0
  have G2 := cell_regrown y1
  have HB := (show Hid _ from H4.out.2.trans (K11.out.2.mono H4.out.2.size))
  clear H4 K11 R6_11 R8_11 x0 x1 y0 y1 HX
  go_wp2_with fail
  rw [HWZ.out]
  refine wp_region_quiet_below mixed (by kernel_rfl) ?_
  iterate 20 go_big_quiet_step (fail)
  go_big_quiet_step (exact hmk _ _)
  repeat go_big_quiet_step (fail)
  refine wpQuiet_nil ?_
  rintro w2x ⟨⟨dq, osq⟩, hw2⟩

  have hb' : Below w11.heap.size w11 w2x := by rw [hw2]; exact below_regrown _ dq osq
  clear hw2 G0 G1 G2 hmk
  go_wp2
  go_ret
  exact ⟨rfl, HB.out.trans (hb'.mono HB.out.size)⟩
end Go.Proofs.Ytoaekmighinmhaa

namespace Go.Proofs.Ytoaekmighinmhaa
open Go.RowKit

/-- what is told of one, by letters. -/
theorem next_letters {w : World} {o : Option En} {P : World → Prop} {f : FuncId} {args : Array Value} (h : Calls Try.prog f args w fun r w' => r = .returned (retO o) ∧ P w') : Calls Try.prog f args w fun r w' => r = .returned (.tuple #[.agg #[.string (orE o).1, .int .i64 (orE o).2], .bool o.isSome]) ∧ P w' := by
  rw [retO_or] at h; exact h
set_option maxRecDepth 100000 in
set_option maxHeartbeats 4000000 in
theorem WalkMarks_walk (v0 : Value) (acts : List Ac) (fr to : ByteArray) (dn nb : Bool) (e1 : Ac) (hok1 : e1.ok) (k : ByteArray) (i : Int) (b : Bool) (w : World) (ha : ActsAt w v0 acts) :
    Calls Try.prog 6 #[v0, .agg #[.string fr, .string to, .bool dn], .bool nb, .agg #[.int .u8 e1.kind, .int .u8 e1.key, .int .u8 e1.id], .agg #[.string k, .int .i64 i, .bool b]] w fun e w' => e = .returned (.bool true) ∧ Below w.heap.size w w' := by
  obtain ⟨WR, hWR, hbR, hsR, rR⟩ := boxR_any w fr to dn
  obtain ⟨WA, hWA, hbA, hsA, a0, a1, a2⟩ := boxA_any WR e1.kind e1.key e1.id
  obtain ⟨WM, hWM, hbM, hsM, rM⟩ := boxM_any WA k i b
  have ca0 := (hbM.cell (lt_of_cell a0)).trans a0
  have ca1 := (hbM.cell (lt_of_cell a1)).trans a1
  have ca2 := (hbM.cell (lt_of_cell a2)).trans a2
  rw [hsR] at hsA ca0 ca1 ca2
  rw [hsA] at rM hsM
  have rR' := Rg.below (Rg.below rR hbA) hbM
  have hbw : Below w.heap.size w WM := hbR.trans ((hbA.trans (hbM.mono hbA.size)).mono hbR.size)
  have HH := (show Hid _ from And.intro rR' (And.intro rM (And.intro ca0 (And.intro ca1 (And.intro ca2 (And.intro hbw (ha.below hbw)))))))
  have hent := Ent_any e1 hok1
  obtain ⟨ek, ei, hee⟩ : ∃ ek ei, e1.ent = (ek, ei) := ⟨_, _, rfl⟩
  rw [hee] at hent
  obtain ⟨kd, ky, id⟩ := e1
  dsimp only at *
  have HE := (show Hid _ from hent)
  clear rR rR' rM ca0 ca1 ca2 a0 a1 a2 hbR hbA hbM hbw ha hent hee hok1
  go_enter Try.func6, Try.ntmps6
  go_wp2_with fail
  refine (awake9_any WM).mono ?_
  rintro e w1 ⟨rfl, hb1⟩
  obtain ⟨rR, rM, ca0, ca1, ca2, hbw, ha⟩ := HH.out
  have H1 := (show Hid _ from And.intro (Rg.below rR hb1) (And.intro (Mk.below rM hb1) (And.intro ((hb1.cell (lt_of_cell ca0)).trans ca0) (And.intro ((hb1.cell (lt_of_cell ca1)).trans ca1) (And.intro ((hb1.cell (lt_of_cell ca2)).trans ca2) (hbw.trans (hb1.mono hbw.size)))))))
  have HL := (show Hid _ from laid_any v0 acts w1 (ha.below hb1))
  have hs1 := hb1.size
  clear rR rM ca0 ca1 ca2 hbw ha hb1 HH
  go_wp2_with fail
  refine Calls.mono HL.out ?_
  rintro e w2 ⟨T, lv, l, rfl, hB, hln, hlow⟩
  have hb2 := hB.below
  have hs2 := hb2.size
  obtain ⟨rR, rM, ca0, ca1, ca2, hbw⟩ := H1.out
  have HB := (show Hid _ from And.intro hB (And.intro hln hlow))
  have H2 := (show Hid _ from And.intro (Rg.below rR hb2) (And.intro (Mk.below rM hb2) (hbw.trans (hb2.mono hbw.size))))
  have c0 := (hb2.cell (lt_of_cell ca0)).trans ca0
  have c1 := (hb2.cell (lt_of_cell ca1)).trans ca1
  have c2 := (hb2.cell (lt_of_cell ca2)).trans ca2
  clear rR rM ca0 ca1 ca2 hbw hB hln hlow hb2 HL H1
  cases nb with
  | false =>
    have HC := (show Hid _ from And.intro (And.intro (Both.tree HB.out.1) (Both.row HB.out.1)) (And.intro HB.out.2.1 (And.intro HB.out.2.2 H2.out)))
    clear HB H2 HE c0 c1 c2
    obtain ⟨g0, g1, g2, -, -⟩ := Rg.view HC.out.2.2.2.1
    obtain ⟨q0, q1, q2, -, -⟩ := Mk.view HC.out.2.2.2.2.1
    go_wp2_with fail
    refine (WResume_any w2 T fr to dn k i b).mono ?_
    rintro e w5 ⟨X, rfl, hk5, hX, hb5⟩
    have K5 := (show Hid _ from And.intro hk5 (And.intro hX hb5))
    obtain ⟨F, ht⟩ := HC.out.1.1
    have HN := (show Hid _ from next_letters (WNext_on ht HC.out.2.2.1 hb5 hX hk5))
    have HO := (show Hid _ from (rfl : nextE l fr to dn (mkO k i b) = nextE l fr to dn (mkO k i b)))
    have HLN := (show Hid _ from fun (wc : World) (hc : Below w2.heap.size w2 wc) (B : Nat) (hrow : wc.ownsRow B 34 2 lv l.length (encEns l)) => next_letters (LNext_any l lv B fr to dn k i b wc hrow (by have := HC.out.2.1; omega)))
    clear hk5 hX hb5 ht HO
    obtain ⟨xk, xi, hx⟩ : ∃ xk xi, orE (nextE l fr to dn (mkO k i b)) = (xk, xi) := ⟨_, _, rfl⟩
    obtain ⟨xz, hz⟩ : ∃ z, (nextE l fr to dn (mkO k i b)).isSome = z := ⟨_, rfl⟩
    rw [hx, hz] at HN HLN
    clear hx hz g0 g1 g2 q0 q1 q2
    go_wp2_with fail
    refine Calls.mono HN.out ?_
    rintro e w6 ⟨rfl, -, hb6, hf6⟩
    obtain ⟨W7, hW7, hb7, hs7, r7⟩ := boxE_any w6 xk xi
    have hb := hb6.trans (hb7.mono hb6.size)
    obtain ⟨B, hrow0⟩ := HC.out.1.2
    have hrow := own_keep (W' := W7) hrow0 fun a ha => hb.block a (own_lt hrow0 ha)
    clear hrow0
    have HZ := (show Hid _ from And.intro hb (HLN.out W7 hb B hrow))
    obtain ⟨g0, g1, g2, -, -⟩ := Rg.view (Rg.below HC.out.2.2.2.1 hb)
    obtain ⟨q0, q1, q2, -, -⟩ := Mk.view (Mk.below HC.out.2.2.2.2.1 hb)
    have R7 := (show Hid _ from And.intro r7 True.intro)
    clear hb6 hf6 hb7 hb hrow HN HLN K5 r7
    go_wp2_with fail
    refine Calls.mono HZ.out.2 ?_
    rintro e w8 ⟨rfl, hb8⟩
    obtain ⟨W9, hW9, hb9, hs9, r9⟩ := boxE_any w8 xk xi
    have hb89 := hb8.trans (hb9.mono hb8.size)
    obtain ⟨x0, x1, xf, xl⟩ := row2_of (Bx.below R7.out.1 hb89)
    obtain ⟨y0, y1, yf, yl⟩ := row2_of r9
    have HF : Hid (Below w.heap.size w W9) := HC.out.2.2.2.2.2.trans ((HZ.out.1.trans (hb89.mono HZ.out.1.size)).mono HC.out.2.2.2.2.2.size)
    clear hb8 hb9 hb89 r9 R7 HZ HC g0 g1 g2 q0 q1 q2
    go_wp2
    go_ret
    exact ⟨rfl, HF.out⟩
  | true =>
    go_wp2_with fail
    refine Calls.mono (HE.out w2) ?_
    rintro e w3 ⟨rfl, hb3⟩
    obtain ⟨W4, hW4⟩ : ∃ W4, (w3.setCell ⟨w.heap.size + 1 + 1, 0, none⟩ (.string ek)).setCell ⟨w.heap.size + 1 + 1, 1, none⟩ (.int .i64 ei) = W4 := ⟨_, rfl⟩
    obtain ⟨F, B, h1, h2, h3, h4, h5, h6⟩ := Both.same HB.out.1 hb3
    obtain ⟨rR2, rM2, hbw2⟩ := H2.out
    have rM3 := Mk.below rM2 hb3
    have hM1 : w.heap.size + 1 + 1 < w1.heap.size := by omega
    have hf : Far (fun a => a = w.heap.size + 1 + 1) w3 W4 := by
      rw [← hW4]
      exact Far.cell (G := fun a => a = w.heap.size + 1 + 1) (p := ⟨w.heap.size + 1 + 1, 1, none⟩) (Far.cell (G := fun a => a = w.heap.size + 1 + 1) (p := ⟨w.heap.size + 1 + 1, 0, none⟩) (Far.of_below (Below.refl _ _)) (.inl rfl) _) (.inl rfl) _
    have ht4 : TrF F W4 T l := h1.far hf fun a ha e => by have := (h2 a ha).1; have e2 : a = w.heap.size + 1 + 1 := e; omega
    have hr4 := own_keep (W' := W4) h3 fun a ha => hf.block a (own_lt h3 ha) fun e => by have := (h3.lt a (vc_ne ha)).1; have e2 : a = w.heap.size + 1 + 1 := e; omega
    have rM4 : Mk W4 (w.heap.size + 1 + 1) ek ei b := by
      rw [← hW4]
      show (World.heap _)[_]? = _
      rw [heap_setCell_at (heap_setCell_at rM3)]; rfl
    have HC : Hid (((∃ F, TrF F W4 T l) ∧ ∃ B, W4.ownsRow B 34 2 lv l.length (encEns l)) ∧ l.length ≤ 60 ∧ LowE l ∧ Rg W4 w.heap.size fr to dn ∧ Mk W4 (w.heap.size + 1 + 1) ek ei b ∧ Below w.heap.size w W4) :=
      ⟨⟨⟨F, ht4⟩, B, hr4⟩, HB.out.2.1, HB.out.2.2, Rg.far (Rg.below rR2 hb3) hf (by omega), rM4, (hbw2.trans (hb3.mono hbw2.size)).trans (hf.below (hbw2.trans (hb3.mono hbw2.size)).size fun a ha => by rw [ha]; omega)⟩
    clear h1 h2 h3 h4 h5 h6 hf ht4 hr4 rM4 rR2 rM2 hbw2 hb3 H2 HB HE c0 c1 c2
    obtain ⟨q0, q1, q2, qf, -⟩ := Mk.view rM3
    clear rM3
    obtain ⟨g0, g1, g2, -, -⟩ := Rg.view HC.out.2.2.2.1
    obtain ⟨q0, q1, q2, -, -⟩ := Mk.view HC.out.2.2.2.2.1
    go_wp2_with fail
    refine (WResume_any W4 T fr to dn ek ei b).mono ?_
    rintro e w5 ⟨X, rfl, hk5, hX, hb5⟩
    have K5 := (show Hid _ from And.intro hk5 (And.intro hX hb5))
    obtain ⟨F, ht⟩ := HC.out.1.1
    have HN := (show Hid _ from next_letters (WNext_on ht HC.out.2.2.1 hb5 hX hk5))
    have HO := (show Hid _ from (rfl : nextE l fr to dn (mkO ek ei b) = nextE l fr to dn (mkO ek ei b)))
    have HLN := (show Hid _ from fun (wc : World) (hc : Below W4.heap.size W4 wc) (B : Nat) (hrow : wc.ownsRow B 34 2 lv l.length (encEns l)) => next_letters (LNext_any l lv B fr to dn ek ei b wc hrow (by have := HC.out.2.1; omega)))
    clear hk5 hX hb5 ht HO
    obtain ⟨xk, xi, hx⟩ : ∃ xk xi, orE (nextE l fr to dn (mkO ek ei b)) = (xk, xi) := ⟨_, _, rfl⟩
    obtain ⟨xz, hz⟩ : ∃ z, (nextE l fr to dn (mkO ek ei b)).isSome = z := ⟨_, rfl⟩
    rw [hx, hz] at HN HLN
    clear hx hz g0 g1 g2 q0 q1 q2
    go_wp2_with fail
    refine Calls.mono HN.out ?_
    rintro e w6 ⟨rfl, -, hb6, hf6⟩
    obtain ⟨W7, hW7, hb7, hs7, r7⟩ := boxE_any w6 xk xi
    have hb := hb6.trans (hb7.mono hb6.size)
    obtain ⟨B, hrow0⟩ := HC.out.1.2
    have hrow := own_keep (W' := W7) hrow0 fun a ha => hb.block a (own_lt hrow0 ha)
    clear hrow0
    have HZ := (show Hid _ from And.intro hb (HLN.out W7 hb B hrow))
    obtain ⟨g0, g1, g2, -, -⟩ := Rg.view (Rg.below HC.out.2.2.2.1 hb)
    obtain ⟨q0, q1, q2, -, -⟩ := Mk.view (Mk.below HC.out.2.2.2.2.1 hb)
    have R7 := (show Hid _ from And.intro r7 True.intro)
    clear hb6 hf6 hb7 hb hrow HN HLN K5 r7
    go_wp2_with fail
    refine Calls.mono HZ.out.2 ?_
    rintro e w8 ⟨rfl, hb8⟩
    obtain ⟨W9, hW9, hb9, hs9, r9⟩ := boxE_any w8 xk xi
    have hb89 := hb8.trans (hb9.mono hb8.size)
    obtain ⟨x0, x1, xf, xl⟩ := row2_of (Bx.below R7.out.1 hb89)
    obtain ⟨y0, y1, yf, yl⟩ := row2_of r9
    have HF : Hid (Below w.heap.size w W9) := HC.out.2.2.2.2.2.trans ((HZ.out.1.trans (hb89.mono HZ.out.1.size)).mono HC.out.2.2.2.2.2.size)
    clear hb8 hb9 hb89 r9 R7 HZ HC g0 g1 g2 q0 q1 q2
    go_wp2
    go_ret
    exact ⟨rfl, HF.out⟩
end Go.Proofs.Ytoaekmighinmhaa
