/-
  slices.CompareFunc at fields by its contract. No conditions beyond those stated.
-/
import Derived.Test.YtjihfbahcebljaaDoorVCmp1
namespace Go.Proofs.YtjihfbahcebljaaDoor
open Go.RowKit

set_option maxHeartbeats 2000000 in
/-- slices.CompareFunc at fields. -/
theorem CompareFuncF_any (g : Nat) (eg : ∀ args w, (callFunc g args).run Tryd.prog w = .ok (.enter g args) w) (c : ByteArray × V → ByteArray × V → Int) (n : Nat)
    (xs ys : List Fl) (sa sb : Value) (w : World) (ha : RowAt (fun _ => True) w 75 6 sa xs.length (encFs xs)) (hb : RowAt (fun _ => True) w 75 6 sb ys.length (encFs ys))
    (la : ∀ e ∈ xs, Lies n w e.v e.l e.f) (lb : ∀ e ∈ ys, Lies n w e.v e.l e.f)
    (hg : ∀ x ∈ xs, ∀ y ∈ ys, ∀ W, Below w.heap.size w W → Calls Tryd.prog g #[.agg #[.string x.name, .int .i64 x.v.kind, .int .i64 x.v.num, .string x.v.text, x.l, x.f], .agg #[.string y.name, .int .i64 y.v.kind, .int .i64 y.v.num, .string y.v.text, y.l, y.f]] W fun e w' => e = .returned (.int .i64 (c x.pair y.pair)) ∧ Below W.heap.size W w') :
    Calls Tryd.prog 33 #[sa, sb, .func (.func g) #[] #[]] w fun e w' => e = .returned (.int .i64 (cmpL c (xs.map Fl.pair) (ys.map Fl.pair))) ∧ Below w.heap.size w w' := by
  obtain ⟨aa, ca, rfl⟩ := ha.slice
  obtain ⟨ab, cb, rfl⟩ := hb.slice
  have na := ha.2.1
  have nb := hb.2.1
  go_enter Tryd.func33, Tryd.ntmps33
  go_wp2
  go_loopg [6, 7, 8, 9, 10, 13] xs.length (fun gg _ _ _ _ _ i wr => ∃ k : Nat, k ≤ xs.length ∧ k ≤ ys.length ∧ xs.length - k ≤ gg ∧ i = .int .i64 k ∧ Aside (Below w.heap.size w wr) ∧ Aside (∀ j x y, j < k → (xs.map Fl.pair)[j]? = some x → (ys.map Fl.pair)[j]? = some y → c x y = 0))
  case atStart => exact ⟨0, Nat.zero_le _, Nat.zero_le _, by omega, rfl, Below.refl _ w, fun j _ _ hj => absurd hj (Nat.not_lt_zero _)⟩
  case round =>
    obtain ⟨k, hk, hkb, hgg, rfl, BW, A⟩ := hrel
    by_cases hlt : k < xs.length
    · obtain ⟨b, c', e1, hbl, _, hc1, hc2, _⟩ := ha.cells (by omega)
      simp only [Value.slice.injEq, true_and] at e1
      obtain ⟨rfl, rfl⟩ := e1
      obtain ⟨⟨xn, xv, xl, xf⟩, hx⟩ : ∃ x, xs[k]? = some x := ⟨_, List.getElem?_eq_getElem hlt⟩
      have hm : ∀ b, True → b < w.heap.size → True ∧ wr.heap[b]? = w.heap[b]? := fun b _ h => ⟨trivial, BW.out.block b h⟩
      obtain ⟨a0, a1, a2, a3, a4, a5⟩ := (ha.move hm).fl hx
      have hlx : Lies n wr xv xl xf := (la _ (List.mem_of_getElem? hx)).below BW.out
      have HX : Aside ((xs.map Fl.pair)[k]? = some (xn, xv)) := by show _ = _; rw [List.getElem?_map, hx]; rfl
      simp only at a0 a1 a2 a3 a4 a5
      obtain ⟨al, cl, af, cf, rfl, rfl⟩ := hlx.slices
      by_cases hlt2 : k < ys.length
      · obtain ⟨b', c2, e2, hbl2, _, hc3, hc4, _⟩ := hb.cells (by omega)
        simp only [Value.slice.injEq, true_and] at e2
        obtain ⟨rfl, rfl⟩ := e2
        obtain ⟨⟨yn, yv, yl, yf⟩, hy⟩ : ∃ y, ys[k]? = some y := ⟨_, List.getElem?_eq_getElem hlt2⟩
        obtain ⟨b0, b1, b2, b3, b4, b5⟩ := (hb.move hm).fl hy
        have hly : Lies n wr yv yl yf := (lb _ (List.mem_of_getElem? hy)).below BW.out
        have HY : Aside ((ys.map Fl.pair)[k]? = some (yn, yv)) := by show _ = _; rw [List.getElem?_map, hy]; rfl
        simp only at b0 b1 b2 b3 b4 b5
        obtain ⟨bl, dl, bf, df, rfl, rfl⟩ := hly.slices
        have hcall := fun W (hW : Below wr.heap.size wr W) => hg _ (List.mem_of_getElem? hx) _ (List.mem_of_getElem? hy) W (BW.out.trans (hW.mono BW.out.size))
        simp only [Fl.pair] at hcall
        have hbw : b' < wr.heap.size := lt_of_cell b0
        clear hx hy hm hlx hly la lb hg ha hb
        by_cases h0 : c (xn, xv) (yn, yv) = 0
        · rw [h0] at hcall
          go_wp2_with fail
          refine (hcall _ (((Below.refl _ _).alloc (Nat.le_refl _) _).alloc (by simp) _)).mono ?_
          rintro e w' ⟨rfl, hb'⟩
          go_wp2
          go_roundg (xs.length - (k + 1))
          case measure => omega
          case rel =>
            refine ⟨k + 1, by omega, by omega, by omega, by go_num, ?_, (show Aside _ from fun j x y hj hx hy => ?_)⟩
            · exact BW.out.trans ((((Below.refl _ _).alloc (Nat.le_refl _) _).alloc (by simp) _).trans (hb'.mono (by simp; omega)) |>.mono BW.out.size)
            · by_cases e : j = k
              · subst e
                rw [HX.out] at hx
                rw [HY.out] at hy
                cases hx
                cases hy
                exact h0
              · exact A.out j x y (by omega) hx hy
        · have h0' : (c (xn, xv) (yn, yv) != 0) = true := by simpa using h0
          go_wp2_with fail
          refine (hcall _ (((Below.refl _ _).alloc (Nat.le_refl _) _).alloc (by simp) _)).mono ?_
          rintro e w' ⟨rfl, hb'⟩
          go_wp2
          go_ret
          refine ⟨?_, BW.out.trans ((((Below.refl _ _).alloc (Nat.le_refl _) _).alloc (by simp) _).trans (hb'.mono (by simp; omega)) |>.mono BW.out.size)⟩
          rw [cmpL_hit c k _ _ (xn, xv) (yn, yv) HX.out HY.out A.out h0]
          rfl
      · have hz : ¬ (k : Int) < (ys.length : Int) := by omega
        clear hg la lb hb hlx hx hm
        go_wp2
        go_ret
        refine ⟨?_, BW.out.trans ((((Below.refl _ _).alloc (Nat.le_refl _) _)).mono BW.out.size)⟩
        rw [cmpL_more c k _ _ (by simpa using hlt) (by simp; omega) A.out]
        rfl
    · have hz : ¬ (k : Int) < (xs.length : Int) := by omega
      have he := cmpL_end c k (xs.map Fl.pair) (ys.map Fl.pair) (by simp; omega) (by simp; omega) A.out
      simp only [List.length_map] at he
      have HE := (show Aside _ from he)
      clear hg la lb ha hb he
      by_cases hl : xs.length < ys.length
      · have hl' : (xs.length : Int) < (ys.length : Int) := by omega
        go_wp2
        go_ret
        refine ⟨?_, BW.out⟩
        rw [HE.out, if_pos hl]
        rfl
      · have hl' : ¬ (xs.length : Int) < (ys.length : Int) := by omega
        go_wp2
        go_ret
        refine ⟨?_, BW.out⟩
        rw [HE.out, if_neg hl]
        rfl
end Go.Proofs.YtjihfbahcebljaaDoor
