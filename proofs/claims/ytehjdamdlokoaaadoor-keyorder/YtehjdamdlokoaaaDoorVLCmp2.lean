/-
  The law's Cmp at objects, and at every value, by its contract. No conditions beyond those stated.
-/
import Derived.Test.YtehjdamdlokoaaaDoorVLCmp
namespace Go.Proofs.YtehjdamdlokoaaaDoor
open Go.RowKit
attribute [local go_sem ↓] Go.wp_at_zero Go.wp_at_succ

set_option maxHeartbeats 4000000 in
theorem LCmp_obj (n : Nat) (c : V → V → Int) (an bn : Int) (at' bt : ByteArray) (la fa lb fb : Value) (w : World) (xs ys : List Fl)
    (hxs : RowAt (fun _ => True) w 50 6 fa xs.length (encFs xs)) (hys : RowAt (fun _ => True) w 50 6 fb ys.length (encFs ys)) (hfa : ∃ a n c, la = .slice a n c) (hfb : ∃ a n c, lb = .slice a n c)
    (lx : ∀ e ∈ xs, Lies n w e.v e.l e.f) (ly : ∀ e ∈ ys, Lies n w e.v e.l e.f)
    (hg : ∀ x ∈ xs, ∀ y ∈ ys, ∀ W, Below w.heap.size w W → Calls Tryd.prog 14 #[.agg #[.int .i64 x.v.kind, .int .i64 x.v.num, .string x.v.text, x.l, x.f], .agg #[.int .i64 y.v.kind, .int .i64 y.v.num, .string y.v.text, y.l, y.f]] W fun e w' => e = .returned (.int .i64 (c x.v y.v)) ∧ Below W.heap.size W w') :
    Calls Tryd.prog 14 #[.agg #[.int .i64 5, .int .i64 an, .string at', la, fa], .agg #[.int .i64 5, .int .i64 bn, .string bt, lb, fb]] w
      fun e w' => e = .returned (.int .i64 (cmpL (cmpF c) (xs.map Fl.pair) (ys.map Fl.pair))) ∧ Below w.heap.size w w' := by
  have hB : ∀ (o1 o2 : Obj), Below w.heap.size w ((w.alloc o1).alloc o2) := fun o1 o2 => ((Below.refl _ _).alloc (Nat.le_refl _) _).alloc (by simp) _
  obtain ⟨aa, ca, rfl⟩ := hxs.slice
  obtain ⟨ab, cb, rfl⟩ := hys.slice
  obtain ⟨a5, n5, c5, rfl⟩ := hfa
  obtain ⟨a6, n6, c6, rfl⟩ := hfb
  have na := hxs.2.1
  have nb := hys.2.1
  go_enter Tryd.func14, Tryd.ntmps14
  go_wp2
  go_loopg [4, 7, 8, 9] xs.length (fun gg _ i _ _ wr => ∃ k : Nat, k ≤ xs.length ∧ k ≤ ys.length ∧ xs.length - k ≤ gg ∧ i = .int .i64 k ∧ Aside (Below w.heap.size w wr ∧ wr.heap[w.heap.size]? = some (.cells #[.int .i64 5, .int .i64 an, .string at', .slice a5 n5 c5, .slice aa xs.length ca] 28 (0, 0)) ∧ wr.heap[w.heap.size + 1]? = some (.cells #[.int .i64 5, .int .i64 bn, .string bt, .slice a6 n6 c6, .slice ab ys.length cb] 28 (0, 0))) ∧ Aside (∀ j x y, j < k → (xs.map Fl.pair)[j]? = some x → (ys.map Fl.pair)[j]? = some y → cmpF c x y = 0))
  case atStart => exact ⟨0, Nat.zero_le _, Nat.zero_le _, by omega, rfl, ⟨hB _ _, heap_alloc2_old, heap_alloc2_new⟩, fun j _ _ hj => absurd hj (Nat.not_lt_zero _)⟩
  case round =>
    obtain ⟨k, hk, hkb, hgg, rfl, BW, A⟩ := hrel
    obtain ⟨hBw, hr0, hr1⟩ := BW.out
    obtain ⟨p0, p1, p2, p3, p4, pf⟩ := row5 hr0
    obtain ⟨q0, q1, q2, q3, q4, qf⟩ := row5 hr1
    by_cases hlt : k < xs.length ∧ k < ys.length
    · obtain ⟨hlt1, hlt2⟩ := hlt
      obtain ⟨b, c', e1, hbl, _, hc1, hc2, _⟩ := hxs.cells (by omega)
      simp only [Value.slice.injEq, true_and] at e1
      obtain ⟨rfl, rfl⟩ := e1
      obtain ⟨b', c2, e2, hbl2, _, hc3, hc4, _⟩ := hys.cells (by omega)
      simp only [Value.slice.injEq, true_and] at e2
      obtain ⟨rfl, rfl⟩ := e2
      obtain ⟨⟨xn, xv, xl, xf⟩, hx⟩ : ∃ x, xs[k]? = some x := ⟨_, List.getElem?_eq_getElem hlt1⟩
      obtain ⟨⟨yn, yv, yl, yf⟩, hy⟩ : ∃ y, ys[k]? = some y := ⟨_, List.getElem?_eq_getElem hlt2⟩
      have hm : ∀ b, True → b < w.heap.size → True ∧ wr.heap[b]? = w.heap[b]? := fun b _ h => ⟨trivial, hBw.block b h⟩
      obtain ⟨a0, a1, a2, a3, a4, a5'⟩ := (hxs.move hm).fl hx
      obtain ⟨b0, b1, b2, b3, b4, b5⟩ := (hys.move hm).fl hy
      have hlx : Lies n wr xv xl xf := (lx _ (List.mem_of_getElem? hx)).below hBw
      have hly : Lies n wr yv yl yf := (ly _ (List.mem_of_getElem? hy)).below hBw
      have HX : Aside ((xs.map Fl.pair)[k]? = some (xn, xv)) := by show _ = _; rw [List.getElem?_map, hx]; rfl
      have HY : Aside ((ys.map Fl.pair)[k]? = some (yn, yv)) := by show _ = _; rw [List.getElem?_map, hy]; rfl
      simp only at a0 a1 a2 a3 a4 a5' b0 b1 b2 b3 b4 b5
      obtain ⟨al, cl, af, cf, rfl, rfl⟩ := hlx.slices
      obtain ⟨bl, dl, bf, df, rfl, rfl⟩ := hly.slices
      have hcallW := fun W (hW : Below wr.heap.size wr W) => hg _ (List.mem_of_getElem? hx) _ (List.mem_of_getElem? hy) W (hBw.trans (hW.mono hBw.size))
      simp only at hcallW
      have z1 : (k : Int) < (xs.length : Int) := by omega
      have z2 : (k : Int) < (ys.length : Int) := by omega
      have z0 : (0 : Int) ≤ (k : Int) := by omega
      clear hx hy hm hlx hly lx ly hg hxs hys hr0 hr1
      have hcall2 : ∀ W, Below wr.heap.size wr W → Calls Tryd.prog 14 #[.agg #[.int .i64 xv.kind, .int .i64 xv.num, .string xv.text, .slice al xv.list.length cl, .slice af xv.fields.length cf], .agg #[.int .i64 yv.kind, .int .i64 yv.num, .string yv.text, .slice bl yv.list.length dl, .slice bf yv.fields.length df]] W fun e w' => e = .returned (.int .i64 (c xv yv)) ∧ Below W.heap.size W w' := hcallW
      clear hcallW
      by_cases ht : cmpT xn yn = 0
      · have HF : Aside (cmpF c (xn, xv) (yn, yv) = c xv yv) := by show _ = _; unfold cmpF; rw [if_pos ht]
        have hte := Texts_any xn yn wr.drew
        rw [ht] at hte
        by_cases h0 : c xv yv = 0
        · rw [h0] at hcall2
          go_wp2_with fail
          go_region_with (go_at_call 13; refine hte.mono ?_; rintro e w' ⟨rfl, rfl⟩)
          all_goals
            go_wp2_with fail
            go_region_with (go_at_call 14; refine (hcall2 _ ((Below.refl _ _).drew.drew)).mono ?_; rintro e w' ⟨rfl, hb'⟩)
            all_goals
              go_wp2
              go_roundg (xs.length - (k + 1))
              case measure => omega
              case rel =>
                obtain ⟨hBw, hr0, hr1⟩ := BW.out
                have hb2 : Below wr.heap.size wr w' := ⟨hb'.os, hb'.tape, hb'.output, hb'.size, hb'.block⟩
                refine ⟨k + 1, by omega, by omega, by omega, by go_num, ⟨hBw.trans (hb2.mono hBw.size), (hb2.block _ (lt_of_heap hr0)).trans hr0, (hb2.block _ (lt_of_heap hr1)).trans hr1⟩, (show Aside _ from fun j x y hj hx hy => ?_)⟩
                by_cases e : j = k
                · subst e
                  rw [HX.out] at hx
                  rw [HY.out] at hy
                  cases hx
                  cases hy
                  rw [HF.out]; exact h0
                · exact A.out j x y (by omega) hx hy
        · have h0' : (c xv yv != 0) = true := by simpa using h0
          go_wp2_with fail
          go_region_with (go_at_call 13; refine hte.mono ?_; rintro e w' ⟨rfl, rfl⟩)
          all_goals
            go_wp2_with fail
            go_region_with (go_at_call 14; refine (hcall2 _ ((Below.refl _ _).drew.drew)).mono ?_; rintro e w' ⟨rfl, hb'⟩)
            all_goals
              go_wp2
              go_ret
              have hb2 : Below wr.heap.size wr w' := ⟨hb'.os, hb'.tape, hb'.output, hb'.size, hb'.block⟩
              refine ⟨?_, hBw.trans (hb2.mono hBw.size)⟩
              rw [cmpL_hit (cmpF c) k _ _ (xn, xv) (yn, yv) HX.out HY.out A.out (by rw [HF.out]; exact h0), HF.out]
              rfl
      · have HF : Aside (cmpF c (xn, xv) (yn, yv) = cmpT xn yn) := by show _ = _; unfold cmpF; rw [if_neg ht]
        have hte := Texts_any xn yn wr.drew
        have h0' : (cmpT xn yn != 0) = true := by simpa using ht
        obtain ⟨r, hr⟩ : ∃ r, cmpT xn yn = r := ⟨_, rfl⟩
        rw [hr] at hte h0' HF
        have HR := (show Aside _ from hr)
        clear hr hcall2
        go_wp2_with fail
        go_region_with (go_at_call 13; refine hte.mono ?_; rintro e w' ⟨rfl, rfl⟩)
        all_goals
          go_wp2
          go_ret
          refine ⟨?_, hBw.drew⟩
          rw [cmpL_hit (cmpF c) k _ _ (xn, xv) (yn, yv) HX.out HY.out A.out (by rw [HF.out, ← HR.out]; exact ht), HF.out]
          rfl
    · have he := cmpL_stop (cmpF c) k (xs.map Fl.pair) (ys.map Fl.pair) (by simpa using hk) (by simpa using hkb) (by simpa using hlt) A.out
      simp only [List.length_map] at he
      have HE := (show Aside _ from he)
      clear hg lx ly hxs hys he hr0 hr1
      by_cases h1 : k < xs.length
      · have z1 : (k : Int) < (xs.length : Int) := by omega
        have z2 : ¬ (k : Int) < (ys.length : Int) := by omega
        go_wp2_with (go_at_call 23; refine (sign_any _ _ _).mono ?_; rintro e w' ⟨rfl, rfl⟩)
        go_ret
        refine ⟨?_, hBw⟩
        rw [HE.out]
        rfl
      · have z1 : ¬ (k : Int) < (xs.length : Int) := by omega
        go_wp2_with (go_at_call 23; refine (sign_any _ _ _).mono ?_; rintro e w' ⟨rfl, rfl⟩)
        go_ret
        refine ⟨?_, hBw⟩
        rw [HE.out]
        rfl
end Go.Proofs.YtehjdamdlokoaaaDoor
