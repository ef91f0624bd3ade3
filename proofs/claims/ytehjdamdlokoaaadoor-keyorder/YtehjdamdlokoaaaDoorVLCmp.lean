/-
  The law's sign, Texts and Cmp by their contracts: how two values stand to one another, so deep. No conditions beyond those stated.
-/
import Derived.Test.YtehjdamdlokoaaaDoorVFind
import Derived.Deep.RegionWith
import Derived.Deep.DrawnRows
namespace Go.Proofs.YtehjdamdlokoaaaDoor
open Go.RowKit
attribute [local go_sem ↓] Go.wp_at_zero Go.wp_at_succ

theorem sign_any (a b : Int) (w : World) : Calls Tryd.prog 23 #[.int .i64 a, .int .i64 b] w fun e w' => e = .returned (.int .i64 (cmpI a b)) ∧ w' = w := by
  unfold cmpI
  by_cases h1 : a < b
  · rw [if_pos h1]
    go_enter Tryd.func23, Tryd.ntmps23
    go_wp2
    go_ret
    exact ⟨rfl, rfl⟩
  · rw [if_neg h1]
    by_cases h2 : b < a
    · rw [if_pos h2]
      go_enter Tryd.func23, Tryd.ntmps23
      go_wp2
      go_ret
      exact ⟨rfl, rfl⟩
    · rw [if_neg h2]
      go_enter Tryd.func23, Tryd.ntmps23
      go_wp2
      go_ret
      exact ⟨rfl, rfl⟩
theorem cmpT_range (a b : ByteArray) : cmpT a b = -1 ∨ cmpT a b = 0 ∨ cmpT a b = 1 := cmpB_range _ _
theorem Texts_any (a b : ByteArray) (w : World) : Calls Tryd.prog 13 #[.string a, .string b] w fun e w' => e = .returned (.int .i64 (cmpT a b)) ∧ w' = w := by
  have hl : Op.bytesLess a.toList b.toList = decide (cmpT a b < 0) := bytesLess_eq _ _
  have hg := beq_cmpT a b
  have hr := cmpT_range a b
  generalize cmpT a b = r at *
  rcases hr with rfl | rfl | rfl
  · simp only [show decide ((-1 : Int) < 0) = true from rfl, show decide ((-1 : Int) = 0) = false from rfl] at hl hg
    go_enter Tryd.func13, Tryd.ntmps13
    go_wp2
    go_ret
    exact ⟨rfl, rfl⟩
  · simp only [show decide ((0 : Int) < 0) = false from rfl] at hl hg
    go_enter Tryd.func13, Tryd.ntmps13
    go_wp2
    go_ret
    exact ⟨rfl, rfl⟩
  · simp only [show decide ((1 : Int) < 0) = false from rfl, show decide ((1 : Int) = 0) = false from rfl] at hl hg
    go_enter Tryd.func13, Tryd.ntmps13
    go_wp2
    go_ret
    exact ⟨rfl, rfl⟩

theorem cmpL_stop {α : Type} (f : α → α → Int) (k : Nat) (a b : List α) (ha : k ≤ a.length) (hb : k ≤ b.length) (hs : ¬ (k < a.length ∧ k < b.length)) (h : ∀ j x y, j < k → a[j]? = some x → b[j]? = some y → f x y = 0) : cmpL f a b = cmpI a.length b.length := by
  unfold cmpI
  by_cases h1 : k < a.length
  · rw [cmpL_more f k a b h1 (by omega) h, if_neg (by omega), if_pos (by omega)]
  · rw [cmpL_end f k a b (by omega) hb h]
    by_cases h2 : a.length < b.length
    · rw [if_pos h2, if_pos (by omega)]
    · rw [if_neg h2, if_neg (by omega), if_neg (by omega)]

set_option maxHeartbeats 4000000 in
theorem LCmp_list (n : Nat) (c : V → V → Int) (an bn : Int) (at' bt : ByteArray) (la fa lb fb : Value) (w : World) (xs ys : List El)
    (hxs : RowAt (fun _ => True) w 28 5 la xs.length (encEs xs)) (hys : RowAt (fun _ => True) w 28 5 lb ys.length (encEs ys)) (hfa : ∃ a n c, fa = .slice a n c) (hfb : ∃ a n c, fb = .slice a n c)
    (lx : ∀ e ∈ xs, Lies n w e.v e.l e.f) (ly : ∀ e ∈ ys, Lies n w e.v e.l e.f)
    (hg : ∀ x ∈ xs, ∀ y ∈ ys, ∀ W, Below w.heap.size w W → Calls Tryd.prog 14 #[.agg #[.int .i64 x.v.kind, .int .i64 x.v.num, .string x.v.text, x.l, x.f], .agg #[.int .i64 y.v.kind, .int .i64 y.v.num, .string y.v.text, y.l, y.f]] W fun e w' => e = .returned (.int .i64 (c x.v y.v)) ∧ Below W.heap.size W w') :
    Calls Tryd.prog 14 #[.agg #[.int .i64 4, .int .i64 an, .string at', la, fa], .agg #[.int .i64 4, .int .i64 bn, .string bt, lb, fb]] w
      fun e w' => e = .returned (.int .i64 (cmpL c (xs.map El.v) (ys.map El.v))) ∧ Below w.heap.size w w' := by
  have hB : ∀ (o1 o2 : Obj), Below w.heap.size w ((w.alloc o1).alloc o2) := fun o1 o2 => ((Below.refl _ _).alloc (Nat.le_refl _) _).alloc (by simp) _
  obtain ⟨aa, ca, rfl⟩ := hxs.slice
  obtain ⟨ab, cb, rfl⟩ := hys.slice
  obtain ⟨a5, n5, c5, rfl⟩ := hfa
  obtain ⟨a6, n6, c6, rfl⟩ := hfb
  have na := hxs.2.1
  have nb := hys.2.1
  go_enter Tryd.func14, Tryd.ntmps14
  go_wp2
  go_loopg [4, 5, 6] xs.length (fun gg _ i _ wr => ∃ k : Nat, k ≤ xs.length ∧ k ≤ ys.length ∧ xs.length - k ≤ gg ∧ i = .int .i64 k ∧ Aside (Below w.heap.size w wr ∧ wr.heap[w.heap.size]? = some (.cells #[.int .i64 4, .int .i64 an, .string at', .slice aa xs.length ca, .slice a5 n5 c5] 28 (0, 0)) ∧ wr.heap[w.heap.size + 1]? = some (.cells #[.int .i64 4, .int .i64 bn, .string bt, .slice ab ys.length cb, .slice a6 n6 c6] 28 (0, 0))) ∧ Aside (∀ j x y, j < k → (xs.map El.v)[j]? = some x → (ys.map El.v)[j]? = some y → c x y = 0))
  case atStart => exact ⟨0, Nat.zero_le _, Nat.zero_le _, by omega, rfl, ⟨hB _ _, heap_alloc2_old, heap_alloc2_new⟩, fun j _ _ hj => absurd hj (Nat.not_lt_zero _)⟩
  case round =>
    obtain ⟨k, hk, hkb, hgg, rfl, BW, A⟩ := hrel
    obtain ⟨hBw, hr0, hr1⟩ := BW.out
    obtain ⟨p0, p1, p2, p3, p4, pf⟩ := row5 hr0
    obtain ⟨q0, q1, q2, q3, q4, qf⟩ := row5 hr1
    by_cases hlt : k < xs.length ∧ k < ys.length
    · obtain ⟨hlt1, hlt2⟩ := hlt
      obtain ⟨b, c', e1, hbl, _, hc1, hc2, _⟩ := hxs.cells (by omega)
      simp only [Value.slice.injEq, true_and] at e1
      obtain ⟨rfl, rfl⟩ := e1
      obtain ⟨b', c2, e2, hbl2, _, hc3, hc4, _⟩ := hys.cells (by omega)
      simp only [Value.slice.injEq, true_and] at e2
      obtain ⟨rfl, rfl⟩ := e2
      obtain ⟨⟨xv, xl, xf⟩, hx⟩ : ∃ x, xs[k]? = some x := ⟨_, List.getElem?_eq_getElem hlt1⟩
      obtain ⟨⟨yv, yl, yf⟩, hy⟩ : ∃ y, ys[k]? = some y := ⟨_, List.getElem?_eq_getElem hlt2⟩
      have hm : ∀ b, True → b < w.heap.size → True ∧ wr.heap[b]? = w.heap[b]? := fun b _ h => ⟨trivial, hBw.block b h⟩
      obtain ⟨a0, a1, a2, a3, a4⟩ := (hxs.move hm).el hx
      obtain ⟨b0, b1, b2, b3, b4⟩ := (hys.move hm).el hy
      have hlx : Lies n wr xv xl xf := (lx _ (List.mem_of_getElem? hx)).below hBw
      have hly : Lies n wr yv yl yf := (ly _ (List.mem_of_getElem? hy)).below hBw
      have HX : Aside ((xs.map El.v)[k]? = some xv) := by show _ = _; rw [List.getElem?_map, hx]; rfl
      have HY : Aside ((ys.map El.v)[k]? = some yv) := by show _ = _; rw [List.getElem?_map, hy]; rfl
      simp only at a0 a1 a2 a3 a4 b0 b1 b2 b3 b4
      obtain ⟨al, cl, af, cf, rfl, rfl⟩ := hlx.slices
      obtain ⟨bl, dl, bf, df, rfl, rfl⟩ := hly.slices
      have hcall := hg _ (List.mem_of_getElem? hx) _ (List.mem_of_getElem? hy) wr.drew hBw.drew
      simp only at hcall
      have z1 : (k : Int) < (xs.length : Int) := by omega
      have z2 : (k : Int) < (ys.length : Int) := by omega
      have z0 : (0 : Int) ≤ (k : Int) := by omega
      clear hx hy hm hlx hly lx ly hg hxs hys hr0 hr1
      by_cases h0 : c xv yv = 0
      · rw [h0] at hcall
        go_wp2_with fail
        go_region_with (go_at_call 14; refine hcall.mono ?_; rintro e w' ⟨rfl, hb'⟩)
        all_goals
          go_wp2
          go_roundg (xs.length - (k + 1))
          case measure => omega
          case rel =>
            obtain ⟨hBw, hr0, hr1⟩ := BW.out
            have hb2 : Below wr.heap.size wr w' := ⟨hb'.os, hb'.tape, hb'.output, hb'.size, hb'.block⟩
            refine ⟨k + 1, by omega, by omega, by omega, by go_num, ⟨hBw.trans (hb2.mono hBw.size), (hb2.block _ (lt_of_heap hr0)).trans hr0, (hb2.block _ (lt_of_heap hr1)).trans hr1⟩, (show Aside _ from fun j x y hj hx hy => ?_)⟩
            by_cases e : j = k
            · subst e
              rw [HX.out] at hx
              rw [HY.out] at hy
              cases hx
              cases hy
              exact h0
            · exact A.out j x y (by omega) hx hy
      · have h0' : (c xv yv != 0) = true := by simpa using h0
        go_wp2_with fail
        go_region_with (go_at_call 14; refine hcall.mono ?_; rintro e w' ⟨rfl, hb'⟩)
        all_goals
          go_wp2
          go_ret
          have hb2 : Below wr.heap.size wr w' := ⟨hb'.os, hb'.tape, hb'.output, hb'.size, hb'.block⟩
          refine ⟨?_, hBw.trans (hb2.mono hBw.size)⟩
          rw [cmpL_hit c k _ _ xv yv HX.out HY.out A.out h0]
          rfl
    · have he := cmpL_stop c k (xs.map El.v) (ys.map El.v) (by simpa using hk) (by simpa using hkb) (by simpa using hlt) A.out
      simp only [List.length_map] at he
      have HE := (show Aside _ from he)
      clear hg lx ly hxs hys he hr0 hr1
      by_cases h1 : k < xs.length
      · have z1 : (k : Int) < (xs.length : Int) := by omega
        have z2 : ¬ (k : Int) < (ys.length : Int) := by omega
        go_wp2_with (go_at_call 23; refine (sign_any _ _ _).mono ?_; rintro e w' ⟨rfl, rfl⟩)
        go_ret
        refine ⟨?_, hBw⟩
        rw [HE.out]
        rfl
      · have z1 : ¬ (k : Int) < (xs.length : Int) := by omega
        go_wp2_with (go_at_call 23; refine (sign_any _ _ _).mono ?_; rintro e w' ⟨rfl, rfl⟩)
        go_ret
        refine ⟨?_, hBw⟩
        rw [HE.out]
        rfl
end Go.Proofs.YtehjdamdlokoaaaDoor
