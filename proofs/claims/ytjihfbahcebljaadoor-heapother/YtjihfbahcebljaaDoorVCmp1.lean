/-
  cmp.Compare, strings.Compare, slices.CompareFunc at values and at fields, by their contracts. No conditions beyond those stated.
-/
import Derived.Test.YtjihfbahcebljaaDoorVMem
import Derived.Lib.Bytealg
import Derived.Deep.LoopGhost
import Derived.WalkLawsBesides
import Derived.Lib.Walk
namespace Go.Proofs.YtjihfbahcebljaaDoor
open Go.RowKit

theorem cmpK_any (a b : Int) (w : World) : Calls Tryd.prog 30 #[.int .i64 a, .int .i64 b] w fun e w' => e = .returned (.int .i64 (cmpI a b)) ∧ w' = w := by
  unfold cmpI
  by_cases h1 : a < b
  · rw [if_pos h1]
    go_enter Tryd.func30, Tryd.ntmps30
    go_wp2
    go_ret
    exact ⟨rfl, rfl⟩
  · rw [if_neg h1]
    by_cases h2 : b < a
    · rw [if_pos h2]
      go_enter Tryd.func30, Tryd.ntmps30
      go_wp2
      go_ret
      exact ⟨rfl, rfl⟩
    · rw [if_neg h2]
      go_enter Tryd.func30, Tryd.ntmps30
      go_wp2
      go_ret
      exact ⟨rfl, rfl⟩
theorem cmpN_any (a b : Int) (w : World) : Calls Tryd.prog 27 #[.int .i64 a, .int .i64 b] w fun e w' => e = .returned (.int .i64 (cmpI a b)) ∧ w' = w := by
  unfold cmpI
  by_cases h1 : a < b
  · rw [if_pos h1]
    go_enter Tryd.func27, Tryd.ntmps27
    go_wp2
    go_ret
    exact ⟨rfl, rfl⟩
  · rw [if_neg h1]
    by_cases h2 : b < a
    · rw [if_pos h2]
      go_enter Tryd.func27, Tryd.ntmps27
      go_wp2
      go_ret
      exact ⟨rfl, rfl⟩
    · rw [if_neg h2]
      go_enter Tryd.func27, Tryd.ntmps27
      go_wp2
      go_ret
      exact ⟨rfl, rfl⟩

theorem compareBytes_eq : ∀ a b, Lib.compareBytes a b = cmpB a b
  | [], [] => rfl
  | [], _ :: _ => rfl
  | _ :: _, [] => rfl
  | x :: xs, y :: ys => by
    simp only [Lib.compareBytes, cmpB, compareBytes_eq xs ys, UInt8.lt_iff_toNat_lt]
theorem cmpT_data (a b : ByteArray) : cmpT a b = cmpB a.data.toList b.data.toList := by
  unfold cmpT
  rw [Lib.toList_data, Lib.toList_data]

set_option maxHeartbeats 1000000 in
set_option maxRecDepth 100000 in
theorem CompareString_any (a b : ByteArray) (w : World) : Calls Tryd.prog 38 #[.string a, .string b] w fun e w' => e = .returned (.int .i64 (cmpT a b)) ∧ w' = w := by
  rw [cmpT_data, ← compareBytes_eq]
  go_enter Tryd.func38, Tryd.ntmps38
  go_wp2
  rw [run_callFunc_extern Tryd.func39 (by kernel_rfl) (by kernel_rfl) (by kernel_rfl) (e := Extern.BytealgCompare.compare) (by kernel_rfl), Lib.run_compareString]
  simp only [Result.andThen]
  rw [Oper.upon_value]
  go_wp2
  go_ret
  exact ⟨rfl, rfl⟩
theorem Compare_any (a b : ByteArray) (w : World) : Calls Tryd.prog 31 #[.string a, .string b] w fun e w' => e = .returned (.int .i64 (cmpT a b)) ∧ w' = w := by
  go_enter Tryd.func31, Tryd.ntmps31
  go_wp2_with (go_at_call 38; refine (CompareString_any _ _ _).mono ?_; rintro e w' ⟨rfl, rfl⟩)
  go_ret
  exact ⟨rfl, rfl⟩

theorem cmpL_drop {α : Type} (f : α → α → Int) : ∀ (k : Nat) (a b : List α), k ≤ a.length → k ≤ b.length → (∀ j x y, j < k → a[j]? = some x → b[j]? = some y → f x y = 0) → cmpL f a b = cmpL f (a.drop k) (b.drop k)
  | 0, _, _, _, _, _ => rfl
  | k + 1, [], _, h, _, _ => by simp at h
  | k + 1, _ :: _, [], _, h, _ => by simp at h
  | k + 1, x :: a, y :: b, h1, h2, h => by
    have h0 := h 0 x y (by omega) rfl rfl
    simp only [cmpL, if_pos h0, List.drop_succ_cons]
    exact cmpL_drop f k a b (by simpa using h1) (by simpa using h2) fun j u v hj hu hv => h (j + 1) u v (by omega) (by simpa using hu) (by simpa using hv)

theorem cmpL_hit {α : Type} (f : α → α → Int) (k : Nat) (a b : List α) (x y : α) (hx : a[k]? = some x) (hy : b[k]? = some y) (h : ∀ j x y, j < k → a[j]? = some x → b[j]? = some y → f x y = 0) (h0 : ¬ f x y = 0) : cmpL f a b = f x y := by
  have ha := (List.getElem?_eq_some_iff.1 hx).1
  have hb := (List.getElem?_eq_some_iff.1 hy).1
  rw [cmpL_drop f k a b (by omega) (by omega) h]
  have e1 : a.drop k = x :: a.drop (k + 1) := by rw [List.drop_eq_getElem_cons ha]; congr 1; exact (List.getElem?_eq_some_iff.1 hx).2
  have e2 : b.drop k = y :: b.drop (k + 1) := by rw [List.drop_eq_getElem_cons hb]; congr 1; exact (List.getElem?_eq_some_iff.1 hy).2
  rw [e1, e2]
  simp only [cmpL, if_neg h0]
theorem cmpL_more {α : Type} (f : α → α → Int) (k : Nat) (a b : List α) (ha : k < a.length) (hb : k = b.length) (h : ∀ j x y, j < k → a[j]? = some x → b[j]? = some y → f x y = 0) : cmpL f a b = 1 := by
  rw [cmpL_drop f k a b (by omega) (by omega) h]
  have e1 : a.drop k = a[k] :: a.drop (k + 1) := List.drop_eq_getElem_cons ha
  have e2 : b.drop k = [] := List.drop_of_length_le (by omega)
  rw [e1, e2]
  rfl
theorem cmpL_end {α : Type} (f : α → α → Int) (k : Nat) (a b : List α) (ha : k = a.length) (hb : k ≤ b.length) (h : ∀ j x y, j < k → a[j]? = some x → b[j]? = some y → f x y = 0) : cmpL f a b = if a.length < b.length then -1 else 0 := by
  rw [cmpL_drop f k a b (by omega) (by omega) h]
  have e1 : a.drop k = [] := List.drop_of_length_le (by omega)
  rw [e1]
  by_cases hl : a.length < b.length
  · have e2 : b.drop k = b[k] :: b.drop (k + 1) := List.drop_eq_getElem_cons (by omega)
    rw [e2, if_pos hl]; rfl
  · have e2 : b.drop k = [] := List.drop_of_length_le (by omega)
    rw [e2, if_neg hl]; rfl

set_option maxHeartbeats 2000000 in
/-- slices.CompareFunc at values. -/
theorem CompareFuncV_any (g : Nat) (eg : ∀ args w, (callFunc g args).run Tryd.prog w = .ok (.enter g args) w) (c : V → V → Int) (n : Nat)
    (xs ys : List El) (sa sb : Value) (w : World) (ha : RowAt (fun _ => True) w 38 5 sa xs.length (encEs xs)) (hb : RowAt (fun _ => True) w 38 5 sb ys.length (encEs ys))
    (la : ∀ e ∈ xs, Lies n w e.v e.l e.f) (lb : ∀ e ∈ ys, Lies n w e.v e.l e.f)
    (hg : ∀ x ∈ xs, ∀ y ∈ ys, ∀ W, Below w.heap.size w W → Calls Tryd.prog g #[.agg #[.int .i64 x.v.kind, .int .i64 x.v.num, .string x.v.text, x.l, x.f], .agg #[.int .i64 y.v.kind, .int .i64 y.v.num, .string y.v.text, y.l, y.f]] W fun e w' => e = .returned (.int .i64 (c x.v y.v)) ∧ Below W.heap.size W w') :
    Calls Tryd.prog 32 #[sa, sb, .func (.func g) #[] #[]] w fun e w' => e = .returned (.int .i64 (cmpL c (xs.map El.v) (ys.map El.v))) ∧ Below w.heap.size w w' := by
  obtain ⟨aa, ca, rfl⟩ := ha.slice
  obtain ⟨ab, cb, rfl⟩ := hb.slice
  have na := ha.2.1
  have nb := hb.2.1
  go_enter Tryd.func32, Tryd.ntmps32
  go_wp2
  go_loopg [6, 7, 8, 9, 10, 13] xs.length (fun gg _ _ _ _ _ i wr => ∃ k : Nat, k ≤ xs.length ∧ k ≤ ys.length ∧ xs.length - k ≤ gg ∧ i = .int .i64 k ∧ Aside (Below w.heap.size w wr) ∧ Aside (∀ j x y, j < k → (xs.map El.v)[j]? = some x → (ys.map El.v)[j]? = some y → c x y = 0))
  case atStart => exact ⟨0, Nat.zero_le _, Nat.zero_le _, by omega, rfl, Below.refl _ w, fun j _ _ hj => absurd hj (Nat.not_lt_zero _)⟩
  case round =>
    obtain ⟨k, hk, hkb, hgg, rfl, BW, A⟩ := hrel
    by_cases hlt : k < xs.length
    · obtain ⟨b, c', e1, hbl, _, hc1, hc2, _⟩ := ha.cells (by omega)
      simp only [Value.slice.injEq, true_and] at e1
      obtain ⟨rfl, rfl⟩ := e1
      obtain ⟨⟨xv, xl, xf⟩, hx⟩ : ∃ x, xs[k]? = some x := ⟨_, List.getElem?_eq_getElem hlt⟩
      have hm : ∀ b, True → b < w.heap.size → True ∧ wr.heap[b]? = w.heap[b]? := fun b _ h => ⟨trivial, BW.out.block b h⟩
      obtain ⟨a0, a1, a2, a3, a4⟩ := (ha.move hm).el hx
      have hlx : Lies n wr xv xl xf := (la _ (List.mem_of_getElem? hx)).below BW.out
      have HX : Aside ((xs.map El.v)[k]? = some xv) := by show _ = _; rw [List.getElem?_map, hx]; rfl
      simp only at a0 a1 a2 a3 a4
      obtain ⟨al, cl, af, cf, rfl, rfl⟩ := hlx.slices
      by_cases hlt2 : k < ys.length
      · obtain ⟨b', c2, e2, hbl2, _, hc3, hc4, _⟩ := hb.cells (by omega)
        simp only [Value.slice.injEq, true_and] at e2
        obtain ⟨rfl, rfl⟩ := e2
        obtain ⟨⟨yv, yl, yf⟩, hy⟩ : ∃ y, ys[k]? = some y := ⟨_, List.getElem?_eq_getElem hlt2⟩
        obtain ⟨b0, b1, b2, b3, b4⟩ := (hb.move hm).el hy
        have hly : Lies n wr yv yl yf := (lb _ (List.mem_of_getElem? hy)).below BW.out
        have HY : Aside ((ys.map El.v)[k]? = some yv) := by show _ = _; rw [List.getElem?_map, hy]; rfl
        simp only at b0 b1 b2 b3 b4
        obtain ⟨bl, dl, bf, df, rfl, rfl⟩ := hly.slices
        have hcall := fun W (hW : Below wr.heap.size wr W) => hg _ (List.mem_of_getElem? hx) _ (List.mem_of_getElem? hy) W (BW.out.trans (hW.mono BW.out.size))
        simp only at hcall
        have hbw : b' < wr.heap.size := lt_of_cell b0
        clear hx hy hm hlx hly la lb hg ha hb
        by_cases h0 : c xv yv = 0
        · rw [h0] at hcall
          go_wp2_with fail
          refine (hcall _ (((Below.refl _ _).alloc (Nat.le_refl _) _).alloc (by simp) _)).mono ?_
          rintro e w' ⟨rfl, hb'⟩
          go_wp2
          go_roundg (xs.length - (k + 1))
          case measure => omega
          case rel =>
            refine ⟨k + 1, by omega, by omega, by omega, by go_num, ?_, (show Aside _ from fun j x y hj hx hy => ?_)⟩
            · exact BW.out.trans ((((Below.refl _ _).alloc (Nat.le_refl _) _).alloc (by simp) _).trans (hb'.mono (by simp; omega)) |>.mono BW.out.size)
            · by_cases e : j = k
              · subst e
                rw [HX.out] at hx
                rw [HY.out] at hy
                cases hx
                cases hy
                exact h0
              · exact A.out j x y (by omega) hx hy
        · have h0' : (c xv yv != 0) = true := by simpa using h0
          go_wp2_with fail
          refine (hcall _ (((Below.refl _ _).alloc (Nat.le_refl _) _).alloc (by simp) _)).mono ?_
          rintro e w' ⟨rfl, hb'⟩
          go_wp2
          go_ret
          refine ⟨?_, BW.out.trans ((((Below.refl _ _).alloc (Nat.le_refl _) _).alloc (by simp) _).trans (hb'.mono (by simp; omega)) |>.mono BW.out.size)⟩
          rw [cmpL_hit c k _ _ xv yv HX.out HY.out A.out h0]
          rfl
      · have hz : ¬ (k : Int) < (ys.length : Int) := by omega
        clear hg la lb hb hlx hx hm
        go_wp2
        go_ret
        refine ⟨?_, BW.out.trans ((((Below.refl _ _).alloc (Nat.le_refl _) _)).mono BW.out.size)⟩
        rw [cmpL_more c k _ _ (by simpa using hlt) (by simp; omega) A.out]
        rfl
    · have hz : ¬ (k : Int) < (xs.length : Int) := by omega
      have he := cmpL_end c k (xs.map El.v) (ys.map El.v) (by simp; omega) (by simp; omega) A.out
      simp only [List.length_map] at he
      have HE := (show Aside _ from he)
      clear hg la lb ha hb he
      by_cases hl : xs.length < ys.length
      · have hl' : (xs.length : Int) < (ys.length : Int) := by omega
        go_wp2
        go_ret
        refine ⟨?_, BW.out⟩
        rw [HE.out, if_pos hl]
        rfl
      · have hl' : ¬ (xs.length : Int) < (ys.length : Int) := by omega
        go_wp2
        go_ret
        refine ⟨?_, BW.out⟩
        rw [HE.out, if_neg hl]
        rfl
end Go.Proofs.YtjihfbahcebljaaDoor
